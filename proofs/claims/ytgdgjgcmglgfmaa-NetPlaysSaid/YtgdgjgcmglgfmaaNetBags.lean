/- Plain mathematics: bags by their links. No condition. -/
import Derived.Test.YtgdgjgcmglgfmaaNetMap
namespace Go.Proofs.Ytgdgjgcmglgfmaa

open Go.RowKit

set_option linter.unusedVariables false
set_option linter.unusedSimpArgs false

abbrev Pk := List UInt8
abbrev Bags := List (Lk × List Pk)
def getB (bs : Bags) (k : Lk) : List Pk := match bs.find? (fun x => decide (x.1 = k)) with
  | some x => x.2
  | none => []
def putB' (bs : Bags) (k : Lk) (l : List Pk) : Bags := if k ∈ bs.map (·.1) then bs.map (fun x => if x.1 = k then (k, l) else x) else bs ++ [(k, l)]
def delB (bs : Bags) (k : Lk) : Bags := bs.filter fun x => !decide (x.1 = k)
def keepB (bs : Bags) (k : Lk) (l : List Pk) : Bags := if l = [] then delB bs k else putB' bs k l
def tot (bs : Bags) : Nat := (bs.map (·.2.length)).sum
structure Good (bs : Bags) : Prop where
  nd : (bs.map (·.1)).Nodup
  ne : ∀ x ∈ bs, x.2 ≠ []
theorem getB_cons (x : Lk × List Pk) (bs : Bags) (k : Lk) : getB (x :: bs) k = if x.1 = k then x.2 else getB bs k := by
  unfold getB
  rw [List.find?_cons]
  by_cases h : x.1 = k <;> simp [h]
theorem getB_none {bs : Bags} {k : Lk} (h : k ∉ bs.map (·.1)) : getB bs k = [] := by
  induction bs with
  | nil => rfl
  | cons x bs ih =>
    simp only [List.map_cons, List.mem_cons, not_or] at h
    rw [getB_cons, if_neg (Ne.symm h.1), ih h.2]
theorem getB_mem {bs : Bags} (hn : (bs.map (·.1)).Nodup) {x : Lk × List Pk} (hx : x ∈ bs) : getB bs x.1 = x.2 := by
  induction bs with
  | nil => cases hx
  | cons y bs ih =>
    simp only [List.map_cons, List.nodup_cons] at hn
    rw [getB_cons]
    rcases List.mem_cons.1 hx with rfl | hx
    · rw [if_pos rfl]
    · have hne : ¬ y.1 = x.1 := fun e => hn.1 (by rw [e]; exact List.mem_map.2 ⟨x, hx, rfl⟩)
      rw [if_neg hne, ih hn.2 hx]
theorem delB_cons (x : Lk × List Pk) (bs : Bags) (k : Lk) : delB (x :: bs) k = if x.1 = k then delB bs k else x :: delB bs k := by
  unfold delB
  rw [List.filter_cons]
  by_cases h : x.1 = k <;> simp [h]
theorem getB_del (bs : Bags) (k k' : Lk) : getB (delB bs k) k' = if k' = k then [] else getB bs k' := by
  induction bs with
  | nil => simp [delB, getB]
  | cons x bs ih =>
    rw [delB_cons]
    by_cases h : x.1 = k
    · rw [if_pos h, ih, getB_cons]
      by_cases hk : k' = k
      · rw [if_pos hk, if_pos hk]
      · rw [if_neg hk, if_neg hk, if_neg (fun e => hk (e.symm.trans h))]
    · rw [if_neg h, getB_cons, getB_cons, ih]
      by_cases hk : x.1 = k'
      · rw [if_pos hk, if_pos hk, if_neg (fun e => h (hk.trans e))]
      · rw [if_neg hk, if_neg hk]
theorem getB_map (bs : Bags) (k k' : Lk) (l : List Pk) (h : k ∈ bs.map (·.1)) : getB (bs.map (fun x => if x.1 = k then (k, l) else x)) k' = if k' = k then l else getB bs k' := by
  have hno : ∀ (bs : Bags), k' ≠ k → getB (bs.map (fun x => if x.1 = k then (k, l) else x)) k' = getB bs k' := by
    intro bs hne
    induction bs with
    | nil => rfl
    | cons x bs ih =>
      rw [List.map_cons, getB_cons, getB_cons, ih]
      by_cases hx : x.1 = k
      · rw [if_pos hx, if_neg (Ne.symm hne), if_neg (fun e => hne (e.symm.trans hx))]
      · rw [if_neg hx]
  by_cases hk : k' = k
  · subst hk
    rw [if_pos rfl]
    induction bs with
    | nil => cases h
    | cons x bs ih =>
      rw [List.map_cons, getB_cons]
      by_cases hx : x.1 = k'
      · rw [if_pos hx, if_pos rfl]
      · rw [if_neg hx, if_neg hx]
        refine ih ?_
        rcases List.mem_cons.1 h with h | h
        · exact absurd h.symm hx
        · exact h
  · rw [if_neg hk, hno bs hk]
theorem getB_app (bs : Bags) (k k' : Lk) (l : List Pk) (h : k ∉ bs.map (·.1)) : getB (bs ++ [(k, l)]) k' = if k' = k then l else getB bs k' := by
  induction bs with
  | nil =>
    rw [List.nil_append, getB_cons]
    by_cases hk : k' = k
    · rw [if_pos hk, if_pos hk.symm]
    · rw [if_neg hk, if_neg (Ne.symm hk)]
  | cons x bs ih =>
    simp only [List.map_cons, List.mem_cons, not_or] at h
    rw [List.cons_append, getB_cons, getB_cons, ih h.2]
    by_cases hk : x.1 = k'
    · rw [if_pos hk, if_pos hk, if_neg (fun e => h.1 (e.symm.trans hk.symm))]
    · rw [if_neg hk, if_neg hk]
theorem getB_put (bs : Bags) (k k' : Lk) (l : List Pk) : getB (putB' bs k l) k' = if k' = k then l else getB bs k' := by
  unfold putB'
  by_cases h : k ∈ bs.map (·.1)
  · rw [if_pos h, getB_map bs k k' l h]
  · rw [if_neg h, getB_app bs k k' l h]
theorem getB_keep (bs : Bags) (k k' : Lk) (l : List Pk) : getB (keepB bs k l) k' = if k' = k then l else getB bs k' := by
  unfold keepB
  by_cases h : l = []
  · rw [if_pos h, getB_del, h]
  · rw [if_neg h, getB_put]
theorem keys_map (bs : Bags) (k : Lk) (l : List Pk) : (bs.map (fun x => if x.1 = k then (k, l) else x)).map (·.1) = bs.map (·.1) := by
  rw [List.map_map]
  refine List.map_congr_left fun x hx => ?_
  show (if x.1 = k then (k, l) else x).1 = x.1
  by_cases h : x.1 = k
  · rw [if_pos h]; exact h.symm
  · rw [if_neg h]
theorem good_keep {bs : Bags} (h : Good bs) (k : Lk) (l : List Pk) : Good (keepB bs k l) := by
  unfold keepB
  by_cases hl : l = []
  · rw [if_pos hl]
    exact ⟨(List.filter_sublist.map _).nodup h.nd, fun x hx => h.ne x (List.mem_filter.1 hx).1⟩
  · rw [if_neg hl]
    unfold putB'
    by_cases hk : k ∈ bs.map (·.1)
    · rw [if_pos hk]
      refine ⟨by rw [keys_map]; exact h.nd, fun x hx => ?_⟩
      obtain ⟨y, hy, rfl⟩ := List.mem_map.1 hx
      by_cases hyk : y.1 = k
      · rw [if_pos hyk]; exact hl
      · rw [if_neg hyk]; exact h.ne y hy
    · rw [if_neg hk]
      refine ⟨?_, fun x hx => ?_⟩
      · rw [List.map_append, List.nodup_append]
        refine ⟨h.nd, by simp, fun a ha b hb => ?_⟩
        simp at hb
        rw [hb]
        exact fun e => hk (e ▸ ha)
      · rcases List.mem_append.1 hx with hx | hx
        · exact h.ne x hx
        · simp at hx; rw [hx]; exact hl
theorem tot_nil : tot [] = 0 := rfl
theorem tot_cons (x : Lk × List Pk) (bs : Bags) : tot (x :: bs) = x.2.length + tot bs := by simp [tot]
theorem tot_app (cs bs : Bags) : tot (cs ++ bs) = tot cs + tot bs := by simp [tot]
theorem tot_del {bs : Bags} (hn : (bs.map (·.1)).Nodup) (k : Lk) : tot (delB bs k) + (getB bs k).length = tot bs := by
  induction bs with
  | nil => rfl
  | cons x bs ih =>
    simp only [List.map_cons, List.nodup_cons] at hn
    have h1 := ih hn.2
    rw [delB_cons, getB_cons, tot_cons]
    by_cases h : x.1 = k
    · rw [if_pos h, if_pos h]
      rw [getB_none (fun e => hn.1 (h ▸ e))] at h1
      simp at h1
      omega
    · rw [if_neg h, if_neg h, tot_cons]; omega
theorem tot_map {bs : Bags} (hn : (bs.map (·.1)).Nodup) (k : Lk) (l : List Pk) (hk : k ∈ bs.map (·.1)) : tot (bs.map (fun x => if x.1 = k then (k, l) else x)) + (getB bs k).length = tot bs + l.length := by
  induction bs with
  | nil => cases hk
  | cons x bs ih =>
    simp only [List.map_cons, List.nodup_cons] at hn
    rw [List.map_cons, tot_cons, tot_cons, getB_cons]
    by_cases h : x.1 = k
    · rw [if_pos h, if_pos h]
      have hno : bs.map (fun x => if x.1 = k then (k, l) else x) = bs := by
        conv => rhs; rw [← List.map_id bs]
        refine List.map_congr_left fun y hy => ?_
        rw [if_neg (fun e => hn.1 (by rw [h, ← e]; exact List.mem_map.2 ⟨y, hy, rfl⟩))]; rfl
      rw [hno]
      simp only
      omega
    · rw [if_neg h, if_neg h]
      have hk' : k ∈ bs.map (·.1) := by
        rcases List.mem_cons.1 hk with e | e
        · exact absurd e.symm h
        · exact e
      have := ih hn.2 hk'
      omega
theorem tot_keep {bs : Bags} (h : Good bs) (k : Lk) (l : List Pk) : tot (keepB bs k l) + (getB bs k).length = tot bs + l.length := by
  unfold keepB
  by_cases hl : l = []
  · rw [if_pos hl, hl]
    have := tot_del h.nd k
    simpa using this
  · rw [if_neg hl]
    unfold putB'
    by_cases hk : k ∈ bs.map (·.1)
    · rw [if_pos hk]; exact tot_map h.nd k l hk
    · rw [if_neg hk, tot_app, getB_none hk]
      simp [tot]
theorem tot_zero {bs : Bags} (h : Good bs) (ht : tot bs = 0) : bs = [] := by
  cases bs with
  | nil => rfl
  | cons x bs =>
    rw [tot_cons] at ht
    have h1 := h.ne x (List.mem_cons_self ..)
    have : x.2.length = 0 := by omega
    exact absurd (List.eq_nil_of_length_eq_zero this) h1
theorem good_nil : Good [] := ⟨by simp, fun x hx => by cases hx⟩
end Go.Proofs.Ytgdgjgcmglgfmaa
