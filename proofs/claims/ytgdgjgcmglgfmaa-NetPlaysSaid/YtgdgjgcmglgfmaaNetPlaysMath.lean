/- Plain mathematics: the program's bags and the document's packets agree. No condition. -/
import Derived.Test.YtgdgjgcmglgfmaaNetRefMove
import Derived.Test.YtgdgjgcmglgfmaaNetClear
import Derived.Test.YtgdgjgcmglgfmaaNetKeepsMath
namespace Go.Proofs.Ytgdgjgcmglgfmaa

open Go.RowKit

set_option linter.unusedVariables false
set_option linter.unusedSimpArgs false

/-- Link by link they hold the same. -/
structure Agree (bs : Bags) (ps : List Pc) : Prop where
  good : Good bs
  get : ∀ k, getB bs k = (fl ps k).map (·.l)
theorem fl_app (A B : List Pc) (k : Lk) : fl (A ++ B) k = fl A k ++ fl B k := by simp [fl]
theorem fl_cons (p : Pc) (B : List Pc) (k : Lk) : fl (p :: B) k = if p.k = k then p :: fl B k else fl B k := by
  unfold fl
  rw [List.filter_cons]
  by_cases h : p.k = k <;> simp [h]
theorem fl_mem {ps : List Pc} {k : Lk} {p : Pc} : p ∈ fl ps k ↔ p ∈ ps ∧ p.k = k := by unfold fl; simp
theorem fl_id {ps : List Pc} {k : Lk} (h : ∀ p ∈ ps, p.k = k) : fl ps k = ps := List.filter_eq_self.2 fun p hp => by simp [h p hp]
theorem fl_no {ps : List Pc} {k : Lk} (h : ∀ p ∈ ps, p.k ≠ k) : fl ps k = [] := List.filter_eq_nil_iff.2 fun p hp => by simp [h p hp]
theorem split_at {ps : List Pc} {i : Nat} (hi : i < ps.length) : ps = ps.take i ++ ps[i] :: ps.drop (i + 1) := by rw [List.getElem_cons_drop, List.take_append_drop]
theorem fl_split {ps : List Pc} {k : Lk} {i : Nat} (hi : i < ps.length) (hk : ps[i].k = k) : fl ps k = fl (ps.take i) k ++ ps[i] :: fl (ps.drop (i + 1)) k := by
  conv => lhs; rw [split_at hi]
  rw [fl_app, fl_cons, if_pos hk]
theorem fl_get {ps : List Pc} {k : Lk} {i : Nat} (hi : i < ps.length) (hk : ps[i].k = k) : (fl ps k)[cnt (ps.take i) k]? = some ps[i] := by
  rw [fl_split hi hk, List.getElem?_append_right (by rw [fl_len]; exact Nat.le_refl _), fl_len, Nat.sub_self]
  rfl
theorem fl_erase {ps : List Pc} {k : Lk} {i : Nat} (hi : i < ps.length) (hk : ps[i].k = k) : fl (ps.eraseIdx i) k = (fl ps k).eraseIdx (cnt (ps.take i) k) := by
  rw [List.eraseIdx_eq_take_drop_succ, fl_app, fl_split hi hk, List.eraseIdx_append_of_length_le (by rw [fl_len]; exact Nat.le_refl _), fl_len, Nat.sub_self]
  rfl
theorem fl_erase_ne {ps : List Pc} {k : Lk} {i : Nat} (hi : i < ps.length) (hk : ps[i].k ≠ k) : fl (ps.eraseIdx i) k = fl ps k := by
  rw [List.eraseIdx_eq_take_drop_succ, fl_app]
  conv => rhs; rw [split_at hi]
  rw [fl_app, fl_cons, if_neg hk]
theorem agree_nil : Agree [] [] := ⟨good_nil, fun k => rfl⟩
section

variable {bs : Bags} {ps : List Pc}

theorem Agree.len (h : Agree bs ps) (k : Lk) : (getB bs k).length = cnt ps k := by rw [h.get, List.length_map, fl_len]
theorem Agree.send (h : Agree bs ps) (p : Pc) (k : Lk) (hk : p.k = k) : Agree (keepB bs k (getB bs k ++ [p.l])) (ps ++ [p]) := by
  refine ⟨good_keep h.good _ _, fun k' => ?_⟩
  rw [getB_keep, fl_app]
  by_cases e : k' = k
  · subst e
    rw [if_pos rfl, h.get, fl_cons, if_pos hk]
    simp [fl]
  · rw [if_neg e, h.get, fl_cons, if_neg (fun e2 => e (e2.symm.trans hk))]
    simp [fl]
theorem Agree.at_ (h : Agree bs ps) {i : Nat} (hi : i < ps.length) {k : Lk} (hk : ps[i].k = k) : (getB bs k)[cnt (ps.take i) k]? = some ps[i].l := by
  rw [h.get, List.getElem?_map, fl_get hi hk]; rfl
theorem Agree.take (h : Agree bs ps) {i : Nat} (hi : i < ps.length) {k : Lk} (hk : ps[i].k = k) : Agree (keepB bs k ((getB bs k).eraseIdx (cnt (ps.take i) k))) (ps.eraseIdx i) := by
  refine ⟨good_keep h.good _ _, fun k' => ?_⟩
  rw [getB_keep]
  by_cases e : k' = k
  · subst e
    rw [if_pos rfl, h.get, fl_erase hi hk, eraseIdx_map]
  · rw [if_neg e, h.get, fl_erase_ne hi (fun e2 => e (e2.symm.trans hk))]
theorem keepQ_one {f t : Int} {p : Pc} : keepQ f t true p = decide (p.k ≠ (f, t)) := by
  unfold keepQ
  rcases lk_cases p.k f t with ⟨h1, h2, h3⟩ | ⟨h1, h2, h3⟩ | ⟨h1, h3⟩
  · simp [h3]
  · simp [h2, h3]
  · simp [h1, h3]
theorem keepQ_all {f t : Int} {p : Pc} : keepQ f t false p = decide (¬ p.k.2 = t) := by unfold keepQ; simp
theorem Agree.move (h : Agree bs ps) {i : Nat} (hi : i < ps.length) {f t : Int} (hk : ps[i].k = (f, t)) (b : Nat) (hb : (getB bs (f, t))[cnt (ps.take i) (f, t)]? = some ps[i].l) :
    Agree (keepB bs (f, t) (putAt ((getB bs (f, t)).eraseIdx (cnt (ps.take i) (f, t))) b ps[i].l)) (flt (ps.eraseIdx i) f t true ++ putAt (fl (ps.eraseIdx i) (f, t)) b ps[i]) := by
  refine ⟨good_keep h.good _ _, fun k' => ?_⟩
  rw [getB_keep, fl_app]
  have hall : ∀ p ∈ putAt (fl (ps.eraseIdx i) (f, t)) b ps[i], p.k = (f, t) := by
    intro p hp
    unfold putAt at hp
    rcases List.mem_append.1 hp with hp | hp
    · exact (fl_mem.1 (List.mem_of_mem_take hp)).2
    · rcases List.mem_cons.1 hp with rfl | hp
      · exact hk
      · exact (fl_mem.1 (List.mem_of_mem_drop hp)).2
  by_cases e : k' = (f, t)
  · subst e
    rw [if_pos rfl, fl_id hall, fl_no (ps := flt (ps.eraseIdx i) f t true) (fun p hp => by
      have := (List.mem_filter.1 hp).2
      rw [keepQ_one] at this
      exact of_decide_eq_true this), List.nil_append, fl_erase hi hk, ← putAt_map, ← eraseIdx_map, h.get]
  · rw [if_neg e, fl_no (ps := putAt _ _ _) (fun p hp e2 => e (e2.symm.trans (hall p hp))), List.append_nil, h.get]
    congr 1
    have e1 : fl (flt (ps.eraseIdx i) f t true) k' = fl (ps.eraseIdx i) k' := by
      unfold fl flt
      rw [List.filter_filter]
      refine List.filter_congr fun p hp => ?_
      rw [keepQ_one]
      by_cases e3 : p.k = k'
      · have : ¬ p.k = (f, t) := fun e4 => e (e3.symm.trans e4)
        simp [e3, e]
      · simp [e3]
    rw [e1, fl_erase_ne hi (fun e2 => e (e2.symm.trans hk))]
theorem getB_clr (bs : Bags) (t : Int) (k : Lk) : getB (clrB bs t) k = if k.2 = t then [] else getB bs k := by
  induction bs with
  | nil => simp [clrB, getB]
  | cons x bs ih =>
    unfold clrB at ih ⊢
    rw [List.filter_cons]
    by_cases hx : x.1.2 = t
    · simp only [hx, not_true, decide_false, Bool.false_eq_true, if_false]
      rw [ih, getB_cons]
      by_cases hk : k.2 = t
      · rw [if_pos hk, if_pos hk]
      · rw [if_neg hk, if_neg hk, if_neg (fun e => hk (by rw [← e]; exact hx))]
    · simp only [hx, not_false_iff, decide_true, if_true]
      rw [getB_cons, getB_cons, ih]
      by_cases hxk : x.1 = k
      · rw [if_pos hxk, if_pos hxk, if_neg (by rw [← hxk]; exact hx)]
      · rw [if_neg hxk, if_neg hxk]
theorem Agree.clear (h : Agree bs ps) (t : Int) : Agree (clrB bs t) (flt ps 0 t false) := by
  refine ⟨⟨(List.filter_sublist.map _).nodup h.good.nd, fun x hx => h.good.ne x (List.mem_filter.1 hx).1⟩, fun k => ?_⟩
  rw [getB_clr, h.get]
  by_cases hk : k.2 = t
  · rw [if_pos hk, fl_no (fun p hp e => ?_)]
    · rfl
    · have := (List.mem_filter.1 hp).2
      rw [keepQ_all] at this
      exact of_decide_eq_true this (by rw [e]; exact hk)
  · rw [if_neg hk]
    congr 1
    unfold fl flt
    rw [List.filter_filter]
    refine List.filter_congr fun p hp => ?_
    rw [keepQ_all]
    by_cases e3 : p.k = k
    · simp [e3, hk]
    · simp [e3]
theorem filter_len {α : Type} (q : α → Bool) (l : List α) : (l.filter q).length + (l.filter fun x => !q x).length = l.length := by
  induction l with
  | nil => rfl
  | cons x l ih =>
    rw [List.filter_cons, List.filter_cons]
    cases q x <;> simp <;> omega
theorem agree_tot : ∀ (bs : Bags) (ps : List Pc), Agree bs ps → tot bs = ps.length
  | [], ps, h => by
    cases ps with
    | nil => rfl
    | cons p ps =>
      have h1 := h.get p.k
      rw [fl_cons, if_pos rfl] at h1
      cases h1
  | x :: bs, ps, h => by
    have hnd := h.good.nd
    rw [List.map_cons, List.nodup_cons] at hnd
    have h2 : Agree bs (ps.filter fun p => !decide (p.k = x.1)) := by
      refine ⟨⟨hnd.2, fun y hy => h.good.ne y (List.mem_cons_of_mem _ hy)⟩, fun k => ?_⟩
      by_cases hk : k = x.1
      · subst hk
        rw [getB_none hnd.1, fl_no (fun p hp => by
          have := (List.mem_filter.1 hp).2
          simpa using this)]
        rfl
      · have h3 := h.get k
        rw [getB_cons, if_neg (fun e => hk e.symm)] at h3
        rw [h3]
        congr 1
        unfold fl
        rw [List.filter_filter]
        refine List.filter_congr fun p hp => ?_
        by_cases e3 : p.k = k
        · simp [e3, hk]
        · simp [e3]
    have h4 := agree_tot bs _ h2
    have h5 := h.get x.1
    rw [getB_cons, if_pos rfl] at h5
    have h6 := filter_len (fun p : Pc => decide (p.k = x.1)) ps
    rw [tot_cons, h4, h5, List.length_map]
    show (fl ps x.1).length + _ = _
    unfold fl
    exact h6
theorem Agree.keys (h : Agree bs ps) (k : Lk) : k ∈ bs.map (·.1) ↔ ∃ p ∈ ps, p.k = k := by
  constructor
  · intro hk
    obtain ⟨x, hx, rfl⟩ := List.mem_map.1 hk
    have h1 := getB_mem h.good.nd hx
    rw [h.get] at h1
    have h2 := h.good.ne x hx
    cases hf : fl ps x.1 with
    | nil => rw [hf] at h1; exact absurd h1.symm h2
    | cons p r => exact ⟨p, (fl_mem.1 (hf ▸ List.mem_cons_self ..)).1, (fl_mem.1 (hf ▸ List.mem_cons_self ..)).2⟩
  · rintro ⟨p, hp, rfl⟩
    refine Decidable.by_contra fun hno => ?_
    have h1 := h.get p.k
    rw [getB_none hno] at h1
    have h2 : p ∈ fl ps p.k := fl_mem.2 ⟨hp, rfl⟩
    have h3 : fl ps p.k = [] := List.map_eq_nil_iff.1 h1.symm
    rw [h3] at h2
    cases h2
end

end Go.Proofs.Ytgdgjgcmglgfmaa
