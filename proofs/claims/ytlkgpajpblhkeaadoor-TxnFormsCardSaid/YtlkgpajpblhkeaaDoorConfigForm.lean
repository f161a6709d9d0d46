/- Plain mathematics of layer config: when a configuration is formed, and what is answered of it. No condition. -/
import Derived.Test.YtlkgpajpblhkeaaDoorConfigMath

import Derived.Test.YtlkgpajpblhkeaaDoorValueKey

namespace Go.Proofs.YtlkgpajpblhkeaaDoor

/-- The texts' bytes. -/
def txt (Bs : List ByteArray) : List (List UInt8) := Bs.map fun s => s.data.toList
theorem txt_len (Bs : List ByteArray) : (txt Bs).length = Bs.length := by simp [txt]
theorem txt_get (Bs : List ByteArray) (i : Nat) (h : i < Bs.length) : (txt Bs)[i]'(by rw [txt_len]; exact h) = Bs[i].data.toList := by simp [txt]
theorem txt_take (Bs : List ByteArray) (i : Nat) : txt (Bs.take i) = (txt Bs).take i := by simp [txt, List.map_take]
theorem txt_snoc (Bs : List ByteArray) (i : Nat) (h : i < Bs.length) : txt (Bs.take (i + 1)) = txt (Bs.take i) ++ [Bs[i].data.toList] := by
  rw [List.take_succ_eq_append_getElem h]; unfold txt; rw [List.map_append]; rfl

/-- A group's size. -/
def sizeB (z : Int) : Bool := z == 1 || (z == 3 || z == 5)
theorem sizeB_cases {z : Int} (h : sizeB z = true) : z = 1 ∨ z = 3 ∨ z = 5 := by simpa [sizeB] using h
theorem all_bad {α : Type} (p : α → Bool) (l : List α) (k : Nat) (h : k < l.length) (hp : p l[k] = false) : l.all p = false :=
  List.all_eq_false.2 ⟨l[k], List.getElem_mem h, by rw [hp]; simp⟩
theorem all_next {α : Type} (p : α → Bool) (l : List α) (k : Nat) (h : k < l.length) (ht : (l.take k).all p = true) (hp : p l[k] = true) : (l.take (k + 1)).all p = true := by
  rw [List.take_succ_eq_append_getElem h, List.all_append, ht]; simp [hp]
theorem all_done {α : Type} (p : α → Bool) (l : List α) (k : Nat) (h : l.length ≤ k) (ht : (l.take k).all p = true) : l.all p = true := by
  rwa [List.take_of_length_le h] at ht

/-- Each bound is above the one ahead of it. -/
def adjB (L : List (List UInt8)) : Bool := (List.range (L.length - 1)).all fun i => !leB (L[i + 1]?.getD []) (L[i]?.getD [])
theorem adj_bad (L : List (List UInt8)) (k : Nat) (h : k + 1 < L.length) (hp : leB L[k + 1] L[k] = true) : adjB L = false := by
  unfold adjB
  rw [List.all_eq_false]
  refine ⟨k, by simp; omega, ?_⟩
  rw [List.getElem?_eq_getElem h, List.getElem?_eq_getElem (by omega)]
  simp [hp]
theorem adj_all (L : List (List UInt8)) (h : ∀ k (hk : k + 1 < L.length), leB L[k + 1] L[k] = false) : adjB L = true := by
  unfold adjB
  rw [List.all_eq_true]
  intro i hi
  have hi' : i + 1 < L.length := by simp at hi; omega
  rw [List.getElem?_eq_getElem hi', List.getElem?_eq_getElem (by omega)]
  simp [h i hi']
theorem adj_get (L : List (List UInt8)) (h : adjB L = true) (k : Nat) (hk : k + 1 < L.length) : leB L[k + 1] L[k] = false := by
  cases e : leB L[k + 1] L[k]
  · rfl
  · rw [adj_bad L k hk e] at h; cases h
theorem lt_of_leB {a b : List UInt8} (h : leB b a = false) : a < b := by
  rcases Classical.em (a < b) with h' | h'
  · exact h'
  · rw [(leB_iff b a).2 h'] at h; cases h
theorem adj_rises (L : List (List UInt8)) (h : adjB L = true) : risesB L := by
  have key : ∀ j i (hj : j < L.length) (hij : i < j), L[i]'(by omega) < L[j] := by
    intro j
    induction j with
    | zero => intro i _ h; omega
    | succ j ih =>
      intro i hj hij
      have h1 := lt_of_leB (adj_get L h j hj)
      by_cases e : i = j
      · subst e; exact h1
      · exact List.lt_trans (ih i (by omega) (by omega)) h1
  exact List.pairwise_iff_getElem.2 fun i j _ hj hij => key j i hj hij

/-- A configuration is formed. -/
def formedC (R : List Int) (L : List (List UInt8)) : Bool :=
  (decide (1 ≤ R.length) && (decide (R.length ≤ 4) && decide (L.length + 1 = R.length))) && (R.all sizeB && (L.all keyB && adjB L))
theorem formed_len {R : List Int} {L : List (List UInt8)} (h : R.length < 1 ∨ 4 < R.length ∨ L.length + 1 ≠ R.length) : formedC R L = false := by
  unfold formedC
  rw [Bool.and_eq_false_iff]
  left
  rw [Bool.and_eq_false_iff, Bool.and_eq_false_iff, decide_eq_false_iff_not, decide_eq_false_iff_not, decide_eq_false_iff_not]
  omega
theorem formed_parts {R : List Int} {L : List (List UInt8)} (h1 : 1 ≤ R.length) (h2 : R.length ≤ 4) (h3 : L.length + 1 = R.length) : formedC R L = (R.all sizeB && (L.all keyB && adjB L)) := by
  unfold formedC
  rw [decide_eq_true h1, decide_eq_true h2, decide_eq_true h3]; rfl
structure FormedP (R : List Int) (L : List (List UInt8)) : Prop where
  lo : 1 ≤ R.length
  hi : R.length ≤ 4
  len : L.length + 1 = R.length
  sizes : R.all sizeB = true
  keys : L.all keyB = true
  adj : adjB L = true
theorem formed_yes {R : List Int} {L : List (List UInt8)} (h : formedC R L = true) : FormedP R L := by
  unfold formedC at h
  simp only [Bool.and_eq_true, decide_eq_true_eq] at h
  obtain ⟨⟨a, b, c⟩, d, e, f⟩ := h
  exact ⟨a, b, c, d, e, f⟩
theorem FormedP.size {R : List Int} {L : List (List UInt8)} (h : FormedP R L) (z : Int) (hz : z ∈ R) : z = 1 ∨ z = 3 ∨ z = 5 := sizeB_cases (List.all_eq_true.1 h.sizes z hz)
theorem FormedP.rises {R : List Int} {L : List (List UInt8)} (h : FormedP R L) : risesB L := adj_rises L h.adj
theorem FormedP.full {R : List Int} {L : List (List UInt8)} (h : FormedP R L) (b : List UInt8) (hb : b ∈ L) : b ≠ [] := by
  have := List.all_eq_true.1 h.keys b hb
  intro e; subst e; cases this
theorem FormedP.home {R : List Int} {L : List (List UInt8)} (h : FormedP R L) (k : List UInt8) : homeC L k < R.length := by
  have := homeC_le L k; have := h.len; omega

/-- What is answered: a key's group, the groups of keys. -/
def homeI (R : List Int) (L : List (List UInt8)) (k : List UInt8) : Int := if formedC R L then (homeC L k : Nat) else -1
theorem home_of {R : List Int} {L : List (List UInt8)} (h : formedC R L = true) (k : List UInt8) : homeI R L k = (homeC L k : Nat) := by unfold homeI; rw [if_pos h]
def groupsI (R : List Int) (L : List (List UInt8)) (ks : List (List UInt8)) : List Nat := if formedC R L then groupsC R.length (ks.map (homeC L)) else []
theorem groups_le (R : List Int) (L : List (List UInt8)) (ks : List (List UInt8)) : (groupsI R L ks).length ≤ 4 := by
  unfold groupsI
  split
  · rename_i h
    have := groupsC_len R.length (ks.map (homeC L)); have := (formed_yes h).hi; omega
  · simp
/-- All groups up to more than there are. -/
theorem groups_four (R : List Int) (L : List (List UInt8)) (ks : List (List UInt8)) (h : FormedP R L) : groupsC 4 (ks.map (homeC L)) = groupsC R.length (ks.map (homeC L)) := by
  have key : ∀ d, groupsC (R.length + d) (ks.map (homeC L)) = groupsC R.length (ks.map (homeC L)) := by
    intro d
    induction d with
    | zero => rfl
    | succ d ih =>
      rw [← Nat.add_assoc, groupsC_snoc, if_neg, List.append_nil, ih]
      intro hm
      obtain ⟨k, _, hk⟩ := List.mem_map.1 hm
      have := h.home k
      omega
  have := key (4 - R.length)
  have e : R.length + (4 - R.length) = 4 := by have := h.hi; omega
  rwa [e] at this

/-- The replicas as numbers; how many there are, a replica's place, the replica of a place. -/
def natR (R : List Int) : List Nat := R.map Int.toNat
theorem natR_len (R : List Int) : (natR R).length = R.length := by simp [natR]
theorem natR_get (R : List Int) (i : Nat) (h : i < R.length) : (natR R)[i]'(by rw [natR_len]; exact h) = R[i].toNat := by simp [natR]
theorem natR_sum (R : List Int) (h : ∀ z ∈ R, 0 ≤ z ∧ z ≤ 5) : R.sum = ((natR R).sum : Nat) := by
  induction R with
  | nil => rfl
  | cons x r ih =>
    have h1 := h x (by simp)
    have h2 := ih fun z hz => h z (by simp [hz])
    have e : natR (x :: r) = x.toNat :: natR r := rfl
    rw [e, List.sum_cons, List.sum_cons, h2]; omega
theorem natR_take (R : List Int) (k : Nat) : natR (R.take k) = (natR R).take k := by simp [natR, List.map_take]
theorem FormedP.small {R : List Int} {L : List (List UInt8)} (h : FormedP R L) (z : Int) (hz : z ∈ R) : 0 ≤ z ∧ z ≤ 5 := by
  rcases h.size z hz with e | e | e <;> omega
theorem FormedP.sum_le {R : List Int} {L : List (List UInt8)} (h : FormedP R L) : (natR R).sum ≤ 20 := by
  have key : ∀ l : List Nat, (∀ z ∈ l, z ≤ 5) → l.sum ≤ 5 * l.length := by
    intro l
    induction l with
    | nil => intro _; simp
    | cons x r ih => intro hl; have := ih fun z hz => hl z (by simp [hz]); have := hl x (by simp); simp; omega
  have h1 := key (natR R) (fun z hz => by
    obtain ⟨y, hy, rfl⟩ := List.mem_map.1 hz
    have := h.small y hy; omega)
  rw [natR_len] at h1
  have := h.hi; omega
def totalI (R : List Int) (L : List (List UInt8)) : Nat := if formedC R L then (natR R).sum else 0
def optI : Option Nat → Int
  | some p => p
  | none => -1
def pairI : Option (Nat × Nat) → Int × Int
  | some x => (x.1, x.2)
  | none => (-1, -1)
def placeI (R : List Int) (L : List (List UInt8)) (g k : Int) : Int := if formedC R L = true ∧ 0 ≤ g ∧ 0 ≤ k then optI (placeL (natR R) g.toNat k.toNat) else -1
def atI (R : List Int) (L : List (List UInt8)) (p : Int) : Int × Int := if formedC R L = true ∧ 0 ≤ p then pairI (atL (natR R) p.toNat) else (-1, -1)
theorem placeI_not (R : List Int) (L : List (List UInt8)) (g k : Int) (h : formedC R L = false) : placeI R L g k = -1 := by
  unfold placeI; rw [if_neg (by rw [h]; simp)]
theorem placeI_far (R : List Int) (L : List (List UInt8)) (g k : Int) (h : ¬ (0 ≤ g ∧ g < R.length)) : placeI R L g k = -1 := by
  unfold placeI
  split
  · rename_i hh
    rw [placeL_eq, dif_neg (by rw [natR_len]; omega)]; rfl
  · rfl
theorem placeI_off (R : List Int) (L : List (List UInt8)) (g : Nat) (k : Int) (hg : g < R.length) (h : ¬ (0 ≤ k ∧ k < R[g])) : placeI R L g k = -1 := by
  unfold placeI
  split
  · rename_i hh
    have e : ((g : Nat) : Int).toNat = g := by omega
    rw [placeL_eq, dif_pos (by rw [natR_len]; omega), if_neg (by simp only [e]; rw [natR_get R g hg]; omega)]; rfl
  · rfl
theorem placeI_yes (R : List Int) (L : List (List UInt8)) (g k : Nat) (hf : formedC R L = true) (hg : g < R.length) (h : (k : Int) < R[g]) : placeI R L g k = (R.take g).sum + k := by
  have hs := natR_sum (R.take g) (fun z hz => (formed_yes hf).small z (List.mem_of_mem_take hz))
  unfold placeI
  rw [if_pos ⟨hf, by omega, by omega⟩]
  have e : ((g : Nat) : Int).toNat = g := by omega
  have e' : ((k : Nat) : Int).toNat = k := by omega
  rw [placeL_eq, dif_pos (by rw [natR_len]; omega), if_pos (by simp only [e, e']; rw [natR_get R g hg]; omega), e, e', hs, natR_take]
  show (((_ + _ : Nat)) : Int) = _
  omega
theorem atI_none (R : List Int) (L : List (List UInt8)) (p : Int) (h : ¬ (0 ≤ p ∧ p < (totalI R L : Int))) : atI R L p = (-1, -1) := by
  unfold atI
  split
  · rename_i hh
    unfold totalI at h
    rw [if_pos hh.1] at h
    rw [atL_none (natR R) p.toNat (by omega)]; rfl
  · rfl
theorem atI_some (R : List Int) (L : List (List UInt8)) (p : Nat) (hf : formedC R L = true) (x : Nat × Nat) (h : atL (natR R) p = some x) : atI R L p = (((x.1 : Nat) : Int), ((x.2 : Nat) : Int)) := by
  unfold atI
  rw [if_pos ⟨hf, by omega⟩]
  have e : ((p : Nat) : Int).toNat = p := by omega
  rw [e, h]; rfl
/-- One group on. -/
theorem at_step (N : List Nat) (j v x y : Nat) (h : atL (N.drop j) v = some (x, y)) : ∃ hj : j < N.length, (v < N[j] → x = 0 ∧ y = v) ∧ (N[j] ≤ v → ∃ x', x = x' + 1 ∧ atL (N.drop (j + 1)) (v - N[j]) = some (x', y)) := by
  have hj : j < N.length := by
    rcases Nat.lt_or_ge j N.length with h' | h'
    · exact h'
    · rw [List.drop_of_length_le h'] at h; cases h
  refine ⟨hj, fun hv => ?_, fun hv => ?_⟩
  · rw [List.drop_eq_getElem_cons hj, atL, if_pos hv] at h
    injection h with h; injection h with h1 h2; exact ⟨h1.symm, h2.symm⟩
  · rw [List.drop_eq_getElem_cons hj, atL, if_neg (by omega)] at h
    obtain ⟨⟨x', y'⟩, h1, h2⟩ := Option.map_eq_some_iff.1 h
    injection h2 with h2 h3
    exact ⟨x', h2.symm, by rw [h1]; simp at h3; rw [h3]⟩
theorem total_formed {R : List Int} {L : List (List UInt8)} {i : Nat} (h : i < totalI R L) : formedC R L = true := by
  cases hf : formedC R L
  · unfold totalI at h; rw [hf] at h; simp at h
  · rfl
theorem total_sum {R : List Int} {L : List (List UInt8)} (h : formedC R L = true) : totalI R L = (natR R).sum := by unfold totalI; rw [if_pos h]
theorem total_le (R : List Int) (L : List (List UInt8)) : totalI R L ≤ 20 := by
  unfold totalI
  split
  · rename_i h; exact (formed_yes h).sum_le
  · omega
theorem at_place (R : List Int) (L : List (List UInt8)) (i : Nat) (hi : i < totalI R L) (g k : Int) (h : atI R L i = (g, k)) : placeI R L g k = i := by
  have hf := total_formed hi
  rw [total_sum hf] at hi
  obtain ⟨⟨x, y⟩, hx⟩ := (atL_some (natR R) i).2 hi
  rw [atI_some R L i hf _ hx] at h
  injection h with h1 h2
  subst h1; subst h2
  unfold placeI
  rw [if_pos ⟨hf, by omega, by omega⟩]
  have e1 : ((x : Nat) : Int).toNat = x := by omega
  have e2 : ((y : Nat) : Int).toNat = y := by omega
  simp only [e1, e2]
  rw [(atL_iff (natR R) i x y).1 hx]; rfl
theorem place_none (R : List Int) (L : List (List UInt8)) (g k : Int) (h : ∀ i : Nat, i < totalI R L → atI R L i ≠ (g, k)) : placeI R L g k = -1 := by
  unfold placeI
  split
  · rename_i hh
    cases e : placeL (natR R) g.toNat k.toNat with
    | none => rfl
    | some p =>
      exfalso
      have hx := (atL_iff (natR R) p g.toNat k.toNat).2 e
      have hp := (atL_some (natR R) p).1 ⟨_, hx⟩
      rw [← total_sum hh.1] at hp
      refine h p hp ?_
      rw [atI_some R L p hh.1 _ hx]
      have e1 : ((g.toNat : Nat) : Int) = g := by omega
      have e2 : ((k.toNat : Nat) : Int) = k := by omega
      simp only [e1, e2]
  · rfl
/-- The replica counted to. -/
theorem at_hit (R : List Int) (L : List (List UInt8)) (hf : formedC R L = true) (j k : Nat) (hj : j < R.length) (hk : (k : Int) < R[j]) : atI R L ((((natR R).take j).sum + k : Nat) : Int) = ((j : Int), (k : Int)) := by
  refine atI_some R L _ hf (j, k) ((atL_iff (natR R) _ j k).2 ?_)
  rw [placeL_eq, dif_pos (by rw [natR_len]; exact hj), if_pos (by rw [natR_get R j hj]; omega)]
theorem nat_snoc (R : List Int) (j : Nat) (hj : j < R.length) : ((natR R).take (j + 1)).sum = ((natR R).take j).sum + R[j].toNat := by
  rw [List.take_succ_eq_append_getElem (by rw [natR_len]; exact hj), List.sum_append, natR_get R j hj]; simp
theorem nat_le (R : List Int) (h : ∀ z ∈ R, 0 ≤ z ∧ z ≤ 5) (j : Nat) : ((natR R).take j).sum ≤ 5 * j := by
  induction j with
  | zero => simp
  | succ j ih =>
    by_cases hj : j < R.length
    · have := h _ (List.getElem_mem hj)
      rw [nat_snoc R j hj]; omega
    · rw [List.take_of_length_le (by rw [natR_len]; omega)] at ih ⊢; omega
end Go.Proofs.YtlkgpajpblhkeaaDoor
