/- Plain mathematics of layer config: bounds that rise and whose a key is, the groups of many keys, replicas and their places. No condition. -/
import Derived.WalkKit
import Derived.Sort.Walk0
namespace Go.Proofs.YtcgfhjkdgpgheaaDoor

/-- Whether the bound b isn't above the key k. -/
def leB (b k : List UInt8) : Bool := !Op.bytesLess k b
theorem leB_iff (b k : List UInt8) : leB b k = true ↔ ¬ k < b := by
  have := bytesLess_eq k b
  unfold leB; rw [this]; simp
theorem leB_eq (b k : List UInt8) : (Op.bytesLess b k || b == k) = leB b k := by
  have h1 := bytesLess_eq b k
  have h2 := bytesLess_eq k b
  unfold leB
  rw [h1, h2, Bool.eq_iff_iff]
  simp only [Bool.or_eq_true, decide_eq_true_eq, beq_iff_eq, Bool.not_eq_true', decide_eq_false_iff_not]
  constructor
  · rintro (h | rfl)
    · exact fun h' => List.lt_irrefl _ (List.lt_trans h h')
    · exact List.lt_irrefl _
  · intro h
    by_cases hb : b < k
    · exact .inl hb
    · exact .inr (List.le_antisymm (List.not_lt.1 h) (List.not_lt.1 hb))
/-- The same of texts, as the model compares them. -/
theorem leS (z s : ByteArray) : (Op.bytesLess z.toList s.toList || z.toList == s.toList) = leB z.data.toList s.data.toList := by
  rw [ByteArray.toList_eq, ByteArray.toList_eq]; exact leB_eq _ _
theorem ltS (z s : ByteArray) : Op.bytesLess z.toList s.toList = !leB s.data.toList z.data.toList := by
  rw [ByteArray.toList_eq, ByteArray.toList_eq]; unfold leB; rw [Bool.not_not]
theorem leB_trans {a b c : List UInt8} (h : leB a b = true) (h' : leB b c = true) : leB a c = true := by
  rw [leB_iff] at *
  exact List.not_lt.2 (List.le_trans (List.not_lt.1 h) (List.not_lt.1 h'))
theorem leB_self (a : List UInt8) : leB a a = true := by rw [leB_iff]; exact List.lt_irrefl a
theorem leB_of_lt {a b : List UInt8} (h : a < b) : leB a b = true := by rw [leB_iff]; exact fun h' => List.lt_irrefl _ (List.lt_trans h h')
theorem leB_nil {b : List UInt8} (h : b ≠ []) : leB b [] = false := by
  cases b with
  | nil => exact absurd rfl h
  | cons c t => rfl

/-- How many bounds aren't above k. -/
def homeC (Bs : List (List UInt8)) (k : List UInt8) : Nat := (Bs.filter fun b => leB b k).length
theorem homeC_le (Bs : List (List UInt8)) (k : List UInt8) : homeC Bs k ≤ Bs.length := List.length_filter_le _ _
theorem homeC_snoc (Bs : List (List UInt8)) (b k : List UInt8) : homeC (Bs ++ [b]) k = homeC Bs k + (if leB b k then 1 else 0) := by
  unfold homeC; rw [List.filter_append, List.length_append]
  cases h : leB b k <;> simp [h]
/-- Each bound lies behind the ones ahead of it. -/
def risesB (Bs : List (List UInt8)) : Prop := Bs.Pairwise (· < ·)
theorem homeC_mono (Bs : List (List UInt8)) {a b : List UInt8} (h : leB a b = true) : homeC Bs a ≤ homeC Bs b := by
  unfold homeC
  induction Bs with
  | nil => exact Nat.le_refl _
  | cons x r ih =>
    rw [List.filter_cons, List.filter_cons]
    cases hx : leB x a
    · cases leB x b <;> simp <;> omega
    · rw [leB_trans hx h]; simpa using ih
/-- Of bounds that rise just the first ones aren't above k. -/
theorem homeC_iff (Bs : List (List UInt8)) (k : List UInt8) (hr : risesB Bs) (i : Nat) (hi : i < Bs.length) : leB Bs[i] k = true ↔ i < homeC Bs k := by
  induction Bs generalizing i with
  | nil => simp at hi
  | cons x r ih =>
    obtain ⟨hx, hr'⟩ := List.pairwise_cons.1 hr
    cases h : leB x k
    · have hz : ∀ y ∈ r, leB y k = false := by
        intro y hy
        cases hy' : leB y k
        · rfl
        · rw [leB_trans (leB_of_lt (hx y hy)) hy'] at h; cases h
      have h0 : homeC (x :: r) k = 0 := by
        unfold homeC
        rw [List.length_eq_zero_iff, List.filter_eq_nil_iff]
        intro y hy
        rcases List.mem_cons.1 hy with rfl | hy
        · simp [h]
        · simp [hz y hy]
      rw [h0]
      cases i with
      | zero => simp [h]
      | succ i => simp [hz _ (List.getElem_mem _)]
    · have h1 : homeC (x :: r) k = homeC r k + 1 := by unfold homeC; rw [List.filter_cons]; simp [h]
      rw [h1]
      cases i with
      | zero => simp [h]
      | succ i =>
        have := ih hr' i (by simpa using hi)
        simp only [List.getElem_cons_succ]
        rw [this]; omega
/-- A bound begins its group. -/
theorem homeC_bound (Bs : List (List UInt8)) (hr : risesB Bs) (i : Nat) (hi : i < Bs.length) : homeC Bs Bs[i] = i + 1 := by
  have h1 := (homeC_iff Bs Bs[i] hr i hi).1 (leB_self _)
  have h2 := homeC_le Bs Bs[i]
  rcases Nat.lt_or_ge (i + 1) (homeC Bs Bs[i]) with h | h
  · exfalso
    have h3 := (homeC_iff Bs Bs[i] hr (i + 1) (by omega)).2 h
    have h4 := List.pairwise_iff_getElem.1 hr i (i + 1) hi (by omega) (by omega)
    rw [leB_iff] at h3
    exact h3 h4
  · omega
theorem homeC_empty (Bs : List (List UInt8)) (h : ∀ b ∈ Bs, b ≠ []) : homeC Bs [] = 0 := by
  unfold homeC
  rw [List.length_eq_zero_iff, List.filter_eq_nil_iff]
  intro b hb
  simp [leB_nil (h b hb)]

/-- The groups that are among hs, rising. -/
def groupsC (n : Nat) (hs : List Nat) : List Nat := (List.range n).filter fun g => decide (g ∈ hs)
theorem groupsC_congr (n : Nat) {hs ks : List Nat} (h : ∀ g, g ∈ hs ↔ g ∈ ks) : groupsC n hs = groupsC n ks := by
  unfold groupsC
  apply List.filter_congr
  intro g _
  simp [h g]
theorem groupsC_snoc (n : Nat) (hs : List Nat) : groupsC (n + 1) hs = groupsC n hs ++ (if n ∈ hs then [n] else []) := by
  unfold groupsC
  rw [List.range_succ, List.filter_append]
  by_cases h : n ∈ hs <;> simp [h]
theorem groupsC_len (n : Nat) (hs : List Nat) : (groupsC n hs).length ≤ n := by
  have := List.length_filter_le (fun g => decide (g ∈ hs)) (List.range n)
  simpa [groupsC] using this

/-- The replica of a place; the place of a replica. -/
def atL : List Nat → Nat → Option (Nat × Nat)
  | [], _ => none
  | r :: R, p => if p < r then some (0, p) else (atL R (p - r)).map fun x => (x.1 + 1, x.2)
def placeL : List Nat → Nat → Nat → Option Nat
  | [], _, _ => none
  | r :: _, 0, k => if k < r then some k else none
  | r :: R, g + 1, k => (placeL R g k).map (· + r)
theorem atL_iff (R : List Nat) (p g k : Nat) : atL R p = some (g, k) ↔ placeL R g k = some p := by
  induction R generalizing p g with
  | nil => simp [atL, placeL]
  | cons r R ih =>
    cases g with
    | zero =>
      rw [atL, placeL]
      by_cases h : p < r
      · rw [if_pos h]
        by_cases hk : k < r
        · rw [if_pos hk]; simp; omega
        · rw [if_neg hk]; simp; omega
      · rw [if_neg h]
        by_cases hk : k < r
        · rw [if_pos hk]; simp; omega
        · rw [if_neg hk]; simp
    | succ g =>
      rw [atL, placeL]
      by_cases h : p < r
      · rw [if_pos h]
        constructor
        · intro e; simp at e
        · intro e
          obtain ⟨q, _, hq⟩ := Option.map_eq_some_iff.1 e
          omega
      · rw [if_neg h]
        constructor
        · intro e
          obtain ⟨⟨g', k'⟩, h1, h2⟩ := Option.map_eq_some_iff.1 e
          simp at h2
          obtain ⟨rfl, rfl⟩ := h2
          rw [(ih (p - r) g').1 h1]
          simp; omega
        · intro e
          obtain ⟨q, h1, h2⟩ := Option.map_eq_some_iff.1 e
          have : p - r = q := by omega
          rw [this, (ih q g).2 h1]; rfl
theorem atL_some (R : List Nat) (p : Nat) : (∃ x, atL R p = some x) ↔ p < R.sum := by
  induction R generalizing p with
  | nil => simp [atL]
  | cons r R ih =>
    rw [atL, List.sum_cons]
    by_cases h : p < r
    · rw [if_pos h]; simp; omega
    · rw [if_neg h]
      have := ih (p - r)
      constructor
      · rintro ⟨x, hx⟩
        obtain ⟨y, hy, _⟩ := Option.map_eq_some_iff.1 hx
        have := this.1 ⟨y, hy⟩
        omega
      · intro hp
        obtain ⟨y, hy⟩ := this.2 (by omega)
        exact ⟨_, by rw [hy]; rfl⟩
theorem atL_none (R : List Nat) (p : Nat) (h : R.sum ≤ p) : atL R p = none := by
  cases e : atL R p with
  | none => rfl
  | some x => have := (atL_some R p).1 ⟨x, e⟩; omega
/-- The place by sums. -/
theorem placeL_eq (R : List Nat) (g k : Nat) : placeL R g k = if h : g < R.length then (if k < R[g] then some ((R.take g).sum + k) else none) else none := by
  induction R generalizing g with
  | nil => simp [placeL]
  | cons r R ih =>
    cases g with
    | zero => rw [placeL]; simp
    | succ g =>
      rw [placeL, ih]
      by_cases h : g < R.length
      · by_cases hk : k < R[g]
        · simp [h, hk]; omega
        · simp [h, hk]
      · simp [h]
end Go.Proofs.YtcgfhjkdgpgheaaDoor
