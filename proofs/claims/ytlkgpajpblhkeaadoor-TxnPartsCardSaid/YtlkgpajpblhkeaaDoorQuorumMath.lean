/- Plain mathematics of layer quorum: sets of replicas as numbers, how many of them are in one, majorities. No condition. -/
import Derived.WalkKit
namespace Go.Proofs.YtlkgpajpblhkeaaDoor

/-- How many replicas a number of them stands for. -/
def upto (n : Int) : Nat := if n < 0 then 0 else if 64 < n then 64 else n.toNat
theorem upto_le (n : Int) : upto n ≤ 64 := by unfold upto; split; omega; split <;> omega
def cntN (s : Nat) : Nat → Nat
  | 0 => 0
  | m + 1 => cntN s m + (if s.testBit m then 1 else 0)
def listN (s : Nat) : Nat → List Nat
  | 0 => []
  | m + 1 => listN s m ++ (if s.testBit m then [m] else [])
theorem listN_len (s m : Nat) : (listN s m).length = cntN s m := by
  induction m with
  | zero => rfl
  | succ m ih =>
    rw [listN, cntN, List.length_append, ih]
    split <;> rfl
theorem cnt_le (s m : Nat) : cntN s m ≤ m := by
  induction m with
  | zero => exact Nat.le_refl _
  | succ m ih => rw [cntN]; split <;> omega
def leastF (n : Int) : Nat := if n < 1 then 1 else upto n / 2 + 1
def majB (s : Nat) (n : Int) : Bool := decide (1 ≤ n) && decide (leastF n ≤ cntN s (upto n))
def hasB (s : Nat) (i : Int) : Bool := decide (0 ≤ i) && (decide (i ≤ 63) && s.testBit i.toNat)
def addF (s : Nat) (i : Int) : Nat := if 0 ≤ i ∧ i ≤ 63 then s ||| 2 ^ i.toNat else s

theorem cnt_and_or (a b m : Nat) : cntN (a &&& b) m + cntN (a ||| b) m = cntN a m + cntN b m := by
  induction m with
  | zero => rfl
  | succ m ih =>
    simp only [cntN, Nat.testBit_and, Nat.testBit_or]
    cases a.testBit m <;> cases b.testBit m <;> simp <;> omega
theorem cnt_not (s m : Nat) (hs : s < 18446744073709551616) (hm : m ≤ 64) : cntN s m + cntN (18446744073709551615 - s) m = m := by
  have e : 18446744073709551615 - s = 2 ^ 64 - (s + 1) := by omega
  have h := Nat.testBit_two_pow_sub_succ (x := s) (n := 64) (by omega)
  rw [← e] at h
  generalize 18446744073709551615 - s = c at *
  clear e
  induction m with
  | zero => rfl
  | succ m ih =>
    simp only [cntN, h m]
    have ih := ih (by omega)
    have hm64 : m < 64 := by omega
    cases s.testBit m <;> simp [hm64] <;> omega
theorem cnt_add (s i m : Nat) : cntN (s ||| 2 ^ i) m = cntN s m + (if i < m ∧ s.testBit i = false then 1 else 0) := by
  induction m with
  | zero => simp [cntN]
  | succ m ih =>
    rw [cntN, cntN, ih, Nat.testBit_or, Nat.testBit_two_pow]
    by_cases e : i = m
    · subst e
      cases s.testBit i <;> simp
    · have h1 : (i < m + 1) ↔ (i < m) := by omega
      simp only [h1]
      simp [e]
      omega
theorem maj_iff (s : Nat) (n : Int) : majB s n = true ↔ 1 ≤ n ∧ upto n / 2 + 1 ≤ cntN s (upto n) := by
  unfold majB leastF
  rw [Bool.and_eq_true, decide_eq_true_iff, decide_eq_true_iff]
  constructor
  · rintro ⟨h1, h2⟩; rw [if_neg (by omega)] at h2; exact ⟨h1, h2⟩
  · rintro ⟨h1, h2⟩; rw [if_neg (by omega)]; exact ⟨h1, h2⟩
/-- Two majorities have one in common, and together they are one. -/
theorem maj_meet (a b : Nat) (n : Int) (ha : majB a n = true) (hb : majB b n = true) : 0 < cntN (a &&& b) (upto n) ∧ majB (a ||| b) n = true := by
  rw [maj_iff] at ha hb ⊢
  have h := cnt_and_or a b (upto n)
  have h1 := cnt_le (a ||| b) (upto n)
  have h2 : cntN (a &&& b) (upto n) ≤ cntN b (upto n) := by
    generalize upto n = m
    clear ha hb h h1
    induction m with
    | zero => exact Nat.le_refl _
    | succ m ih =>
      simp only [cntN, Nat.testBit_and]
      cases a.testBit m <;> cases b.testBit m <;> simp <;> omega
  exact ⟨by omega, ha.1, by omega⟩
theorem maj_not (s : Nat) (k : Nat) (hs : s < 18446744073709551616) (h1 : 1 ≤ k) (h2 : k ≤ 64) : ¬ (majB s k = true ∧ majB (18446744073709551615 - s) k = true) ∧ (k % 2 = 1 → majB s k = true ∨ majB (18446744073709551615 - s) k = true) := by
  have e : upto k = k := by unfold upto; rw [if_neg (by omega), if_neg (by omega)]; omega
  have h := cnt_not s k hs h2
  simp only [maj_iff, e]
  constructor
  · rintro ⟨⟨_, a⟩, ⟨_, b⟩⟩; omega
  · intro hk
    rcases Nat.lt_or_ge (cntN s k) (k / 2 + 1) with h3 | h3
    · right; exact ⟨by omega, by omega⟩
    · left; exact ⟨by omega, h3⟩
theorem maj_grow (s i : Nat) (n : Int) (h : majB s n = true) : majB (s ||| 2 ^ i) n = true := by
  rw [maj_iff] at h ⊢
  have := cnt_add s i (upto n)
  exact ⟨h.1, by omega⟩
theorem add_or (s i : Nat) (h : s.testBit i = false) : s + 2 ^ i = s ||| 2 ^ i := by
  have hl : s % 2 ^ i < 2 ^ i := Nat.mod_lt _ (Nat.two_pow_pos i)
  have hd : s / 2 ^ i % 2 = 0 := by
    rw [Nat.testBit_eq_decide_div_mod_eq, decide_eq_false_iff_not] at h
    omega
  have e0 : s = (s / 2 ^ (i + 1)) <<< (i + 1) + s % 2 ^ i := by
    rw [Nat.shiftLeft_eq, Nat.pow_succ, ← Nat.div_div_eq_div_mul]
    have h1 := Nat.div_add_mod s (2 ^ i)
    have h2 := Nat.div_add_mod (s / 2 ^ i) 2
    rw [hd, Nat.add_zero] at h2
    rw [Nat.mul_comm (2 ^ i) 2, ← Nat.mul_assoc, Nat.mul_comm (s / 2 ^ i / 2) 2, h2, Nat.mul_comm]
    exact h1.symm
  have hp : 2 ^ (i + 1) = 2 ^ i + 2 ^ i := by rw [Nat.pow_succ]; omega
  have e1 : s = (s / 2 ^ (i + 1)) <<< (i + 1) ||| s % 2 ^ i := by
    rw [← Nat.shiftLeft_add_eq_or_of_lt (by omega)]; exact e0
  have e2 : 2 ^ i + s % 2 ^ i = 2 ^ i ||| s % 2 ^ i := by
    have := Nat.shiftLeft_add_eq_or_of_lt hl 1
    rwa [Nat.one_shiftLeft] at this
  have e3 : (s / 2 ^ (i + 1)) <<< (i + 1) + (2 ^ i + s % 2 ^ i) = (s / 2 ^ (i + 1)) <<< (i + 1) ||| (2 ^ i + s % 2 ^ i) := Nat.shiftLeft_add_eq_or_of_lt (by omega) _
  generalize s % 2 ^ i = lo at *
  generalize (s / 2 ^ (i + 1)) <<< (i + 1) = hi at *
  have e4 : s + 2 ^ i = hi ||| (2 ^ i ||| lo) := by rw [← e2, ← e3]; omega
  rw [e4]
  conv => rhs; rw [e1]
  rw [Nat.or_assoc, Nat.or_comm lo]
theorem or_lt (s i : Nat) (hs : s < 18446744073709551616) (hi : i ≤ 63) : s ||| 2 ^ i < 18446744073709551616 := by
  have : 2 ^ i < 2 ^ 64 := Nat.pow_lt_pow_right (by omega) (by omega)
  exact Nat.or_lt_two_pow (n := 64) (by omega) (by omega)
theorem addF_lt (s : Nat) (i : Int) (hs : s < 18446744073709551616) : addF s i < 18446744073709551616 := by
  unfold addF
  split
  · exact or_lt _ _ hs (by omega)
  · exact hs
theorem has_add (s : Nat) (i k : Int) : hasB (addF s i) k = (hasB s k || (decide (k = i) && (decide (0 ≤ i) && decide (i ≤ 63)))) := by
  unfold hasB addF
  by_cases h0 : 0 ≤ k
  · by_cases h1 : k ≤ 63
    · by_cases h : 0 ≤ i ∧ i ≤ 63
      · rw [if_pos h, Nat.testBit_or, Nat.testBit_two_pow]
        have e : decide (i.toNat = k.toNat) = decide (k = i) := by
          by_cases e : k = i
          · subst e; simp
          · rw [decide_eq_false e, decide_eq_false]; omega
        rw [e]
        simp [h0, h1, h.1, h.2]
      · rw [if_neg h]
        have : (decide (0 ≤ i) && decide (i ≤ 63)) = false := by
          rw [Bool.and_eq_false_iff, decide_eq_false_iff_not, decide_eq_false_iff_not]; omega
        rw [this, Bool.and_false, Bool.or_false]
    · have : (decide (k = i) && (decide (0 ≤ i) && decide (i ≤ 63))) = false := by
        by_cases e : k = i
        · subst e; simp [h1]
        · simp [e]
      rw [this]; simp [h1]
  · have : (decide (k = i) && (decide (0 ≤ i) && decide (i ≤ 63))) = false := by
      by_cases e : k = i
      · subst e; simp [h0]
      · simp [e]
    rw [this]; simp [h0]
end Go.Proofs.YtlkgpajpblhkeaaDoor
