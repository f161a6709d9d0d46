/- Plain facts on sums with NaNs and infinities among them, with no program in sight. No conditions beyond those that each theorem names. -/
import Derived.Test.YtbdccfggnbopgaaLies
namespace Go.Proofs.Ytbdccfggnbopgaa
open Go.RowKit

theorem read_num {n : Nat} (h : n % 9223372036854775808 < 9218868437227405312) : ∃ s m i, Ieee.double.read n = .number s m i := by
  rw [read_eq]
  by_cases c : n % 9223372036854775808 < 4503599627370496
  · rw [if_pos c]; exact ⟨_, _, _, rfl⟩
  · rw [if_neg c, if_pos h]; exact ⟨_, _, _, rfl⟩
theorem read_inf {n : Nat} (h : n % 9223372036854775808 = 9218868437227405312) : Ieee.double.read n = .infinity (n / 9223372036854775808 % 2 == 1) := by
  rw [read_eq, if_neg (by omega), if_neg (by omega), if_pos h]
theorem read_plus : Ieee.double.read 9218868437227405312 = .infinity false := rfl
theorem read_minus : Ieee.double.read 18442240474082181120 = .infinity true := rfl
theorem write_plus : Ieee.double.write (.infinity false) = 9218868437227405312 := rfl
theorem write_minus : Ieee.double.write (.infinity true) = 18442240474082181120 := rfl

theorem split_nan (n : Nat) : NaN n ∨ n % 9223372036854775808 = 9218868437227405312 ∨ n % 9223372036854775808 < 9218868437227405312 := by unfold NaN; omega

def P6 (x : Nat) : Prop := x = 9218868437227405312 ∨ NaN x
def P1 (x : Nat) : Prop := x = 18442240474082181120 ∨ NaN x

theorem nan_addF_left {x : Nat} (h : NaN x) (y : Nat) : NaN (addF x y) := by rw [addF_none (add_nan_left h y)]; exact nan_canon
theorem nan_addF_right {y : Nat} (h : NaN y) (x : Nat) : NaN (addF x y) := by rw [addF_none (add_nan_right h x)]; exact nan_canon

theorem addF_read (x y : Nat) : addF x y = match ((Ieee.double.read x).sum (Ieee.double.read y)).map Ieee.double.write with | some r => r | none => 9221120237041090560 := rfl

theorem plus_left (y : Nat) : P6 (addF 9218868437227405312 y) := by
  rcases split_nan y with h | h | h
  · exact .inr (nan_addF_right h _)
  · rw [addF_read, read_plus, read_inf h]
    cases (y / 9223372036854775808 % 2 == 1)
    · exact .inl rfl
    · exact .inr nan_canon
  · obtain ⟨s, m, i, e⟩ := read_num h
    rw [addF_read, read_plus, e]; exact .inl rfl
theorem plus_right (x : Nat) : P6 (addF x 9218868437227405312) := by
  rcases split_nan x with h | h | h
  · exact .inr (nan_addF_left h _)
  · rw [addF_read, read_plus, read_inf h]
    cases (x / 9223372036854775808 % 2 == 1)
    · exact .inl rfl
    · exact .inr nan_canon
  · obtain ⟨s, m, i, e⟩ := read_num h
    rw [addF_read, read_plus, e]; exact .inl rfl
theorem minus_left (y : Nat) : P1 (addF 18442240474082181120 y) := by
  rcases split_nan y with h | h | h
  · exact .inr (nan_addF_right h _)
  · rw [addF_read, read_minus, read_inf h]
    cases (y / 9223372036854775808 % 2 == 1)
    · exact .inr nan_canon
    · exact .inl rfl
  · obtain ⟨s, m, i, e⟩ := read_num h
    rw [addF_read, read_minus, e]; exact .inl rfl
theorem minus_right (x : Nat) : P1 (addF x 18442240474082181120) := by
  rcases split_nan x with h | h | h
  · exact .inr (nan_addF_left h _)
  · rw [addF_read, read_minus, read_inf h]
    cases (x / 9223372036854775808 % 2 == 1)
    · exact .inr nan_canon
    · exact .inl rfl
  · obtain ⟨s, m, i, e⟩ := read_num h
    rw [addF_read, read_minus, e]; exact .inl rfl

theorem P6.add {x : Nat} (h : P6 x) (y : Nat) : P6 (addF x y) := by
  rcases h with rfl | h
  · exact plus_left y
  · exact .inr (nan_addF_left h y)
theorem P1.add {x : Nat} (h : P1 x) (y : Nat) : P1 (addF x y) := by
  rcases h with rfl | h
  · exact minus_left y
  · exact .inr (nan_addF_left h y)

theorem kind0 (n : Nat) : kindF n = 0 ↔ NaN n := by
  have h := kindF_zero n
  unfold NaN
  unfold nanB at h
  by_cases c : 9218868437227405312 < n % 9223372036854775808
  · rw [decide_eq_true c] at h; simp at h; simp [h, c]
  · rw [decide_eq_false c] at h; simp at h; simp [h, c]
theorem kind1 (n : Nat) : kindF n = 1 ↔ n = 18442240474082181120 := by
  unfold kindF
  constructor
  · split
    · intro h; simp at h
    · split
      · intro _; assumption
      · split
        · intro h; simp at h
        · split <;> split <;> (intro h; simp at h)
  · rintro rfl; rfl
theorem kind6 (n : Nat) : kindF n = 6 ↔ n = 9218868437227405312 := by
  unfold kindF
  constructor
  · split
    · intro h; simp at h
    · split
      · intro h; simp at h
      · split
        · intro _; assumption
        · split <;> split <;> (intro h; simp at h)
  · rintro rfl; rfl

theorem sum_nan (f : Nat → Nat) (k : Nat) (h : ∃ j, j ≤ k ∧ NaN (f j)) : NaN (sumTo f k) := by
  induction k with
  | zero => obtain ⟨j, hj, hn⟩ := h; obtain rfl : j = 0 := by omega
            exact hn
  | succ k ih =>
    obtain ⟨j, hj, hn⟩ := h
    by_cases c : j = k + 1
    · subst c; exact nan_addF_right hn _
    · exact nan_addF_left (ih ⟨j, by omega, hn⟩) _
theorem sum_plus (f : Nat → Nat) (k : Nat) (h : ∃ j, j ≤ k ∧ f j = 9218868437227405312) : P6 (sumTo f k) := by
  induction k with
  | zero => obtain ⟨j, hj, hn⟩ := h; obtain rfl : j = 0 := by omega
            exact .inl hn
  | succ k ih =>
    obtain ⟨j, hj, hn⟩ := h
    by_cases c : j = k + 1
    · subst c; rw [sumTo, hn]; exact plus_right _
    · exact (ih ⟨j, by omega, hn⟩).add _
theorem sum_minus (f : Nat → Nat) (k : Nat) (h : ∃ j, j ≤ k ∧ f j = 18442240474082181120) : P1 (sumTo f k) := by
  induction k with
  | zero => obtain ⟨j, hj, hn⟩ := h; obtain rfl : j = 0 := by omega
            exact .inl hn
  | succ k ih =>
    obtain ⟨j, hj, hn⟩ := h
    by_cases c : j = k + 1
    · subst c; rw [sumTo, hn]; exact minus_right _
    · exact (ih ⟨j, by omega, hn⟩).add _

def hasB (f : Nat → Nat) (k : Int) : Nat → Bool
  | 0 => false
  | m + 1 => hasB f k m || kindF (f m) == k
theorem hasB_iff (f : Nat → Nat) (k : Int) (m : Nat) : hasB f k m = true ↔ ∃ j, j < m ∧ kindF (f j) = k := by
  induction m with
  | zero => simp [hasB]
  | succ m ih =>
    rw [hasB, Bool.or_eq_true, ih, beq_iff_eq]
    constructor
    · rintro (⟨j, hj, e⟩ | e)
      · exact ⟨j, by omega, e⟩
      · exact ⟨m, by omega, e⟩
    · rintro ⟨j, hj, e⟩
      by_cases c : j = m
      · subst c; exact .inr e
      · exact .inl ⟨j, by omega, e⟩
theorem hasB_not (f : Nat → Nat) (k : Int) (m : Nat) : hasB f k m = false ↔ ∀ j, j < m → kindF (f j) ≠ k := by
  rw [← Bool.not_eq_true, hasB_iff]; simp

theorem canon_nan_eq {x : Nat} (h : NaN x) : canonF x = 9221120237041090560 := by unfold NaN at h; unfold canonF; rw [if_pos h]
theorem canon_num_eq {x : Nat} (h : ¬ NaN x) : canonF x = x := by unfold NaN at h; unfold canonF; rw [if_neg h]

theorem edge_nan (f : Nat → Nat) (len : Nat) (h : hasB f 0 len = true ∨ (hasB f 1 len = true ∧ hasB f 6 len = true)) : sumF f len = 9221120237041090560 := by
  have pos : len ≠ 0 := by
    rintro rfl
    rcases h with h | ⟨h, _⟩ <;> simp [hasB] at h
  unfold sumF
  rw [if_neg pos]
  apply canon_nan_eq
  rcases h with h | ⟨h, g⟩
  · obtain ⟨j, hj, e⟩ := (hasB_iff _ _ _).1 h
    exact sum_nan f _ ⟨j, by omega, (kind0 _).1 e⟩
  · obtain ⟨j, hj, e⟩ := (hasB_iff _ _ _).1 h
    obtain ⟨i, hi, e'⟩ := (hasB_iff _ _ _).1 g
    have a := sum_minus f (len - 1) ⟨j, by omega, (kind1 _).1 e⟩
    have b := sum_plus f (len - 1) ⟨i, by omega, (kind6 _).1 e'⟩
    rcases a with a | a
    · rcases b with b | b
      · rw [a] at b; simp at b
      · exact b
    · exact a

theorem edge_small (f : Nat → Nat) (len : Nat) (h0 : hasB f 0 len = false) (hl : len ≤ 1) : kindF (sumF f len) ≠ 0 := by
  unfold sumF
  by_cases c : len = 0
  · rw [if_pos c]; decide
  · rw [if_neg c]
    obtain rfl : len = 1 := by omega
    have n0 : ¬ NaN (f 0) := fun h => (hasB_not _ _ _).1 h0 0 (by omega) ((kind0 _).2 h)
    show kindF (canonF (f 0)) ≠ 0
    rw [canon_num_eq n0]
    exact fun h => n0 ((kind0 _).1 h)

theorem not_inf {n : Nat} (hn : n < 18446744073709551616) (h0 : ¬ NaN n) (h1 : n ≠ 18442240474082181120) (h6 : n ≠ 9218868437227405312) : n % 9223372036854775808 < 9218868437227405312 := by
  unfold NaN at h0; omega

theorem plus_stays_left {y : Nat} (hy : y < 18446744073709551616) (h0 : ¬ NaN y) (h1 : y ≠ 18442240474082181120) : addF 9218868437227405312 y = 9218868437227405312 := by
  by_cases c : y = 9218868437227405312
  · rw [c]; rfl
  · obtain ⟨s, m, i, e⟩ := read_num (not_inf hy h0 h1 c)
    rw [addF_read, read_plus, e]; rfl
theorem plus_stays_right {x : Nat} (hx : x < 18446744073709551616) (h0 : ¬ NaN x) (h1 : x ≠ 18442240474082181120) : addF x 9218868437227405312 = 9218868437227405312 := by
  by_cases c : x = 9218868437227405312
  · rw [c]; rfl
  · obtain ⟨s, m, i, e⟩ := read_num (not_inf hx h0 h1 c)
    rw [addF_read, read_plus, e]; rfl
theorem minus_stays_left {y : Nat} (hy : y < 18446744073709551616) (h0 : ¬ NaN y) (h6 : y ≠ 9218868437227405312) : addF 18442240474082181120 y = 18442240474082181120 := by
  by_cases c : y = 18442240474082181120
  · rw [c]; rfl
  · obtain ⟨s, m, i, e⟩ := read_num (not_inf hy h0 c h6)
    rw [addF_read, read_minus, e]; rfl
theorem minus_stays_right {x : Nat} (hx : x < 18446744073709551616) (h0 : ¬ NaN x) (h6 : x ≠ 9218868437227405312) : addF x 18442240474082181120 = 18442240474082181120 := by
  by_cases c : x = 18442240474082181120
  · rw [c]; rfl
  · obtain ⟨s, m, i, e⟩ := read_num (not_inf hx h0 c h6)
    rw [addF_read, read_minus, e]; rfl

theorem edge_plus (f : Nat → Nat) (len : Nat) (hf : ∀ i, i < len → f i < 18446744073709551616) (h0 : hasB f 0 len = false) (h1 : hasB f 1 len = false) (h6 : hasB f 6 len = true) (hl : len ≤ 2) : kindF (sumF f len) = 6 := by
  rw [hasB_not] at h0 h1
  obtain ⟨j, hj, e⟩ := (hasB_iff _ _ _).1 h6
  rw [kind6] at e
  have k : sumTo f (len - 1) = 9218868437227405312 := by
    by_cases c : len = 1
    · subst c; obtain rfl : j = 0 := by omega
      exact e
    · obtain rfl : len = 2 := by omega
      show addF (f 0) (f 1) = _
      have a0 := h0 0 (by omega); have a1 := h0 1 (by omega)
      have b0 := h1 0 (by omega); have b1 := h1 1 (by omega)
      rw [Ne, kind0] at a0 a1; rw [Ne, kind1] at b0 b1
      by_cases q : j = 0
      · subst q; rw [e]; exact plus_stays_left (hf 1 (by omega)) a1 b1
      · obtain rfl : j = 1 := by omega
        rw [e]; exact plus_stays_right (hf 0 (by omega)) a0 b0
  unfold sumF
  rw [if_neg (by omega), k]; rfl
theorem edge_minus (f : Nat → Nat) (len : Nat) (hf : ∀ i, i < len → f i < 18446744073709551616) (h0 : hasB f 0 len = false) (h1 : hasB f 1 len = true) (h6 : hasB f 6 len = false) (hl : len ≤ 2) : kindF (sumF f len) = 1 := by
  rw [hasB_not] at h0 h6
  obtain ⟨j, hj, e⟩ := (hasB_iff _ _ _).1 h1
  rw [kind1] at e
  have k : sumTo f (len - 1) = 18442240474082181120 := by
    by_cases c : len = 1
    · subst c; obtain rfl : j = 0 := by omega
      exact e
    · obtain rfl : len = 2 := by omega
      show addF (f 0) (f 1) = _
      have a0 := h0 0 (by omega); have a1 := h0 1 (by omega)
      have b0 := h6 0 (by omega); have b1 := h6 1 (by omega)
      rw [Ne, kind0] at a0 a1; rw [Ne, kind6] at b0 b1
      by_cases q : j = 0
      · subst q; rw [e]; exact minus_stays_left (hf 1 (by omega)) a1 b1
      · obtain rfl : j = 1 := by omega
        rw [e]; exact minus_stays_right (hf 0 (by omega)) a0 b0
  unfold sumF
  rw [if_neg (by omega), k]; rfl

theorem sumF_lt (f : Nat → Nat) (len : Nat) (h : len ≠ 0 → f 0 < 18446744073709551616) : sumF f len < 18446744073709551616 := by
  unfold sumF
  by_cases c : len = 0
  · rw [if_pos c]; decide
  · rw [if_neg c]; exact canonF_lt _ (sumTo_lt f (h c) _)
end Go.Proofs.Ytbdccfggnbopgaa
