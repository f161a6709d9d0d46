/- Plain facts on the bits of a float64, with no program in sight: which words are NaNs, infinities and zeros, and how a word stands to itself, to zero and to the greatest finite number. No conditions beyond those that each theorem names. -/
import Derived.Laws.FloatArith
import Derived.Laws.BitsAllLaws
namespace Go.Proofs.YtpkbjbhmghdnoaaDoor

open Ieee

theorem read_eq (n : Nat) : double.read n =
    if n % 9223372036854775808 < 4503599627370496 then .number (n / 9223372036854775808 % 2 == 1) (n % 9223372036854775808) (-1074)
    else if n % 9223372036854775808 < 9218868437227405312 then
      .number (n / 9223372036854775808 % 2 == 1) (4503599627370496 + n % 9223372036854775808 % 4503599627370496) (-1074 + ((n % 9223372036854775808 / 4503599627370496 - 1 : Nat) : Int))
    else if n % 9223372036854775808 = 9218868437227405312 then .infinity (n / 9223372036854775808 % 2 == 1)
    else .nan (n / 9223372036854775808 % 2 == 1) (n % 9223372036854775808 - 9218868437227405312) := by
  have a : double.signWeight = 9223372036854775808 := rfl
  have b : double.binade = 4503599627370496 := rfl
  have c : double.infRung = 9218868437227405312 := rfl
  have d : double.leastPlace = -1074 := rfl
  simp only [Format.read, a, b, c, d]

theorem signed_zero (s : Bool) (k : Nat) : signed s 0 k = 0 := by cases s <;> simp [signed]
theorem signed_pos {m : Nat} (h : 0 < m) (k : Nat) : 0 < signed false m k := by
  have : 0 < m * 2 ^ k := Nat.mul_pos h (Nat.two_pow_pos k)
  simp only [signed, Nat.shiftLeft_eq]; simp; exact_mod_cast this
theorem signed_neg {m : Nat} (h : 0 < m) (k : Nat) : signed true m k < 0 := by
  have := signed_pos h k
  simp only [signed] at this ⊢; simp at this ⊢; omega

theorem cmp_self (x : Int) : compare x x = .eq := by simp

/-- A word is unlike itself just if it is a NaN's. -/
theorem order_self (n : Nat) : (FloatKind.f64.format.order n n == some .eq) = decide (n % 9223372036854775808 ≤ 9218868437227405312) := by
  show (double.order n n == some .eq) = _
  unfold Format.order
  rw [read_eq]
  by_cases h1 : n % 9223372036854775808 < 4503599627370496
  · rw [if_pos h1]; simp [Datum.order]; omega
  · rw [if_neg h1]
    by_cases h2 : n % 9223372036854775808 < 9218868437227405312
    · rw [if_pos h2]; simp [Datum.order]; omega
    · rw [if_neg h2]
      by_cases h3 : n % 9223372036854775808 = 9218868437227405312
      · rw [if_pos h3]; simp [Datum.order]; omega
      · rw [if_neg h3]; simp [Datum.order]; omega

def sgn (n : Nat) : Bool := n / 9223372036854775808 % 2 == 1

theorem cmp_lt {x y : Int} (h : x < y) : compare x y = .lt := by simp [compare, compareOfLessAndEq, h]
theorem cmp_gt {x y : Int} (h : y < x) : compare x y = .gt := by simp [compare, compareOfLessAndEq, show ¬ x < y by omega, show ¬ x = y by omega]

/-- How a word that is no NaN's stands to +0. -/
theorem order_zero (n : Nat) (hn : n % 9223372036854775808 ≤ 9218868437227405312) :
    FloatKind.f64.format.order n 0 = some (if n % 9223372036854775808 = 0 then .eq else if sgn n = true then .lt else .gt) := by
  show double.order n 0 = _
  have h0 : double.read 0 = .number false 0 (-1074) := rfl
  unfold Format.order
  rw [read_eq, h0]
  show _ = some (if n % 9223372036854775808 = 0 then _ else if (n / 9223372036854775808 % 2 == 1) = true then _ else _)
  generalize hs : (n / 9223372036854775808 % 2 == 1) = s
  by_cases h1 : n % 9223372036854775808 < 4503599627370496
  · rw [if_pos h1]
    simp only [Datum.order, signed_zero]
    by_cases hz : n % 9223372036854775808 = 0
    · rw [if_pos hz, hz, signed_zero, cmp_self]
    · rw [if_neg hz]
      have hp : 0 < n % 9223372036854775808 := by omega
      cases s
      · rw [cmp_gt (signed_pos hp _)]; rfl
      · rw [cmp_lt (signed_neg hp _)]; rfl
  · rw [if_neg h1, if_neg (show ¬ n % 9223372036854775808 = 0 by omega)]
    by_cases h2 : n % 9223372036854775808 < 9218868437227405312
    · rw [if_pos h2]
      simp only [Datum.order, signed_zero]
      have hp : 0 < 4503599627370496 + n % 9223372036854775808 % 4503599627370496 := by omega
      cases s
      · rw [cmp_gt (signed_pos hp _)]; rfl
      · rw [cmp_lt (signed_neg hp _)]; rfl
    · rw [if_neg h2, if_pos (by omega)]
      cases s <;> rfl

theorem signed_le_false (s : Bool) (m k : Nat) : signed s m k ≤ ((m * 2 ^ k : Nat) : Int) := by
  cases s
  · simp [signed, Nat.shiftLeft_eq]
  · have : (0 : Int) ≤ ((m * 2 ^ k : Nat) : Int) := Int.natCast_nonneg _
    simp only [signed, Nat.shiftLeft_eq, if_true]; omega

/-- Only infinity is above the greatest finite number. -/
theorem order_max (n : Nat) (hn : n < 18446744073709551616) :
    (FloatKind.f64.format.order n 9218868437227405311 == some .gt) = decide (n = 9218868437227405312) := by
  show (double.order n 9218868437227405311 == some .gt) = _
  have h0 : double.read 9218868437227405311 = .number false 9007199254740991 971 := rfl
  unfold Format.order
  rw [read_eq, h0]
  by_cases h1 : n % 9223372036854775808 < 4503599627370496
  · rw [if_pos h1, decide_eq_false (by omega)]
    simp only [Datum.order]
    have a := signed_le_false (n / 9223372036854775808 % 2 == 1) (n % 9223372036854775808) (((-1074 : Int) - min (-1074) 971).toNat)
    have e : ((-1074 : Int) - min (-1074) 971).toNat = 0 := by decide
    have b : (9007199254740991 : Int) ≤ signed false 9007199254740991 ((971 : Int) - min (-1074) 971).toNat := by
      have : 0 < 2 ^ ((971 : Int) - min (-1074) 971).toNat := Nat.two_pow_pos _
      have c : 9007199254740991 * 1 ≤ 9007199254740991 * 2 ^ ((971 : Int) - min (-1074) 971).toNat := Nat.mul_le_mul_left _ this
      simp only [signed, Nat.shiftLeft_eq]
      generalize 9007199254740991 * 2 ^ ((971 : Int) - min (-1074) 971).toNat = q at c ⊢
      simp; omega
    rw [e] at a ⊢
    simp only [Nat.pow_zero, Nat.mul_one] at a
    rw [cmp_lt (by omega)]; rfl
  · rw [if_neg h1]
    by_cases h2 : n % 9223372036854775808 < 9218868437227405312
    · rw [if_pos h2, decide_eq_false (by omega)]
      have hq : n % 9223372036854775808 / 4503599627370496 - 1 ≤ 2045 := by omega
      generalize n % 9223372036854775808 / 4503599627370496 - 1 = q at hq
      have hm : 4503599627370496 + n % 9223372036854775808 % 4503599627370496 ≤ 9007199254740991 := by omega
      generalize 4503599627370496 + n % 9223372036854775808 % 4503599627370496 = m at hm
      simp only [Datum.order]
      have e : min (-1074 + (q : Int)) 971 = -1074 + q := by omega
      rw [e]
      have e2 : ((-1074 : Int) + q - (-1074 + q)).toNat = 0 := by omega
      rw [e2]
      have a := signed_le_false (n / 9223372036854775808 % 2 == 1) m 0
      simp only [Nat.pow_zero, Nat.mul_one] at a
      have b : (9007199254740991 : Int) ≤ signed false 9007199254740991 ((971 : Int) - (-1074 + (q : Int))).toNat := by
        have : 0 < 2 ^ ((971 : Int) - (-1074 + (q : Int))).toNat := Nat.two_pow_pos _
        have c : 9007199254740991 * 1 ≤ 9007199254740991 * 2 ^ ((971 : Int) - (-1074 + (q : Int))).toNat := Nat.mul_le_mul_left _ this
        simp only [signed, Nat.shiftLeft_eq]
        generalize 9007199254740991 * 2 ^ ((971 : Int) - (-1074 + (q : Int))).toNat = q at c ⊢
        simp; omega
      generalize signed false 9007199254740991 ((971 : Int) - (-1074 + (q : Int))).toNat = y at b ⊢
      generalize signed (n / 9223372036854775808 % 2 == 1) m 0 = x at a ⊢
      rcases Int.lt_or_eq_of_le (show x ≤ y by omega) with h | h
      · rw [cmp_lt h]; rfl
      · rw [h, cmp_self]; rfl
    · rw [if_neg h2]
      by_cases h3 : n % 9223372036854775808 = 9218868437227405312
      · rw [if_pos h3]
        by_cases hs : n < 9223372036854775808
        · have : (n / 9223372036854775808 % 2 == 1) = false := by simp; omega
          rw [this, decide_eq_true (by omega)]; rfl
        · have : (n / 9223372036854775808 % 2 == 1) = true := by simp; omega
          rw [this, decide_eq_false (by omega)]; rfl
      · rw [if_neg h3, decide_eq_false (by omega)]; rfl

/-- Turning the sign bit. -/
theorem neg_bits (n : Nat) (hn : n < 18446744073709551616) :
    Op.negFloat .f64 n = if n < 9223372036854775808 then n + 9223372036854775808 else n - 9223372036854775808 := by
  show n ^^^ 2 ^ 63 = _
  split
  · rename_i h
    rw [show n + 9223372036854775808 = 2 ^ 63 + n by omega, ← nat_join 63 (2 ^ 63) n (by decide) (by simpa using h), Nat.xor_comm]
    apply Nat.eq_of_testBit_eq
    intro i
    simp only [Nat.testBit_xor, Nat.testBit_or, Nat.testBit_two_pow]
    by_cases hi : 63 = i
    · subst hi
      have : n.testBit 63 = false := Nat.testBit_lt_two_pow (by simpa using h)
      simp [this]
    · simp [hi]
  · rename_i h
    have e : n = 2 ^ 63 + (n - 9223372036854775808) := by omega
    generalize n - 9223372036854775808 = m at e
    subst e
    rw [← nat_join 63 (2 ^ 63) m (by decide) (by omega)]
    apply Nat.eq_of_testBit_eq
    intro i
    simp only [Nat.testBit_xor, Nat.testBit_or, Nat.testBit_two_pow]
    by_cases hi : 63 = i
    · subst hi
      have : m.testBit 63 = false := Nat.testBit_lt_two_pow (by omega)
      simp [this]
    · simp [hi]
end Go.Proofs.YtpkbjbhmghdnoaaDoor
