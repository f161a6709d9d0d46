/- Plain facts on the bits of a float64, with no program in sight: which words are NaNs, infinities and zeros, and how a word stands to itself, to zero and to the greatest finite number. No conditions beyond those that each theorem names. What the small functions of package math and of layer num do at every float64 and every number: walks over the program's text. Conditions: the bits are below 2^64. What the document's own answers of layer num (Kind, Canon, Key, Order) do at every number: walks over their text. Conditions: the bits are below 2^64. What Canon, Key and Order of layer num, and the document's own, do at every number: walks over their text. Conditions: the bits are below 2^64. -/
import Derived.Laws.FloatArith
import Derived.Laws.BitsAllLaws
import Derived.Test.YtcgfhjkdgpgheaaDoorRows
import Derived.WalkKit
import Derived.WalkSpells
import Derived.WalkLawsBesides
/- NumMath -/
namespace Go.Proofs.YtcgfhjkdgpgheaaDoor

open Ieee

theorem read_eq (n : Nat) : double.read n =
    if n % 9223372036854775808 < 4503599627370496 then .number (n / 9223372036854775808 % 2 == 1) (n % 9223372036854775808) (-1074)
    else if n % 9223372036854775808 < 9218868437227405312 then
      .number (n / 9223372036854775808 % 2 == 1) (4503599627370496 + n % 9223372036854775808 % 4503599627370496) (-1074 + ((n % 9223372036854775808 / 4503599627370496 - 1 : Nat) : Int))
    else if n % 9223372036854775808 = 9218868437227405312 then .infinity (n / 9223372036854775808 % 2 == 1)
    else .nan (n / 9223372036854775808 % 2 == 1) (n % 9223372036854775808 - 9218868437227405312) := by
  have a : double.signWeight = 9223372036854775808 := rfl
  have b : double.binade = 4503599627370496 := rfl
  have c : double.infRung = 9218868437227405312 := rfl
  have d : double.leastPlace = -1074 := rfl
  simp only [Format.read, a, b, c, d]

theorem signed_zero (s : Bool) (k : Nat) : signed s 0 k = 0 := by cases s <;> simp [signed]
theorem signed_pos {m : Nat} (h : 0 < m) (k : Nat) : 0 < signed false m k := by
  have : 0 < m * 2 ^ k := Nat.mul_pos h (Nat.two_pow_pos k)
  simp only [signed, Nat.shiftLeft_eq]; simp; exact_mod_cast this
theorem signed_neg {m : Nat} (h : 0 < m) (k : Nat) : signed true m k < 0 := by
  have := signed_pos h k
  simp only [signed] at this ⊢; simp at this ⊢; omega

theorem cmp_self (x : Int) : compare x x = .eq := by simp

/-- A word is unlike itself just if it is a NaN's. -/
theorem order_self (n : Nat) : (FloatKind.f64.format.order n n == some .eq) = decide (n % 9223372036854775808 ≤ 9218868437227405312) := by
  show (double.order n n == some .eq) = _
  unfold Format.order
  rw [read_eq]
  by_cases h1 : n % 9223372036854775808 < 4503599627370496
  · rw [if_pos h1]; simp [Datum.order]; omega
  · rw [if_neg h1]
    by_cases h2 : n % 9223372036854775808 < 9218868437227405312
    · rw [if_pos h2]; simp [Datum.order]; omega
    · rw [if_neg h2]
      by_cases h3 : n % 9223372036854775808 = 9218868437227405312
      · rw [if_pos h3]; simp [Datum.order]; omega
      · rw [if_neg h3]; simp [Datum.order]; omega

def sgn (n : Nat) : Bool := n / 9223372036854775808 % 2 == 1

theorem cmp_lt {x y : Int} (h : x < y) : compare x y = .lt := by simp [compare, compareOfLessAndEq, h]
theorem cmp_gt {x y : Int} (h : y < x) : compare x y = .gt := by simp [compare, compareOfLessAndEq, show ¬ x < y by omega, show ¬ x = y by omega]

/-- How a word that is no NaN's stands to +0. -/
theorem order_zero (n : Nat) (hn : n % 9223372036854775808 ≤ 9218868437227405312) :
    FloatKind.f64.format.order n 0 = some (if n % 9223372036854775808 = 0 then .eq else if sgn n = true then .lt else .gt) := by
  show double.order n 0 = _
  have h0 : double.read 0 = .number false 0 (-1074) := rfl
  unfold Format.order
  rw [read_eq, h0]
  show _ = some (if n % 9223372036854775808 = 0 then _ else if (n / 9223372036854775808 % 2 == 1) = true then _ else _)
  generalize hs : (n / 9223372036854775808 % 2 == 1) = s
  by_cases h1 : n % 9223372036854775808 < 4503599627370496
  · rw [if_pos h1]
    simp only [Datum.order, signed_zero]
    by_cases hz : n % 9223372036854775808 = 0
    · rw [if_pos hz, hz, signed_zero, cmp_self]
    · rw [if_neg hz]
      have hp : 0 < n % 9223372036854775808 := by omega
      cases s
      · rw [cmp_gt (signed_pos hp _)]; rfl
      · rw [cmp_lt (signed_neg hp _)]; rfl
  · rw [if_neg h1, if_neg (show ¬ n % 9223372036854775808 = 0 by omega)]
    by_cases h2 : n % 9223372036854775808 < 9218868437227405312
    · rw [if_pos h2]
      simp only [Datum.order, signed_zero]
      have hp : 0 < 4503599627370496 + n % 9223372036854775808 % 4503599627370496 := by omega
      cases s
      · rw [cmp_gt (signed_pos hp _)]; rfl
      · rw [cmp_lt (signed_neg hp _)]; rfl
    · rw [if_neg h2, if_pos (by omega)]
      cases s <;> rfl

theorem signed_le_false (s : Bool) (m k : Nat) : signed s m k ≤ ((m * 2 ^ k : Nat) : Int) := by
  cases s
  · simp [signed, Nat.shiftLeft_eq]
  · have : (0 : Int) ≤ ((m * 2 ^ k : Nat) : Int) := Int.natCast_nonneg _
    simp only [signed, Nat.shiftLeft_eq, if_true]; omega

/-- Only infinity is above the greatest finite number. -/
theorem order_max (n : Nat) (hn : n < 18446744073709551616) :
    (FloatKind.f64.format.order n 9218868437227405311 == some .gt) = decide (n = 9218868437227405312) := by
  show (double.order n 9218868437227405311 == some .gt) = _
  have h0 : double.read 9218868437227405311 = .number false 9007199254740991 971 := rfl
  unfold Format.order
  rw [read_eq, h0]
  by_cases h1 : n % 9223372036854775808 < 4503599627370496
  · rw [if_pos h1, decide_eq_false (by omega)]
    simp only [Datum.order]
    have a := signed_le_false (n / 9223372036854775808 % 2 == 1) (n % 9223372036854775808) (((-1074 : Int) - min (-1074) 971).toNat)
    have e : ((-1074 : Int) - min (-1074) 971).toNat = 0 := by decide
    have b : (9007199254740991 : Int) ≤ signed false 9007199254740991 ((971 : Int) - min (-1074) 971).toNat := by
      have : 0 < 2 ^ ((971 : Int) - min (-1074) 971).toNat := Nat.two_pow_pos _
      have c : 9007199254740991 * 1 ≤ 9007199254740991 * 2 ^ ((971 : Int) - min (-1074) 971).toNat := Nat.mul_le_mul_left _ this
      simp only [signed, Nat.shiftLeft_eq]
      generalize 9007199254740991 * 2 ^ ((971 : Int) - min (-1074) 971).toNat = q at c ⊢
      simp; omega
    rw [e] at a ⊢
    simp only [Nat.pow_zero, Nat.mul_one] at a
    rw [cmp_lt (by omega)]; rfl
  · rw [if_neg h1]
    by_cases h2 : n % 9223372036854775808 < 9218868437227405312
    · rw [if_pos h2, decide_eq_false (by omega)]
      have hq : n % 9223372036854775808 / 4503599627370496 - 1 ≤ 2045 := by omega
      generalize n % 9223372036854775808 / 4503599627370496 - 1 = q at hq
      have hm : 4503599627370496 + n % 9223372036854775808 % 4503599627370496 ≤ 9007199254740991 := by omega
      generalize 4503599627370496 + n % 9223372036854775808 % 4503599627370496 = m at hm
      simp only [Datum.order]
      have e : min (-1074 + (q : Int)) 971 = -1074 + q := by omega
      rw [e]
      have e2 : ((-1074 : Int) + q - (-1074 + q)).toNat = 0 := by omega
      rw [e2]
      have a := signed_le_false (n / 9223372036854775808 % 2 == 1) m 0
      simp only [Nat.pow_zero, Nat.mul_one] at a
      have b : (9007199254740991 : Int) ≤ signed false 9007199254740991 ((971 : Int) - (-1074 + (q : Int))).toNat := by
        have : 0 < 2 ^ ((971 : Int) - (-1074 + (q : Int))).toNat := Nat.two_pow_pos _
        have c : 9007199254740991 * 1 ≤ 9007199254740991 * 2 ^ ((971 : Int) - (-1074 + (q : Int))).toNat := Nat.mul_le_mul_left _ this
        simp only [signed, Nat.shiftLeft_eq]
        generalize 9007199254740991 * 2 ^ ((971 : Int) - (-1074 + (q : Int))).toNat = q at c ⊢
        simp; omega
      generalize signed false 9007199254740991 ((971 : Int) - (-1074 + (q : Int))).toNat = y at b ⊢
      generalize signed (n / 9223372036854775808 % 2 == 1) m 0 = x at a ⊢
      rcases Int.lt_or_eq_of_le (show x ≤ y by omega) with h | h
      · rw [cmp_lt h]; rfl
      · rw [h, cmp_self]; rfl
    · rw [if_neg h2]
      by_cases h3 : n % 9223372036854775808 = 9218868437227405312
      · rw [if_pos h3]
        by_cases hs : n < 9223372036854775808
        · have : (n / 9223372036854775808 % 2 == 1) = false := by simp; omega
          rw [this, decide_eq_true (by omega)]; rfl
        · have : (n / 9223372036854775808 % 2 == 1) = true := by simp; omega
          rw [this, decide_eq_false (by omega)]; rfl
      · rw [if_neg h3, decide_eq_false (by omega)]; rfl

/-- Turning the sign bit. -/
theorem neg_bits (n : Nat) (hn : n < 18446744073709551616) :
    Op.negFloat .f64 n = if n < 9223372036854775808 then n + 9223372036854775808 else n - 9223372036854775808 := by
  show n ^^^ 2 ^ 63 = _
  split
  · rename_i h
    rw [show n + 9223372036854775808 = 2 ^ 63 + n by omega, ← nat_join 63 (2 ^ 63) n (by decide) (by simpa using h), Nat.xor_comm]
    apply Nat.eq_of_testBit_eq
    intro i
    simp only [Nat.testBit_xor, Nat.testBit_or, Nat.testBit_two_pow]
    by_cases hi : 63 = i
    · subst hi
      have : n.testBit 63 = false := Nat.testBit_lt_two_pow (by simpa using h)
      simp [this]
    · simp [hi]
  · rename_i h
    have e : n = 2 ^ 63 + (n - 9223372036854775808) := by omega
    generalize n - 9223372036854775808 = m at e
    subst e
    rw [← nat_join 63 (2 ^ 63) m (by decide) (by omega)]
    apply Nat.eq_of_testBit_eq
    intro i
    simp only [Nat.testBit_xor, Nat.testBit_or, Nat.testBit_two_pow]
    by_cases hi : 63 = i
    · subst hi
      have : m.testBit 63 = false := Nat.testBit_lt_two_pow (by omega)
      simp [this]
    · simp [hi]
end Go.Proofs.YtcgfhjkdgpgheaaDoor

/- NumCalls -/
namespace Go.Proofs.YtcgfhjkdgpgheaaDoor

open Go.RowKit

def nanB (n : Nat) : Bool := decide (9218868437227405312 < n % 9223372036854775808)
def negB (n : Nat) : Bool := decide (9223372036854775808 ≤ n)

theorem nanB_eq (n : Nat) : nanB n = (FloatKind.f64.format.order n n != some .eq) := by
  have h := order_self n
  unfold nanB
  rw [bne, h]
  by_cases c : n % 9223372036854775808 ≤ 9218868437227405312
  · rw [decide_eq_true c, decide_eq_false (by omega)]; rfl
  · rw [decide_eq_false c, decide_eq_true (by omega)]; rfl

theorem fromBits (n : Nat) (w : World) : (callFunc 121 #[.int .u64 (n : Int)]).run Tryd.prog w = .ok (.value (.float .f64 n)) w := by kernel_rfl
theorem isNaN_any (n : Nat) (w : World) :
    Calls Tryd.prog 120 #[.float .f64 n] w fun e w' => e = .returned (.bool (nanB n)) ∧ w = w' := by
  rw [nanB_eq]
  go_enter Tryd.func120, Tryd.ntmps120
  go_wp2
  go_ret
  exact ⟨rfl, rfl⟩

theorem canon_nan (n : Nat) (w : World) (h : nanB n = true) :
    Calls Tryd.prog 99 #[.int .u64 n] w fun e w' => e = .returned (.int .u64 9221120237041090560) ∧ w = w' := by
  have hb := fromBits
  go_enter Tryd.func99, Tryd.ntmps99
  go_wp2_with (go_at_call 120; refine (isNaN_any _ _).mono ?_; rintro e w' ⟨rfl, rfl⟩)
  go_ret
  exact ⟨rfl, rfl⟩

theorem canon_num (n : Nat) (w : World) (h : nanB n = false) :
    Calls Tryd.prog 99 #[.int .u64 n] w fun e w' => e = .returned (.int .u64 n) ∧ w = w' := by
  have hb := fromBits
  go_enter Tryd.func99, Tryd.ntmps99
  go_wp2_with (go_at_call 120; refine (isNaN_any _ _).mono ?_; rintro e w' ⟨rfl, rfl⟩)
  go_ret
  exact ⟨rfl, rfl⟩

/-! IsInf at the two signs -/
def infB (n : Nat) : Bool := decide (n = 9218868437227405312)
def minusInfB (n : Nat) : Bool := decide (n = 18442240474082181120)

theorem negB_eq (n : Nat) (hn : n < 18446744073709551616) : negB n = decide (wrap64 (n : Int) < 0) := by
  unfold negB wrap64
  by_cases c : 9223372036854775808 ≤ n
  · rw [decide_eq_true c, decide_eq_true (by omega)]
  · rw [decide_eq_false c, decide_eq_false (by omega)]

def kindF (n : Nat) : Int :=
  if 9218868437227405312 < n % 9223372036854775808 then 0 else if n = 18442240474082181120 then 1 else if n = 9218868437227405312 then 6
  else if n % 9223372036854775808 = 0 then (if 9223372036854775808 ≤ n then 3 else 4) else if 9223372036854775808 ≤ n then 2 else 5

def pickF (a b c d : Bool) (o : Ordering) : Int := if a then 0 else if b then 1 else if c then 6 else match o with | .lt => 2 | .gt => 5 | .eq => if d then 3 else 4

end Go.Proofs.YtcgfhjkdgpgheaaDoor

/- NumRefs -/
namespace Go.Proofs.YtcgfhjkdgpgheaaDoor

open Go.RowKit

def expF (n : Nat) : Nat := n / 4503599627370496 % 2048
def fracF (n : Nat) : Nat := n % 4503599627370496

theorem negB_le (n : Nat) : negB n = decide ((9223372036854775808 : Int) ≤ (n : Int)) := by
  unfold negB
  by_cases c : 9223372036854775808 ≤ n
  · rw [decide_eq_true c, decide_eq_true (by omega)]
  · rw [decide_eq_false c, decide_eq_false (by omega)]
theorem expF_bits (n : Nat) (hn : n < 18446744073709551616) : ((expF n : Nat) : Int) = bits .and .u64 ((n : Int) / 4503599627370496) 2047 := by
  rw [u64_and _ _ (by omega) (by omega) (by omega) (by omega)]
  have e : ((n : Int) / 4503599627370496).toNat = n / 4503599627370496 := by omega
  rw [e, show (2047 : Int).toNat = 2047 from rfl, nat_mask11]
  rfl
theorem fracF_bits (n : Nat) (hn : n < 18446744073709551616) : ((fracF n : Nat) : Int) = bits .and .u64 (n : Int) 4503599627370495 := by
  rw [u64_and _ _ (by omega) (by omega) (by omega) (by omega)]
  rw [Int.toNat_natCast, show (4503599627370495 : Int).toNat = 2 ^ 52 - 1 from rfl, Nat.and_two_pow_sub_one_eq_mod]
  rfl

theorem parts_any (n : Nat) (hn : n < 18446744073709551616) (w : World) :
    Calls Tryd.prog 123 #[.int .u64 n] w fun e w' => e = .returned (.tuple #[.bool (negB n), .int .u64 (expF n : Nat), .int .u64 (fracF n : Nat)]) ∧ w = w' := by
  rw [negB_le, expF_bits n hn, fracF_bits n hn]
  go_enter Tryd.func123, Tryd.ntmps123
  go_wp2
  go_ret3
  exact ⟨rfl, rfl⟩

def refPick (p q r s : Bool) : Int := if p && !q then 0 else if p && s then 1 else if p then 6 else if r && q && s then 3 else if r && q then 4 else if s then 2 else 5

set_option maxHeartbeats 2000000 in
theorem kindRef_walk (n : Nat) (hn : n < 18446744073709551616) (w : World) (p q r s : Bool)
    (hp : (((expF n : Nat) : Int) == 2047) = p) (hq : (((fracF n : Nat) : Int) == 0) = q) (hq' : (((fracF n : Nat) : Int) != 0) = !q) (hr : (((expF n : Nat) : Int) == 0) = r) (hs : negB n = s) :
    Calls Tryd.prog 102 #[.int .u64 n] w fun e w' => e = .returned (.int .i64 (refPick p q r s)) ∧ w = w' := by
  cases p <;> cases q <;> cases r <;> cases s
  all_goals
    simp only [Bool.not_true, Bool.not_false] at hq'
    go_enter Tryd.func102, Tryd.ntmps102
    go_wp2_with (go_at_call 123; ((with_reducible refine (parts_any _ hn _).mono ?_); rintro e w' ⟨rfl, rfl⟩))
    go_ret
    exact ⟨rfl, rfl⟩

theorem dec_eq (a b : Int) : (a == b) = decide (a = b) := by by_cases h : a = b <;> simp [h]

theorem kindRef_any (n : Nat) (hn : n < 18446744073709551616) (w : World) :
    Calls Tryd.prog 102 #[.int .u64 n] w fun e w' => e = .returned (.int .i64 (kindF n)) ∧ w = w' := by
  have k : kindF n = refPick (((expF n : Nat) : Int) == 2047) (((fracF n : Nat) : Int) == 0) (((expF n : Nat) : Int) == 0) (negB n) := by
    simp only [kindF, dec_eq, expF, fracF, negB]
    by_cases h1 : 9218868437227405312 < n % 9223372036854775808
    · rw [if_pos h1, decide_eq_true (show ((n / 4503599627370496 % 2048 : Nat) : Int) = 2047 by omega), decide_eq_false (show ¬ ((n % 4503599627370496 : Nat) : Int) = 0 by omega)]; rfl
    rw [if_neg h1]
    by_cases h2 : n = 18442240474082181120
    · subst h2; rfl
    rw [if_neg h2]
    by_cases h3 : n = 9218868437227405312
    · subst h3; rfl
    rw [if_neg h3, decide_eq_false (show ¬ ((n / 4503599627370496 % 2048 : Nat) : Int) = 2047 by omega)]
    by_cases h4 : n % 9223372036854775808 = 0
    · rw [if_pos h4, decide_eq_true (show ((n / 4503599627370496 % 2048 : Nat) : Int) = 0 by omega), decide_eq_true (show ((n % 4503599627370496 : Nat) : Int) = 0 by omega)]
      by_cases h5 : 9223372036854775808 ≤ n
      · rw [if_pos h5, decide_eq_true h5]; rfl
      · rw [if_neg h5, decide_eq_false h5]; rfl
    · rw [if_neg h4]
      by_cases c : ((n % 4503599627370496 : Nat) : Int) = 0
      · rw [decide_eq_true c, decide_eq_false (show ¬ ((n / 4503599627370496 % 2048 : Nat) : Int) = 0 by omega)]
        by_cases h5 : 9223372036854775808 ≤ n
        · rw [if_pos h5, decide_eq_true h5]; rfl
        · rw [if_neg h5, decide_eq_false h5]; rfl
      · rw [decide_eq_false c]
        generalize decide (((n / 4503599627370496 % 2048 : Nat) : Int) = 0) = r
        by_cases h5 : 9223372036854775808 ≤ n
        · rw [if_pos h5, decide_eq_true h5]; cases r <;> rfl
        · rw [if_neg h5, decide_eq_false h5]; cases r <;> rfl
  rw [k]
  exact kindRef_walk n hn w _ _ _ _ rfl rfl rfl rfl rfl
end Go.Proofs.YtcgfhjkdgpgheaaDoor

/- NumKeys -/
namespace Go.Proofs.YtcgfhjkdgpgheaaDoor

open Go.RowKit

theorem nat_of {a : Int} (h : (Lit.int .u64 a).wf = true) : ∃ n : Nat, a = (n : Int) ∧ n < 18446744073709551616 := by
  simp [Lit.wf, IntKind.min, IntKind.max, IntKind.signed, IntKind.bits] at h
  exact ⟨a.toNat, by omega, by omega⟩

def canonF (n : Nat) : Nat := if 9218868437227405312 < n % 9223372036854775808 then 9221120237041090560 else n
def keyF (n : Nat) : Nat := if 9218868437227405312 < n % 9223372036854775808 then 0 else if 9223372036854775808 ≤ n then 18446744073709551615 - n else n + 9223372036854775808

theorem canonF_lt (n : Nat) (hn : n < 18446744073709551616) : canonF n < 18446744073709551616 := by unfold canonF; split <;> omega
theorem keyF_lt (n : Nat) (hn : n < 18446744073709551616) : keyF n < 18446744073709551616 := by unfold keyF; split; omega; split <;> omega

theorem kindF_zero (n : Nat) : (kindF n == 0) = nanB n := by
  unfold kindF nanB
  by_cases h1 : 9218868437227405312 < n % 9223372036854775808
  · rw [if_pos h1, decide_eq_true h1]; rfl
  rw [if_neg h1, decide_eq_false h1]
  split; rfl
  split; rfl
  split
  · split <;> rfl
  · split <;> rfl

theorem canon_any (n : Nat) (w : World) :
    Calls Tryd.prog 99 #[.int .u64 n] w fun e w' => e = .returned (.int .u64 (canonF n : Nat)) ∧ w = w' := by
  unfold canonF
  by_cases h : 9218868437227405312 < n % 9223372036854775808
  · rw [if_pos h]; exact canon_nan n w (decide_eq_true h)
  · rw [if_neg h]; exact canon_num n w (decide_eq_false h)

theorem canonRef_any (n : Nat) (hn : n < 18446744073709551616) (w : World) :
    Calls Tryd.prog 64 #[.int .u64 n] w fun e w' => e = .returned (.int .u64 (canonF n : Nat)) ∧ w = w' := by
  unfold canonF
  by_cases h : 9218868437227405312 < n % 9223372036854775808
  · rw [if_pos h]
    have hk : (kindF n == 0) = true := by rw [kindF_zero]; exact decide_eq_true h
    clear h
    go_enter Tryd.func64, Tryd.ntmps64
    go_wp2_with (go_at_call 102; ((with_reducible refine (kindRef_any _ hn _).mono ?_); rintro e w' ⟨rfl, rfl⟩))
    go_ret
    exact ⟨rfl, rfl⟩
  · rw [if_neg h]
    have hk : (kindF n == 0) = false := by rw [kindF_zero]; exact decide_eq_false h
    clear h
    go_enter Tryd.func64, Tryd.ntmps64
    go_wp2_with (go_at_call 102; ((with_reducible refine (kindRef_any _ hn _).mono ?_); rintro e w' ⟨rfl, rfl⟩))
    go_ret
    exact ⟨rfl, rfl⟩

theorem ret_u64 {a b : Int} (h : a = b) : Ending.returned (.int .u64 a) = .returned (.int .u64 b) := by rw [h]

theorem u64_not (a : Nat) (ha : a < 18446744073709551616) : bits .xor .u64 IntKind.u64.max (a : Int) = 18446744073709551615 - (a : Int) := by
  show IntKind.u64.wrap ((BitVec.ofInt 64 (18446744073709551615) ^^^ BitVec.ofInt 64 (a : Int)).toNat : Int) = _
  have h1 : BitVec.ofInt 64 18446744073709551615 = BitVec.allOnes 64 := by decide
  rw [h1, BitVec.allOnes_xor, BitVec.toNat_not, ofInt_u64 a (by omega)]
  simp [IntKind.wrap, IntKind.bits, IntKind.signed]
  omega

theorem signbit_and (n : Nat) (hn : n < 18446744073709551616) : bits .and .u64 (n : Int) 9223372036854775808 = ((n / 9223372036854775808 % 2 * 9223372036854775808 : Nat) : Int) := by
  rw [u64_and _ _ (by omega) (by omega) (by omega) (by omega)]
  rw [Int.toNat_natCast, show (9223372036854775808 : Int).toNat = 2 ^ 63 from rfl, nat_bit]

theorem signbit_or (n : Nat) (hn : n < 9223372036854775808) : bits .or .u64 (n : Int) 9223372036854775808 = ((n + 9223372036854775808 : Nat) : Int) := by
  rw [u64_or _ _ (by omega) (by omega) (by omega) (by omega)]
  rw [Int.toNat_natCast, show (9223372036854775808 : Int).toNat = 2 ^ 63 from rfl, Nat.or_comm, nat_join 63 (2 ^ 63) n (by decide) (by omega)]
  congr 1; omega

def cmpF (a b : Nat) : Int := if a < b then -1 else if b < a then 1 else 0

def orderF (a b : Nat) : Int := cmpF (keyF a) (keyF b)

end Go.Proofs.YtcgfhjkdgpgheaaDoor
