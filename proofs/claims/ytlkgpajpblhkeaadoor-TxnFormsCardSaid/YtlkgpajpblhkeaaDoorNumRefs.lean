/- What the document's own answers of layer num (Kind, Canon, Key, Order) do at every number: walks over their text. Conditions: the bits are below 2^64. -/
import Derived.Test.YtlkgpajpblhkeaaDoorNumCalls

namespace Go.Proofs.YtlkgpajpblhkeaaDoor

open Go.RowKit

def expF (n : Nat) : Nat := n / 4503599627370496 % 2048
def fracF (n : Nat) : Nat := n % 4503599627370496

theorem negB_le (n : Nat) : negB n = decide ((9223372036854775808 : Int) ≤ (n : Int)) := by
  unfold negB
  by_cases c : 9223372036854775808 ≤ n
  · rw [decide_eq_true c, decide_eq_true (by omega)]
  · rw [decide_eq_false c, decide_eq_false (by omega)]
theorem expF_bits (n : Nat) (hn : n < 18446744073709551616) : ((expF n : Nat) : Int) = bits .and .u64 ((n : Int) / 4503599627370496) 2047 := by
  rw [u64_and _ _ (by omega) (by omega) (by omega) (by omega)]
  have e : ((n : Int) / 4503599627370496).toNat = n / 4503599627370496 := by omega
  rw [e, show (2047 : Int).toNat = 2047 from rfl, nat_mask11]
  rfl
theorem fracF_bits (n : Nat) (hn : n < 18446744073709551616) : ((fracF n : Nat) : Int) = bits .and .u64 (n : Int) 4503599627370495 := by
  rw [u64_and _ _ (by omega) (by omega) (by omega) (by omega)]
  rw [Int.toNat_natCast, show (4503599627370495 : Int).toNat = 2 ^ 52 - 1 from rfl, Nat.and_two_pow_sub_one_eq_mod]
  rfl

theorem parts_any (n : Nat) (hn : n < 18446744073709551616) (w : World) :
    Calls Tryd.prog 98 #[.int .u64 n] w fun e w' => e = .returned (.tuple #[.bool (negB n), .int .u64 (expF n : Nat), .int .u64 (fracF n : Nat)]) ∧ w = w' := by
  rw [negB_le, expF_bits n hn, fracF_bits n hn]
  go_enter Tryd.func98, Tryd.ntmps98
  go_wp2
  go_ret3
  exact ⟨rfl, rfl⟩

def refPick (p q r s : Bool) : Int := if p && !q then 0 else if p && s then 1 else if p then 6 else if r && q && s then 3 else if r && q then 4 else if s then 2 else 5

set_option maxHeartbeats 2000000 in
theorem kindRef_walk (n : Nat) (hn : n < 18446744073709551616) (w : World) (p q r s : Bool)
    (hp : (((expF n : Nat) : Int) == 2047) = p) (hq : (((fracF n : Nat) : Int) == 0) = q) (hq' : (((fracF n : Nat) : Int) != 0) = !q) (hr : (((expF n : Nat) : Int) == 0) = r) (hs : negB n = s) :
    Calls Tryd.prog 89 #[.int .u64 n] w fun e w' => e = .returned (.int .i64 (refPick p q r s)) ∧ w = w' := by
  cases p <;> cases q <;> cases r <;> cases s
  all_goals
    simp only [Bool.not_true, Bool.not_false] at hq'
    go_enter Tryd.func89, Tryd.ntmps89
    go_wp2_with (go_at_call 98; ((with_reducible refine (parts_any _ hn _).mono ?_); rintro e w' ⟨rfl, rfl⟩))
    go_ret
    exact ⟨rfl, rfl⟩

theorem dec_eq (a b : Int) : (a == b) = decide (a = b) := by by_cases h : a = b <;> simp [h]

theorem kindRef_any (n : Nat) (hn : n < 18446744073709551616) (w : World) :
    Calls Tryd.prog 89 #[.int .u64 n] w fun e w' => e = .returned (.int .i64 (kindF n)) ∧ w = w' := by
  have k : kindF n = refPick (((expF n : Nat) : Int) == 2047) (((fracF n : Nat) : Int) == 0) (((expF n : Nat) : Int) == 0) (negB n) := by
    simp only [kindF, dec_eq, expF, fracF, negB]
    by_cases h1 : 9218868437227405312 < n % 9223372036854775808
    · rw [if_pos h1, decide_eq_true (show ((n / 4503599627370496 % 2048 : Nat) : Int) = 2047 by omega), decide_eq_false (show ¬ ((n % 4503599627370496 : Nat) : Int) = 0 by omega)]; rfl
    rw [if_neg h1]
    by_cases h2 : n = 18442240474082181120
    · subst h2; rfl
    rw [if_neg h2]
    by_cases h3 : n = 9218868437227405312
    · subst h3; rfl
    rw [if_neg h3, decide_eq_false (show ¬ ((n / 4503599627370496 % 2048 : Nat) : Int) = 2047 by omega)]
    by_cases h4 : n % 9223372036854775808 = 0
    · rw [if_pos h4, decide_eq_true (show ((n / 4503599627370496 % 2048 : Nat) : Int) = 0 by omega), decide_eq_true (show ((n % 4503599627370496 : Nat) : Int) = 0 by omega)]
      by_cases h5 : 9223372036854775808 ≤ n
      · rw [if_pos h5, decide_eq_true h5]; rfl
      · rw [if_neg h5, decide_eq_false h5]; rfl
    · rw [if_neg h4]
      by_cases c : ((n % 4503599627370496 : Nat) : Int) = 0
      · rw [decide_eq_true c, decide_eq_false (show ¬ ((n / 4503599627370496 % 2048 : Nat) : Int) = 0 by omega)]
        by_cases h5 : 9223372036854775808 ≤ n
        · rw [if_pos h5, decide_eq_true h5]; rfl
        · rw [if_neg h5, decide_eq_false h5]; rfl
      · rw [decide_eq_false c]
        generalize decide (((n / 4503599627370496 % 2048 : Nat) : Int) = 0) = r
        by_cases h5 : 9223372036854775808 ≤ n
        · rw [if_pos h5, decide_eq_true h5]; cases r <;> rfl
        · rw [if_neg h5, decide_eq_false h5]; cases r <;> rfl
  rw [k]
  exact kindRef_walk n hn w _ _ _ _ rfl rfl rfl rfl rfl
end Go.Proofs.YtlkgpajpblhkeaaDoor
