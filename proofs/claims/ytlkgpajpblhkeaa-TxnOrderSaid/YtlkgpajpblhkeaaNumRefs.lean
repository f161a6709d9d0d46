/- What the document's own answers of layer num (Kind, Canon, Key, Order) do at every number: walks over their text. Conditions: the bits are below 2^64. -/
import Derived.Test.YtlkgpajpblhkeaaNumCalls

namespace Go.Proofs.Ytlkgpajpblhkeaa

open Go.RowKit

def expF (n : Nat) : Nat := n / 4503599627370496 % 2048
def fracF (n : Nat) : Nat := n % 4503599627370496

theorem negB_le (n : Nat) : negB n = decide ((9223372036854775808 : Int) ≤ (n : Int)) := by
  unfold negB
  by_cases c : 9223372036854775808 ≤ n
  · rw [decide_eq_true c, decide_eq_true (by omega)]
  · rw [decide_eq_false c, decide_eq_false (by omega)]
theorem expF_bits (n : Nat) (hn : n < 18446744073709551616) : ((expF n : Nat) : Int) = bits .and .u64 ((n : Int) / 4503599627370496) 2047 := by
  rw [u64_and _ _ (by omega) (by omega) (by omega) (by omega)]
  have e : ((n : Int) / 4503599627370496).toNat = n / 4503599627370496 := by omega
  rw [e, show (2047 : Int).toNat = 2047 from rfl, nat_mask11]
  rfl
theorem fracF_bits (n : Nat) (hn : n < 18446744073709551616) : ((fracF n : Nat) : Int) = bits .and .u64 (n : Int) 4503599627370495 := by
  rw [u64_and _ _ (by omega) (by omega) (by omega) (by omega)]
  rw [Int.toNat_natCast, show (4503599627370495 : Int).toNat = 2 ^ 52 - 1 from rfl, Nat.and_two_pow_sub_one_eq_mod]
  rfl

def refPick (p q r s : Bool) : Int := if p && !q then 0 else if p && s then 1 else if p then 6 else if r && q && s then 3 else if r && q then 4 else if s then 2 else 5

theorem dec_eq (a b : Int) : (a == b) = decide (a = b) := by by_cases h : a = b <;> simp [h]

end Go.Proofs.Ytlkgpajpblhkeaa
