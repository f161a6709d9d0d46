/- What Canon, Key and Order of layer num, and the document's own, do at every number: walks over their text. Conditions: the bits are below 2^64. -/
import Derived.Test.YtlkgpajpblhkeaaDoorNumRefs

namespace Go.Proofs.YtlkgpajpblhkeaaDoor

open Go.RowKit

theorem nat_of {a : Int} (h : (Lit.int .u64 a).wf = true) : ∃ n : Nat, a = (n : Int) ∧ n < 18446744073709551616 := by
  simp [Lit.wf, IntKind.min, IntKind.max, IntKind.signed, IntKind.bits] at h
  exact ⟨a.toNat, by omega, by omega⟩

def canonF (n : Nat) : Nat := if 9218868437227405312 < n % 9223372036854775808 then 9221120237041090560 else n
def keyF (n : Nat) : Nat := if 9218868437227405312 < n % 9223372036854775808 then 0 else if 9223372036854775808 ≤ n then 18446744073709551615 - n else n + 9223372036854775808

theorem canonF_lt (n : Nat) (hn : n < 18446744073709551616) : canonF n < 18446744073709551616 := by unfold canonF; split <;> omega
theorem keyF_lt (n : Nat) (hn : n < 18446744073709551616) : keyF n < 18446744073709551616 := by unfold keyF; split; omega; split <;> omega

theorem kindF_zero (n : Nat) : (kindF n == 0) = nanB n := by
  unfold kindF nanB
  by_cases h1 : 9218868437227405312 < n % 9223372036854775808
  · rw [if_pos h1, decide_eq_true h1]; rfl
  rw [if_neg h1, decide_eq_false h1]
  split; rfl
  split; rfl
  split
  · split <;> rfl
  · split <;> rfl

theorem canon_any (n : Nat) (w : World) :
    Calls Tryd.prog 86 #[.int .u64 n] w fun e w' => e = .returned (.int .u64 (canonF n : Nat)) ∧ w = w' := by
  unfold canonF
  by_cases h : 9218868437227405312 < n % 9223372036854775808
  · rw [if_pos h]; exact canon_nan n w (decide_eq_true h)
  · rw [if_neg h]; exact canon_num n w (decide_eq_false h)

theorem canonRef_any (n : Nat) (hn : n < 18446744073709551616) (w : World) :
    Calls Tryd.prog 72 #[.int .u64 n] w fun e w' => e = .returned (.int .u64 (canonF n : Nat)) ∧ w = w' := by
  unfold canonF
  by_cases h : 9218868437227405312 < n % 9223372036854775808
  · rw [if_pos h]
    have hk : (kindF n == 0) = true := by rw [kindF_zero]; exact decide_eq_true h
    clear h
    go_enter Tryd.func72, Tryd.ntmps72
    go_wp2_with (go_at_call 89; ((with_reducible refine (kindRef_any _ hn _).mono ?_); rintro e w' ⟨rfl, rfl⟩))
    go_ret
    exact ⟨rfl, rfl⟩
  · rw [if_neg h]
    have hk : (kindF n == 0) = false := by rw [kindF_zero]; exact decide_eq_false h
    clear h
    go_enter Tryd.func72, Tryd.ntmps72
    go_wp2_with (go_at_call 89; ((with_reducible refine (kindRef_any _ hn _).mono ?_); rintro e w' ⟨rfl, rfl⟩))
    go_ret
    exact ⟨rfl, rfl⟩

theorem ret_u64 {a b : Int} (h : a = b) : Ending.returned (.int .u64 a) = .returned (.int .u64 b) := by rw [h]

theorem u64_not (a : Nat) (ha : a < 18446744073709551616) : bits .xor .u64 IntKind.u64.max (a : Int) = 18446744073709551615 - (a : Int) := by
  show IntKind.u64.wrap ((BitVec.ofInt 64 (18446744073709551615) ^^^ BitVec.ofInt 64 (a : Int)).toNat : Int) = _
  have h1 : BitVec.ofInt 64 18446744073709551615 = BitVec.allOnes 64 := by decide
  rw [h1, BitVec.allOnes_xor, BitVec.toNat_not, ofInt_u64 a (by omega)]
  simp [IntKind.wrap, IntKind.bits, IntKind.signed]
  omega

theorem signbit_and (n : Nat) (hn : n < 18446744073709551616) : bits .and .u64 (n : Int) 9223372036854775808 = ((n / 9223372036854775808 % 2 * 9223372036854775808 : Nat) : Int) := by
  rw [u64_and _ _ (by omega) (by omega) (by omega) (by omega)]
  rw [Int.toNat_natCast, show (9223372036854775808 : Int).toNat = 2 ^ 63 from rfl, nat_bit]

theorem signbit_or (n : Nat) (hn : n < 9223372036854775808) : bits .or .u64 (n : Int) 9223372036854775808 = ((n + 9223372036854775808 : Nat) : Int) := by
  rw [u64_or _ _ (by omega) (by omega) (by omega) (by omega)]
  rw [Int.toNat_natCast, show (9223372036854775808 : Int).toNat = 2 ^ 63 from rfl, Nat.or_comm, nat_join 63 (2 ^ 63) n (by decide) (by omega)]
  congr 1; omega

def cmpF (a b : Nat) : Int := if a < b then -1 else if b < a then 1 else 0

def orderF (a b : Nat) : Int := cmpF (keyF a) (keyF b)

end Go.Proofs.YtlkgpajpblhkeaaDoor
