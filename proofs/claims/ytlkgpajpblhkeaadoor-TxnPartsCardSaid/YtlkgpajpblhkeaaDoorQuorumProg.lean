/- Contracts of quorum's functions: fits, bounded, Has, Add, Least, Count, Majority, in the terms of the plain mathematics. Condition: a set is below 2^64. -/
import Derived.Test.YtlkgpajpblhkeaaDoorRows
import Derived.Test.YtlkgpajpblhkeaaDoorQuorumMath
import Derived.WalkKit
import Derived.Lib.Hide
import Derived.Laws.BitsAllLaws
namespace Go.Proofs.YtlkgpajpblhkeaaDoor

open Go.RowKit

def fitB (i : Int) : Bool := decide (0 ≤ i) && decide (i ≤ 63)
theorem fit_yes (i : Int) (h0 : 0 ≤ i) (h1 : i ≤ 63) : fitB i = true := by unfold fitB; simp [h0, h1]
theorem fit_no (i : Int) (h : i < 0 ∨ 63 < i) : fitB i = false := by unfold fitB; rw [Bool.and_eq_false_iff, decide_eq_false_iff_not, decide_eq_false_iff_not]; omega

theorem upto_low (n : Int) (h : n < 0) : upto n = 0 := by unfold upto; rw [if_pos h]
theorem upto_high (n : Int) (h : 64 < n) : upto n = 64 := by unfold upto; rw [if_neg (by omega), if_pos h]
theorem upto_mid (n : Int) (h0 : 0 ≤ n) (h1 : n ≤ 64) : ((upto n : Nat) : Int) = n := by unfold upto; rw [if_neg (by omega), if_neg (by omega)]; omega

theorem has_yes (s : Nat) (i : Int) (h0 : 0 ≤ i) (h1 : i ≤ 63) : hasB s i = s.testBit i.toNat := by unfold hasB; simp [h0, h1]
theorem has_no (s : Nat) (i : Int) (h : i < 0 ∨ 63 < i) : hasB s i = false := by
  unfold hasB
  rcases h with h | h
  · have : decide (0 ≤ i) = false := by simp; omega
    rw [this]; rfl
  · have : decide (i ≤ 63) = false := by simp; omega
    rw [this, Bool.false_and, Bool.and_false]
theorem shr_and (s : Nat) (i : Int) (hs : s < 18446744073709551616) (h0 : 0 ≤ i) (h1 : i ≤ 63) : (bits .and .u64 ((s : Int) / 2 ^ i.toNat) 1 == 1) = hasB s i := by
  rw [has_yes s i h0 h1, Nat.testBit_eq_decide_div_mod_eq]
  generalize i.toNat = k
  have hd : s / 2 ^ k < 18446744073709551616 := Nat.lt_of_le_of_lt (Nat.div_le_self _ _) hs
  have g := u64_and_nat (s / 2 ^ k) 1 hd (by omega)
  rw [nat_mask1] at g
  have c : ((s : Int) / 2 ^ k) = ((s / 2 ^ k : Nat) : Int) := by push_cast; rfl
  have g' : bits .and .u64 ((s : Int) / 2 ^ k) 1 = ((s / 2 ^ k % 2 : Nat) : Int) := by rw [c]; exact g
  rw [g']
  rcases Nat.mod_two_eq_zero_or_one (s / 2 ^ k) with h | h <;> rw [h] <;> rfl

theorem add_yes (s : Nat) (i : Int) (h0 : 0 ≤ i) (h1 : i ≤ 63) : addF s i = s ||| 2 ^ i.toNat := by unfold addF; rw [if_pos ⟨h0, h1⟩]
theorem add_no (s : Nat) (i : Int) (h : i < 0 ∨ 63 < i) : addF s i = s := by unfold addF; rw [if_neg (by omega)]
theorem or_shl (s : Nat) (i : Int) (hs : s < 18446744073709551616) (h0 : 0 ≤ i) (h1 : i ≤ 63) : bits .or .u64 (s : Int) (IntKind.u64.wrap (2 ^ i.toNat)) = ((addF s i : Nat) : Int) := by
  have hp : 2 ^ i.toNat < 18446744073709551616 := by
    have : 2 ^ i.toNat < 2 ^ 64 := Nat.pow_lt_pow_right (by omega) (by omega)
    omega
  have g := u64_or_nat s (2 ^ i.toNat) hs hp
  rw [add_yes s i h0 h1, ← g]
  have c : IntKind.u64.wrap (2 ^ i.toNat) = ((2 ^ i.toNat : Nat) : Int) := by
    rw [show ((2 : Int) ^ i.toNat) = ((2 ^ i.toNat : Nat) : Int) by push_cast; rfl]
    generalize 2 ^ i.toNat = p at *
    rw [IntKind.wrap_u64]; omega
  rw [c]

theorem least_eq (n : Int) : leastF n = upto n / 2 + 1 := by
  unfold leastF
  split
  · have : upto n = 0 := by unfold upto; split; rfl; rw [if_neg (by omega)]; omega
    rw [this]
  · rfl

theorem cnt_step (s k : Nat) (hk : k ≤ 63) : cntN s (k + 1) = cntN s k + (if hasB s (k : Int) = true then 1 else 0) := by
  rw [cntN, has_yes s k (by omega) (by omega)]; rfl

theorem maj_le (s : Nat) (n : Int) : decide (leastF n ≤ cntN s (upto n)) = majB s n := by
  unfold majB
  by_cases h : 1 ≤ n
  · simp [h]
  · have h1 : leastF n = 1 := by unfold leastF; rw [if_pos (by omega)]
    have h2 : upto n = 0 := by unfold upto; split; rfl; rw [if_neg (by omega)]; omega
    rw [h1, h2]; simp [h, cntN]

theorem awake_maj : majB 5 3 = true := by decide
theorem awake_least : leastF 5 = 3 := by decide
end Go.Proofs.YtlkgpajpblhkeaaDoor
