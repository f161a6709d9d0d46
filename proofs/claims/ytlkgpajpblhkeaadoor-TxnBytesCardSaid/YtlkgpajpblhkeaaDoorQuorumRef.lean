/- Contracts of the document's own functions of layer quorum. Condition: a set is below 2^64. -/
import Derived.Test.YtlkgpajpblhkeaaDoorQuorumList
import Derived.Tactics2
import Derived.Deep.DeepCutAuto
import Derived.Deep.QuietTactic
import Derived.BigQuiet
namespace Go.Proofs.YtlkgpajpblhkeaaDoor

open Go.RowKit

theorem half_bit (s k : Nat) : s / 2 ^ k / 2 = s / 2 ^ (k + 1) := by rw [Nat.div_div_eq_div_mul, ← Nat.pow_succ]
theorem low_bit (s k : Nat) : (s / 2 ^ k % 2 = 1) = (s.testBit k = true) := by rw [Nat.testBit_eq_decide_div_mod_eq]; simp

theorem ref_add (s : Nat) (i : Int) (h0 : 0 ≤ i) (h1 : i ≤ 63) (h : hasB s i = false) (hs : s < 18446744073709551616) : s + 2 ^ i.toNat = addF s i ∧ s + 2 ^ i.toNat < 18446744073709551616 := by
  rw [has_yes s i h0 h1] at h
  rw [add_yes s i h0 h1, add_or s _ h]
  exact ⟨rfl, or_lt s _ hs (by omega)⟩
theorem ref_add_has (s : Nat) (i : Int) (h0 : 0 ≤ i) (h1 : i ≤ 63) (h : hasB s i = true) : addF s i = s := by
  rw [has_yes s i h0 h1] at h
  rw [add_yes s i h0 h1]
  apply Nat.eq_of_testBit_eq
  intro j
  rw [Nat.testBit_or, Nat.testBit_two_pow]
  by_cases e : i.toNat = j
  · subst e; rw [h]; rfl
  · simp [e]

theorem least_of (n : Int) (j : Nat) (h1 : 1 ≤ j) (h2 : j ≤ 33) (h3 : j = 1 ∨ 2 * ((j : Int) - 1) ≤ n) (h4 : j = 33 ∨ n < 2 * (j : Int)) : leastF n = j := by
  unfold leastF upto
  split
  · omega
  · rw [if_neg (by omega)]
    split <;> omega

theorem upto_lt (n : Int) (k : Nat) (h : k < upto n) : (k : Int) < n ∧ k < 64 := by unfold upto at h; split at h; omega; split at h <;> omega
theorem upto_ge (n : Int) (k : Nat) (h : k = upto n) : ¬ (k : Int) < n ∨ k = 64 := by unfold upto at h; split at h; omega; split at h <;> omega

theorem maj_low (s : Nat) (n : Int) (h : ¬ 1 ≤ n) : majB s n = false := by unfold majB; simp [h]
theorem maj_int (s : Nat) (n : Int) (b : Bool) (h : majB s n = b) (h1 : 1 ≤ n) : decide (((leastF n : Nat) : Int) ≤ ((cntN s (upto n) : Nat) : Int)) = b := by
  rw [← h]; unfold majB; simp [h1]

set_option maxHeartbeats 1000000 in
theorem rInts_same (a a' : Option Addr) (c c' : Nat) (l : List Nat) (w : World) (h : NAt w a l) (h' : NAt w a' l) (hl : l.length ≤ 64) :
    Calls Tryd.prog 23 #[.slice a l.length c, .slice a' l.length c'] w fun e w' => e = .returned (.bool true) ∧ Below w.heap.size w w' := by
  go_enter Tryd.func23, Tryd.ntmps23
  go_wp2
  go_loopw [5] (fun i wr => ∃ (k q : Nat), k ≤ l.length ∧ i = .int .i64 k ∧ wr = w.drewN q) (fun i _ => l.length - (intOf i).toNat)
  case atStart => exact ⟨0, 0, by omega, rfl, rfl⟩
  case round =>
    obtain ⟨k, q, hk, rfl, rfl⟩ := hrel
    by_cases hlt : k < l.length
    · obtain ⟨b, off, rfl, hc⟩ := h.at_ hlt
      obtain ⟨b', off', rfl, hc'⟩ := h'.at_ hlt
      generalize l[k] = v at *
      clear h h'
      generalize l.length = n at *
      go_upto_region 6 with (fail)
      go_quiet (fail)
      go_wp2
      go_roundw
      case rel => exact ⟨k + 1, _, by omega, by go_num, rfl⟩
      case measure => simp [intOf]; omega
    · clear h h'
      go_wp2
      go_ret
      exact ⟨rfl, ⟨rfl, rfl, rfl, Nat.le_refl _, fun _ _ => rfl⟩⟩
end Go.Proofs.YtlkgpajpblhkeaaDoor
