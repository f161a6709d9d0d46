/- The walk of the statement QuorumHalves. Condition: the set is below 2^64. -/
import Derived.Test.YtfmbjjdicghbaaaQuorumProg

namespace Go.Proofs.Ytfmbjjdicghbaaa

open Go.RowKit

theorem xor_all (s : Nat) (hs : s < 18446744073709551616) : 18446744073709551615 ^^^ s = 18446744073709551615 - s := by
  apply Nat.eq_of_testBit_eq
  intro i
  have e : 18446744073709551615 - s = 2 ^ 64 - (s + 1) := by omega
  rw [e, Nat.testBit_two_pow_sub_succ (x := s) (n := 64) (by omega), Nat.testBit_xor]
  have e1 : (18446744073709551615 : Nat) = 2 ^ 64 - 1 := by omega
  rw [e1, Nat.testBit_two_pow_sub_one]
  by_cases h : i < 64
  · simp [h]
  · have hx : s.testBit i = false := by
      apply Nat.testBit_lt_two_pow
      exact Nat.lt_of_lt_of_le hs (Nat.pow_le_pow_right (show 0 < 2 by omega) (show 64 ≤ i by omega))
    simp [h, hx]
theorem not_u64 (s : Nat) (hs : s < 18446744073709551616) : bits .xor .u64 IntKind.u64.max (s : Int) = ((18446744073709551615 - s : Nat) : Int) := by
  rw [← xor_all s hs]
  exact u64_xor_nat 18446744073709551615 s (by omega) hs
theorem upto_nat (k : Nat) (h : k ≤ 64) : upto (k : Int) = k := by unfold upto; rw [if_neg (by omega), if_neg (by omega)]; omega

set_option maxHeartbeats 2000000 in
theorem halves_walk (s c : Nat) (w : World) (hs : s < 18446744073709551616) (hc : c < 256) :
    Calls Try.prog 6 #[.int .u64 s, .int .u8 c] w fun e w' => e = .returned (.bool true) ∧ Below w.heap.size w w' := by
  have hx := not_u64 s hs
  have hn := maj_not s (1 + c % 64) hs (by omega) (by omega)
  have ht := cnt_not s (1 + c % 64) hs (by omega)
  have hu := upto_nat (1 + c % 64) (by omega)
  have hl : 18446744073709551615 - s < 18446744073709551616 := by omega
  generalize 18446744073709551615 - s = t at *
  have e : (1 + (c : Int) % 64) = ((1 + c % 64 : Nat) : Int) := by omega
  have l1 := cnt_le s (1 + c % 64)
  have l2 := cnt_le t (1 + c % 64)
  have hS : ((cntN s (1 + c % 64) : Nat) : Int) + ((cntN t (1 + c % 64) : Nat) : Int) = 1 + (c : Int) % 64 := by omega
  have hp : (((1 + (c : Int) % 64) % 2 == 1) = true ∧ (1 + c % 64) % 2 = 1) ∨ ((1 + (c : Int) % 64) % 2 == 1) = false := by
    by_cases h : (1 + c % 64) % 2 = 1
    · left; refine ⟨?_, h⟩; simp; omega
    · right; simp; omega
  rw [← e] at hn hu
  rw [← hu] at hS l1 l2
  have hS' : (((cntN s (upto (1 + (c : Int) % 64)) : Nat) : Int) + ((cntN t (upto (1 + (c : Int) % 64)) : Nat) : Int) == 1 + (c : Int) % 64) = true := by rw [hS]; exact beq_self_eq_true _
  have hu64 := upto_le (1 + (c : Int) % 64)
  clear ht hu e hS
  cases ha : majB s (1 + (c : Int) % 64) <;> cases hb : majB t (1 + (c : Int) % 64) <;> rcases hp with ⟨hp, hq⟩ | hp
  · exact absurd (hn.2 hq) (by rw [ha, hb]; simp)
  · clear hn
    go_enter Try.func6, Try.ntmps6
    go_wp2_with (first
      | (go_at_call 11; ((with_reducible refine (qMajority_any s _ _ hs).mono ?_); rintro e w' ⟨rfl, rfl⟩))
      | (go_at_call 11; ((with_reducible refine (qMajority_any t _ _ hl).mono ?_); rintro e w' ⟨rfl, rfl⟩))
      | (go_at_call 9; ((with_reducible refine (qCount_any s _ _ hs).mono ?_); rintro e w' ⟨rfl, rfl⟩))
      | (go_at_call 9; ((with_reducible refine (qCount_any t _ _ hl).mono ?_); rintro e w' ⟨rfl, rfl⟩))
      | (go_at_call 8; ((with_reducible refine (awake5_any _).mono ?_); rintro e w' ⟨rfl, rfl⟩)))
    go_ret
    exact ⟨rfl, Below.refl _ _⟩
  · clear hn
    go_enter Try.func6, Try.ntmps6
    go_wp2_with (first
      | (go_at_call 11; ((with_reducible refine (qMajority_any s _ _ hs).mono ?_); rintro e w' ⟨rfl, rfl⟩))
      | (go_at_call 11; ((with_reducible refine (qMajority_any t _ _ hl).mono ?_); rintro e w' ⟨rfl, rfl⟩))
      | (go_at_call 9; ((with_reducible refine (qCount_any s _ _ hs).mono ?_); rintro e w' ⟨rfl, rfl⟩))
      | (go_at_call 9; ((with_reducible refine (qCount_any t _ _ hl).mono ?_); rintro e w' ⟨rfl, rfl⟩))
      | (go_at_call 8; ((with_reducible refine (awake5_any _).mono ?_); rintro e w' ⟨rfl, rfl⟩)))
    go_ret
    exact ⟨rfl, Below.refl _ _⟩
  · clear hn
    go_enter Try.func6, Try.ntmps6
    go_wp2_with (first
      | (go_at_call 11; ((with_reducible refine (qMajority_any s _ _ hs).mono ?_); rintro e w' ⟨rfl, rfl⟩))
      | (go_at_call 11; ((with_reducible refine (qMajority_any t _ _ hl).mono ?_); rintro e w' ⟨rfl, rfl⟩))
      | (go_at_call 9; ((with_reducible refine (qCount_any s _ _ hs).mono ?_); rintro e w' ⟨rfl, rfl⟩))
      | (go_at_call 9; ((with_reducible refine (qCount_any t _ _ hl).mono ?_); rintro e w' ⟨rfl, rfl⟩))
      | (go_at_call 8; ((with_reducible refine (awake5_any _).mono ?_); rintro e w' ⟨rfl, rfl⟩)))
    go_ret
    exact ⟨rfl, Below.refl _ _⟩
  · clear hn
    go_enter Try.func6, Try.ntmps6
    go_wp2_with (first
      | (go_at_call 11; ((with_reducible refine (qMajority_any s _ _ hs).mono ?_); rintro e w' ⟨rfl, rfl⟩))
      | (go_at_call 11; ((with_reducible refine (qMajority_any t _ _ hl).mono ?_); rintro e w' ⟨rfl, rfl⟩))
      | (go_at_call 9; ((with_reducible refine (qCount_any s _ _ hs).mono ?_); rintro e w' ⟨rfl, rfl⟩))
      | (go_at_call 9; ((with_reducible refine (qCount_any t _ _ hl).mono ?_); rintro e w' ⟨rfl, rfl⟩))
      | (go_at_call 8; ((with_reducible refine (awake5_any _).mono ?_); rintro e w' ⟨rfl, rfl⟩)))
    go_ret
    exact ⟨rfl, Below.refl _ _⟩
  · clear hn
    go_enter Try.func6, Try.ntmps6
    go_wp2_with (first
      | (go_at_call 11; ((with_reducible refine (qMajority_any s _ _ hs).mono ?_); rintro e w' ⟨rfl, rfl⟩))
      | (go_at_call 11; ((with_reducible refine (qMajority_any t _ _ hl).mono ?_); rintro e w' ⟨rfl, rfl⟩))
      | (go_at_call 9; ((with_reducible refine (qCount_any s _ _ hs).mono ?_); rintro e w' ⟨rfl, rfl⟩))
      | (go_at_call 9; ((with_reducible refine (qCount_any t _ _ hl).mono ?_); rintro e w' ⟨rfl, rfl⟩))
      | (go_at_call 8; ((with_reducible refine (awake5_any _).mono ?_); rintro e w' ⟨rfl, rfl⟩)))
    go_ret
    exact ⟨rfl, Below.refl _ _⟩
  · exact absurd ⟨ha, hb⟩ hn.1
  · exact absurd ⟨ha, hb⟩ hn.1
end Go.Proofs.Ytfmbjjdicghbaaa
