/- The walk of the statement QuorumMeets. Condition: the two sets are below 2^64. -/
import Derived.Test.YtfmbjjdicghbaaaQuorumList

namespace Go.Proofs.Ytfmbjjdicghbaaa

open Go.RowKit

set_option maxHeartbeats 1000000 in
theorem meets_walk (a b : Nat) (n : Int) (w : World) (ha : a < 18446744073709551616) (hb : b < 18446744073709551616) :
    Calls Try.prog 5 #[.int .u64 a, .int .u64 b, .int .i64 n] w fun e w' => e = .returned (.bool true) ∧ Below w.heap.size w w' := by
  cases hA : majB a n
  · go_enter Try.func5, Try.ntmps5
    go_wp2_with (first
      | (go_at_call 11; ((with_reducible refine (qMajority_any _ _ _ ha).mono ?_); rintro e w' ⟨rfl, rfl⟩))
      | (go_at_call 8; ((with_reducible refine (awake5_any _).mono ?_); rintro e w' ⟨rfl, rfl⟩)))
    go_ret
    exact ⟨rfl, Below.refl _ _⟩
  · cases hB : majB b n
    · go_enter Try.func5, Try.ntmps5
      go_wp2_with (first
        | (go_at_call 11; ((with_reducible refine (qMajority_any a _ _ ha).mono ?_); rintro e w' ⟨rfl, rfl⟩))
        | (go_at_call 11; ((with_reducible refine (qMajority_any b _ _ hb).mono ?_); rintro e w' ⟨rfl, rfl⟩))
        | (go_at_call 8; ((with_reducible refine (awake5_any _).mono ?_); rintro e w' ⟨rfl, rfl⟩)))
      go_ret
      exact ⟨rfl, Below.refl _ _⟩
    · obtain ⟨h1, h2⟩ := maj_meet a b n hA hB
      have g1 := u64_and_nat a b ha hb
      have g2 := u64_or_nat a b ha hb
      have hl1 : a &&& b < 18446744073709551616 := Nat.lt_of_le_of_lt Nat.and_le_left ha
      have hl2 : a ||| b < 18446744073709551616 := Nat.or_lt_two_pow (n := 64) ha hb
      have hlen : 0 < (listN (a &&& b) (upto n)).length := by rw [listN_len]; exact h1
      have hle : (0 : Int) < ((listN (a &&& b) (upto n)).length : Int) := by omega
      clear h1 hlen
      generalize hx : a &&& b = x at *
      generalize hy : a ||| b = y at *
      clear hx hy
      go_enter Try.func5, Try.ntmps5
      go_wp2_with (first
        | (go_at_call 11; ((with_reducible refine (qMajority_any a _ _ ha).mono ?_); rintro e w' ⟨rfl, rfl⟩))
        | (go_at_call 11; ((with_reducible refine (qMajority_any b _ _ hb).mono ?_); rintro e w' ⟨rfl, rfl⟩))
        | (go_at_call 11; ((with_reducible refine (qMajority_any y _ _ hl2).mono ?_); rintro e w' ⟨rfl, rfl⟩))
        | (go_at_call 16; ((with_reducible refine (qList_any x _ _ hl1).mono ?_); rintro e w' ⟨p, cap, rfl, hN, hbel⟩)))
      go_ret
      exact ⟨rfl, hbel⟩
end Go.Proofs.Ytfmbjjdicghbaaa
