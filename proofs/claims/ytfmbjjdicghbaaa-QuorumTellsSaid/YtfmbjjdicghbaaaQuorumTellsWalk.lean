/- The walk of the statement QuorumTells. Condition: the set is below 2^64. -/
import Derived.Test.YtfmbjjdicghbaaaQuorumRef

namespace Go.Proofs.Ytfmbjjdicghbaaa

open Go.RowKit

theorem bel_on {a b c : World} (h : Below a.heap.size a b) (k : Below b.heap.size b c) : Below a.heap.size a c := h.trans (k.mono h.size)

set_option maxHeartbeats 4000000 in
theorem tells_walk (s : Nat) (n : Int) (w : World) (hs : s < 18446744073709551616) :
    Calls Try.prog 3 #[.int .u64 s, .int .i64 n] w fun e w' => e = .returned (.bool true) ∧ Below w.heap.size w w' := by
  have hll : (listN s (upto n)).length ≤ 64 := by rw [listN_len]; have := cnt_le s (upto n); have := upto_le n; omega
  go_enter Try.func3, Try.ntmps3
  go_wp2_with (first
    | (go_at_call 8; ((with_reducible refine (awake5_any _).mono ?_); rintro e w' ⟨rfl, rfl⟩))
    | (go_at_call 9; ((with_reducible refine (qCount_any s _ _ hs).mono ?_); rintro e w' ⟨rfl, rfl⟩))
    | (go_at_call 10; ((with_reducible refine (rCount_any s _ _ hs).mono ?_); rintro e w' ⟨rfl, hb1⟩))
    | (go_at_call 11; ((with_reducible refine (qMajority_any s _ _ hs).mono ?_); rintro e w' ⟨rfl, rfl⟩))
    | (go_at_call 12; ((with_reducible refine (rMajority_any s _ _ hs).mono ?_); rintro e w' ⟨rfl, hb2⟩))
    | (go_at_call 13; ((with_reducible refine (qLeast_any _ _).mono ?_); rintro e w' ⟨rfl, rfl⟩))
    | (go_at_call 14; ((with_reducible refine (rLeast_any _ _).mono ?_); rintro e w' ⟨rfl, rfl⟩))
    | (go_at_call 16; ((with_reducible refine (qList_any s _ _ hs).mono ?_); rintro e w' ⟨a, ca, rfl, hN, hb3⟩))
    | (go_at_call 17; ((with_reducible refine (rList_any s _ _ hs).mono ?_); rintro e w' ⟨b, cb, rfl, hN', hb4⟩; have hN2 := hN.later hb4; clear hN))
    | (go_at_call 15; ((with_reducible refine (rInts_same _ _ _ _ _ _ hN2 hN' hll).mono ?_); rintro e w' ⟨rfl, hb5⟩)))
  go_ret
  exact ⟨rfl, bel_on (bel_on (bel_on (bel_on hb1 hb2) hb3) hb4) hb5⟩
end Go.Proofs.Ytfmbjjdicghbaaa
