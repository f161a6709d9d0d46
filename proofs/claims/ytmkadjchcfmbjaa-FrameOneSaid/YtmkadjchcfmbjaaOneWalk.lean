/- The walk of the statement FrameOne. Conditions: what came in lies in memory. -/
import Derived.Test.YtmkadjchcfmbjaaFrameUnwrap
namespace Go.Proofs.Ytmkadjchcfmbjaa
open Go.RowKit

set_option maxHeartbeats 1000000 in
theorem one_walk (a a' : Option Addr) (m m' c c' : Nat) (l l' : List UInt8) (w : World) (hl : BAt w w.heap.size a m l) (hl' : BAt w w.heap.size a' m' l') (hm : m ≤ maxLen) (hm' : m' ≤ maxLen) :
    Calls Try.prog 7 #[.slice a m c, .slice a' m' c'] w fun e w' => e = .returned (.bool true) ∧ Below w.heap.size w w' := by
  obtain ⟨i0, hi, hz0, hz1, hz2⟩ := info_parts Try.info5
  unfold maxLen at hm hm'
  by_cases h7 : m ≤ 70000
  · have hd : decide ((70000 : Int) < (m : Int)) = false := by simp; omega
    by_cases h7' : m' ≤ 70000
    · have hd' : decide ((70000 : Int) < (m' : Int)) = false := by simp; omega
      by_cases h6 : m ≤ 60000
      · have hd6 : decide ((60000 : Int) < (m : Int)) = false := by simp; omega
        have hlen := hl.len
        have hlen' := hl'.len
        obtain ⟨f1, f2, f3, f4⟩ := frame_back l l' (by omega)
        have hF := frameB_len l
        have HL := Lib.hid hlen; have HL' := Lib.hid hlen'; have HF := Lib.hid hF
        have F2 := Lib.hid f2; have F3 := Lib.hid f3
        clear hlen hlen' hF f1 f2 f3 f4
        go_enter Try.func7, Try.ntmps7
        go_wp2_with (first | (go_at_call 9; ((with_reducible refine (awake_any _).mono ?_); rintro e w1 ⟨rfl, hb1⟩; have hl1 : BAt w1 w.heap.size a m l := hl.below hb1 (Nat.le_refl _))) | (go_at_call 10; ((with_reducible refine (wrap_yes a m c l _ (hl1.more hb1.size) h6).mono ?_); rintro e w2 ⟨a2, n2, c2, rfl, ho2, hb2⟩; have hB2 : Below w.heap.size w w2 := hb1.trans (hb2.mono hb1.size); obtain rfl : n2 = 8 + m := (by rw [← own_len ho2, HF.out, HL.out]))) | (at_builtin; (refine wpList_append_bytes _ rfl _ _ 22 rfl w.heap.size 5 i0 Try.underlying22 hi hz0 hz1 hz2 _ 0 [] rfl (World.ownsRow_nil _ _ _ _) _ a2 (8 + m) (frameB l) c2 rfl (BAt.of_own ho2) (by omega) hB2.size ?_; intro v3 w3 ho3 hg3; rw [Nat.zero_add, List.nil_append] at ho3; have R3 : PutIn w w3 v3 (8 + m) (frameB l) := ⟨ho3, hB2.grown hg3 hB2.size (by intro j hj; cases hj)⟩; clear ho3 hg3)) | (at_builtin; (refine wpList_append_bytes _ rfl _ _ 22 rfl w.heap.size 5 i0 Try.underlying22 hi hz0 hz1 hz2 _ _ _ rfl R3.1 _ a' m' l' c' rfl (hl'.below R3.2 (Nat.le_refl _)) (by omega) R3.2.size ?_; intro v4 w4 ho4 hg4; have R4 : PutIn w w4 v4 (8 + m + m') (frameB l ++ l') := PutIn.next0 R3 ho4 hg4; clear ho4 hg4; obtain ⟨a4, c4, rfl, hnc4, hcm4, _⟩ := own_form R4.1; have o4 := BAt.of_own R4.1; have b4 := R4.2)) | (go_at_call 15; ((with_reducible refine (unwrap_ok a4 _ c4 (frameB l ++ l') _ o4 hnc4 hcm4 F3.out).mono ?_); rintro e w5 ⟨a5, n5, c5, rfl, ho5, hb5⟩; obtain rfl : n5 = m := (by rw [← own_len ho5]; show (bodyB (frameB l ++ l')).length = _; rw [F2.out, HL.out]); have hB5 : Below w.heap.size w w5 := b4.trans (hb5.mono b4.size); have r5 : BAt w5 w5.heap.size a5 n5 l := (by have := BAt.of_own ho5; rw [show bodyB (frameB l ++ l') = l from F2.out] at this; exact this))) | (go_at_call 14; ((with_reducible refine (same_two a5 a n5 n5 c5 c _ _ l _ r5 (hl.below hB5 (Nat.le_refl _)) (by unfold maxLen; omega)).mono ?_); rintro e w' ⟨rfl, k, rfl⟩)))
        go_ret
        exact ⟨rfl, below_drewN _ hB5⟩
      · have hd6 : decide ((60000 : Int) < (m : Int)) = true := by simp; omega
        go_enter Try.func7, Try.ntmps7
        go_wp2_with (first | (go_at_call 9; ((with_reducible refine (awake_any _).mono ?_); rintro e w1 ⟨rfl, hb1⟩)) | (go_at_call 10; ((with_reducible refine (wrap_no a m c _ (by omega) (by unfold maxLen; omega)).mono ?_); rintro e w' ⟨rfl, rfl⟩)))
        go_ret
        exact ⟨rfl, hb1⟩
    · have hd' : decide ((70000 : Int) < (m' : Int)) = true := by simp; omega
      go_enter Try.func7, Try.ntmps7
      go_upto_region 2 with (go_at_call 9; ((with_reducible refine (awake_any _).mono ?_); rintro e w1 ⟨rfl, hb1⟩))
      go_wp2_with (go_at_call 9; ((with_reducible refine (awake_any _).mono ?_); rintro e w2 ⟨rfl, hb2⟩))
      go_ret
      exact ⟨rfl, hb1.trans (hb2.mono hb1.size)⟩
  · have hd : decide ((70000 : Int) < (m : Int)) = true := by simp; omega
    go_enter Try.func7, Try.ntmps7
    go_upto_region 2 with (go_at_call 9; ((with_reducible refine (awake_any _).mono ?_); rintro e w1 ⟨rfl, hb1⟩))
    go_wp2_with (go_at_call 9; ((with_reducible refine (awake_any _).mono ?_); rintro e w2 ⟨rfl, hb2⟩))
    go_ret
    exact ⟨rfl, hb1.trans (hb2.mono hb1.size)⟩
end Go.Proofs.Ytmkadjchcfmbjaa
