/- The walk of the statement FrameReads. Conditions: what came in lies in memory. -/
import Derived.Test.YtmkadjchcfmbjaaFrameRefAll
namespace Go.Proofs.Ytmkadjchcfmbjaa
open Go.RowKit

theorem AllOut.rows {w0 w w' : World} {S : Nat → Prop} {a : Option Addr} {k c : Nat} {L : List UInt8} (h : OwnRows w0 w S (.slice a k c) k (allB L)) (hb : Below w.heap.size w w') : RowsAt w' a k (allB L) ∧ k * 8 ≤ L.length :=
  ⟨(h.below hb).rows fun l hl => by have := (all_sizes L).1 l hl; unfold maxLen; omega, by rw [← h.len]; exact (all_sizes L).2⟩

set_option maxHeartbeats 1000000 in
theorem reads_walk (a : Option Addr) (n c : Nat) (L : List UInt8) (w : World) (hl : BAt w w.heap.size a n L) (hnc : n ≤ c) (hcm : c ≤ maxLen) :
    Calls Try.prog 4 #[.slice a n c] w fun e w' => e = .returned (.bool true) ∧ Below w.heap.size w w' := by
  have hcm' := hcm
  unfold maxLen at hcm'
  by_cases h7 : n ≤ 70000
  · have hd : decide ((70000 : Int) < (n : Int)) = false := by simp; omega
    have hlen := hl.len
    have hul := used_le L
    by_cases he : uwErr L = 0
    · obtain ⟨_, h6, _, _⟩ := uwErr_zero he
      have HE := Lib.hid he; have HBL := Lib.hid (bodyB_len he); have HL := Lib.hid hlen
      clear he hlen
      go_enter Try.func4, Try.ntmps4
      go_wp2_with (first | (go_at_call 9; ((with_reducible refine (awake_any _).mono ?_); rintro e w1 ⟨rfl, hb1⟩; have hl1 : BAt w1 w.heap.size a n L := hl.below hb1 (Nat.le_refl _))) | (go_at_call 15; ((with_reducible refine (unwrap_ok a n c L _ (hl1.more hb1.size) hnc hcm HE.out).mono ?_); rintro e w2 ⟨a2, n2, c2, rfl, ho2, hb2⟩; obtain rfl : n2 = lenB L := (by rw [← own_len ho2, HBL.out]); have hB2 : Below w.heap.size w w2 := hb1.trans (hb2.mono hb1.size))) | (go_at_call 16; ((with_reducible refine (refUnwrap_ok w.heap.size a n c L _ (hl.below hB2 (Nat.le_refl _)) hB2.size hnc hcm HE.out).mono ?_); rintro e w3 ⟨a3, n3, c3, rfl, hr3, hb3⟩; obtain rfl : n3 = lenB L := (by rw [← hr3.len, HBL.out]); have hB3 : Below w.heap.size w w3 := hB2.trans (hb3.mono hB2.size))) | (go_at_call 17; ((with_reducible refine (all_any a n c L _ ((hl.below hB3 (Nat.le_refl _)).more hB3.size) hnc hcm (by omega)).mono ?_); rintro e w4 ⟨a4, k4, c4, rfl, hR4⟩; have hb4 : Below w3.heap.size w3 w4 := hR4.1; have hB4 : Below w.heap.size w w4 := hB3.trans (hb4.mono hB3.size))) | (go_at_call 18; ((with_reducible refine (refAll_any a n c L _ ((hl.below hB4 (Nat.le_refl _)).more hB4.size) hnc hcm (by omega)).mono ?_); rintro e w5 ⟨a5, k5, c5, rfl, hR5⟩; have hb5 : Below w4.heap.size w4 w5 := hR5.1; have hB5 : Below w.heap.size w w5 := hB4.trans (hb5.mono hB4.size); have r4 := AllOut.rows hR4 hb5; have r5 := AllOut.rows hR5 (Below.refl _ _); have b2 := ((BAt.of_own ho2).below ((hb3.trans (hb4.mono hb3.size)).trans (hb5.mono (Nat.le_trans hb3.size hb4.size))) (Nat.le_refl _)); have b3 := hr3.below (hb4.trans (hb5.mono hb4.size)) hB3.size; have hk4 : k4 ≤ maxLen := (by have := r4.2; rw [HL.out] at this; unfold maxLen; omega))) | (go_at_call 14; ((with_reducible refine (same_two a2 a3 (lenB L) (lenB L) c2 c3 _ _ _ _ b2 b3 (by unfold maxLen; omega)).mono ?_); rintro e w' ⟨rfl, q, rfl⟩; have r4' : RowsAt (w5.drewN q) a4 k4 (allB L) := r4.1; have r5' : RowsAt (w5.drewN q) a5 k5 (allB L) := r5.1)) | (go_at_call 19; ((with_reducible refine (rows_same a4 a5 k4 k5 c4 c5 (allB L) _ r4' r5' hk4).mono ?_); rintro e w' ⟨rfl, q2, rfl⟩)))
      go_ret
      exact ⟨rfl, below_drewN _ hB5⟩
    · have HE := Lib.hid he; have HL := Lib.hid hlen
      have hel := uwErr_lt L
      clear he hlen
      go_enter Try.func4, Try.ntmps4
      go_wp2_with (first | (go_at_call 9; ((with_reducible refine (awake_any _).mono ?_); rintro e w1 ⟨rfl, hb1⟩; have hl1 : BAt w1 w.heap.size a n L := hl.below hb1 (Nat.le_refl _))) | (go_at_call 15; ((with_reducible refine (unwrap_no a n c L _ (hl1.more hb1.size) hnc hcm HE.out).mono ?_); rintro e w2 ⟨rfl, hb2⟩; have hB2 : Below w.heap.size w w2 := hb1.trans (hb2.mono hb1.size))) | (go_at_call 16; ((with_reducible refine (refUnwrap_no w.heap.size a n c L _ (hl.below hB2 (Nat.le_refl _)) hB2.size hnc hcm HE.out).mono ?_); rintro e w3 ⟨rfl, hb3⟩; have hB3 : Below w.heap.size w w3 := hB2.trans (hb3.mono hB2.size))) | (go_at_call 17; ((with_reducible refine (all_any a n c L _ ((hl.below hB3 (Nat.le_refl _)).more hB3.size) hnc hcm (by omega)).mono ?_); rintro e w4 ⟨a4, k4, c4, rfl, hR4⟩; have hb4 : Below w3.heap.size w3 w4 := hR4.1; have hB4 : Below w.heap.size w w4 := hB3.trans (hb4.mono hB3.size))) | (go_at_call 18; ((with_reducible refine (refAll_any a n c L _ ((hl.below hB4 (Nat.le_refl _)).more hB4.size) hnc hcm (by omega)).mono ?_); rintro e w5 ⟨a5, k5, c5, rfl, hR5⟩; have hb5 : Below w4.heap.size w4 w5 := hR5.1; have hB5 : Below w.heap.size w w5 := hB4.trans (hb5.mono hB4.size); have r4 := AllOut.rows hR4 hb5; have r5 := AllOut.rows hR5 (Below.refl _ _); have hk4 : k4 ≤ maxLen := (by have := r4.2; rw [HL.out] at this; unfold maxLen; omega))) | (go_at_call 14; ((with_reducible refine (same_two none none 0 0 0 0 0 0 [] _ BAt.nil BAt.nil (by unfold maxLen; omega)).mono ?_); rintro e w' ⟨rfl, q, rfl⟩; have r4' : RowsAt (w5.drewN q) a4 k4 (allB L) := r4.1; have r5' : RowsAt (w5.drewN q) a5 k5 (allB L) := r5.1)) | (go_at_call 19; ((with_reducible refine (rows_same a4 a5 k4 k5 c4 c5 (allB L) _ r4' r5' hk4).mono ?_); rintro e w' ⟨rfl, q2, rfl⟩)))
      go_ret
      exact ⟨rfl, below_drewN _ hB5⟩
  · have hd : decide ((70000 : Int) < (n : Int)) = true := by simp; omega
    go_enter Try.func4, Try.ntmps4
    go_upto_region 2 with (go_at_call 9; ((with_reducible refine (awake_any _).mono ?_); rintro e w1 ⟨rfl, hb1⟩))
    go_wp2_with (go_at_call 9; ((with_reducible refine (awake_any _).mono ?_); rintro e w2 ⟨rfl, hb2⟩))
    go_ret
    exact ⟨rfl, hb1.trans (hb2.mono hb1.size)⟩
end Go.Proofs.Ytmkadjchcfmbjaa
