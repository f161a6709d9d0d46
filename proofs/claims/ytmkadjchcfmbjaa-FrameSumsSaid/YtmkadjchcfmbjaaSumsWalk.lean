/- The walk of the statement FrameSums. Conditions: what came in lies in memory. -/
import Derived.Test.YtmkadjchcfmbjaaFrameWrap
namespace Go.Proofs.Ytmkadjchcfmbjaa
open Go.RowKit

set_option maxHeartbeats 1000000 in
theorem sums_walk (a : Option Addr) (m c : Nat) (l : List UInt8) (w : World) (hl : BAt w w.heap.size a m l) (hm : m ≤ maxLen) :
    Calls Try.prog 3 #[.slice a m c] w fun e w' => e = .returned (.bool true) ∧ Below w.heap.size w w' := by
  unfold maxLen at hm
  by_cases h7 : m ≤ 70000
  · have hd : decide ((70000 : Int) < (m : Int)) = false := by simp; omega
    by_cases h6 : m ≤ 60000
    · go_enter Try.func3, Try.ntmps3
      have hs := sumB_lt' l
      go_wp2_with (first | (go_at_call 9; ((with_reducible refine (awake_any _).mono ?_); rintro e w1 ⟨rfl, hb1⟩; have hl1 : BAt w1 w.heap.size a m l := hl.below hb1 (Nat.le_refl _))) | (go_at_call 10; ((with_reducible refine (wrap_yes a m c l _ (hl1.more hb1.size) h6).mono ?_); rintro e w2 ⟨a2, n2, c2, rfl, ho2, hb2⟩; have hB2 : Below w.heap.size w w2 := hb1.trans (hb2.mono hb1.size); have hl2 : BAt w2 w.heap.size a m l := hl.below hB2 (Nat.le_refl _))) | (go_at_call 11; ((with_reducible refine (refWrap_yes a m c l _ (hl2.more hB2.size) h6).mono ?_); rintro e w3 ⟨a3, n3, c3, rfl, ho3, hb3⟩; have hB3 : Below w.heap.size w w3 := hB2.trans (hb3.mono hB2.size); have hl3 : BAt w3 w.heap.size a m l := hl.below hB3 (Nat.le_refl _); have r2 := (BAt.of_own ho2).below hb3 (Nat.le_refl _); have r3 := BAt.of_own ho3; have s2 : n2 ≤ maxLen := (by have h1 := own_len ho2; have h2 := hl.len; rw [frameB_len] at h1; unfold maxLen; omega))) | (go_at_call 12; ((with_reducible refine (sum_any w.heap.size a m c l _ hl3 (by unfold maxLen; omega)).mono ?_); rintro e w' ⟨rfl, rfl⟩)) | (go_at_call 13; ((with_reducible refine (refSum_any w.heap.size a m c l _ hl3 (by unfold maxLen; omega)).mono ?_); rintro e w' ⟨rfl, rfl⟩)) | (go_at_call 14; ((with_reducible refine (same_two a2 a3 n2 n3 c2 c3 _ _ _ _ r2 r3 s2).mono ?_); rintro e w' ⟨rfl, k, rfl⟩)))
      go_ret
      exact ⟨rfl, below_drewN _ hB3⟩
    · go_enter Try.func3, Try.ntmps3
      have hs := sumB_lt' l
      go_wp2_with (first | (go_at_call 9; ((with_reducible refine (awake_any _).mono ?_); rintro e w1 ⟨rfl, hb1⟩; have hl1 : BAt w1 w.heap.size a m l := hl.below hb1 (Nat.le_refl _))) | (go_at_call 10; ((with_reducible refine (wrap_no a m c _ (by omega) (by unfold maxLen; omega)).mono ?_); rintro e w' ⟨rfl, rfl⟩)) | (go_at_call 11; ((with_reducible refine (refWrap_no a m c _ (by omega) (by unfold maxLen; omega)).mono ?_); rintro e w' ⟨rfl, rfl⟩)) | (go_at_call 12; ((with_reducible refine (sum_any w.heap.size a m c l _ hl1 (by unfold maxLen; omega)).mono ?_); rintro e w' ⟨rfl, rfl⟩)) | (go_at_call 13; ((with_reducible refine (refSum_any w.heap.size a m c l _ hl1 (by unfold maxLen; omega)).mono ?_); rintro e w' ⟨rfl, rfl⟩)) | (go_at_call 14; ((with_reducible refine (same_two none none 0 0 0 0 0 0 [] _ BAt.nil BAt.nil (by unfold maxLen; omega)).mono ?_); rintro e w' ⟨rfl, k, rfl⟩)))
      go_ret
      exact ⟨rfl, below_drewN _ hb1⟩
  · have hd : decide ((70000 : Int) < (m : Int)) = true := by simp; omega
    go_enter Try.func3, Try.ntmps3
    go_upto_region 2 with (go_at_call 9; ((with_reducible refine (awake_any _).mono ?_); rintro e w1 ⟨rfl, hb1⟩))
    go_wp2_with (go_at_call 9; ((with_reducible refine (awake_any _).mono ?_); rintro e w2 ⟨rfl, hb2⟩))
    go_ret
    exact ⟨rfl, hb1.trans (hb2.mono hb1.size)⟩
end Go.Proofs.Ytmkadjchcfmbjaa
