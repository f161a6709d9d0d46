/- The walk of the statement CodePuts. Conditions: what came in lies in memory and fits its kinds. -/
import Derived.Test.YtngbcdmbkcjlfaaAwake
import Derived.Test.YtngbcdmbkcjlfaaRef
import Derived.Deep.RegionWith
import Derived.Deep.RegionHeld3
namespace Go.Proofs.Ytngbcdmbkcjlfaa
open Go.RowKit

theorem pair_later {w w1 : World} {x y : Value} {t : TypeId} (hb : Below (w.alloc (.cells #[x, y] t)).heap.size (w.alloc (.cells #[x, y] t)) w1) :
    (w1.cell? ⟨w.heap.size, 0, none⟩ = some x ∧ w1.cell? ⟨w.heap.size, 1, none⟩ = some y) ∧ Below w.heap.size w w1 ∧ w.heap.size + 1 ≤ w1.heap.size := by
  have hr := heap_alloc_new w (.cells #[x, y] t)
  refine ⟨⟨?_, ?_⟩, ((Below.refl _ _).alloc (Nat.le_refl _) _).trans (hb.mono (by simp)), by have := hb.size; simpa using this⟩
  · rw [hb.cell (by simp), cell_of_row _ _ _ _ _ _ hr]; rfl
  · rw [hb.cell (by simp), cell_of_row _ _ _ _ _ _ hr]; rfl

set_option maxHeartbeats 1000000 in
theorem puts_walk (a : Option Addr) (m c x y : Nat) (s : ByteArray) (l : List UInt8) (w : World) (hl : BAt w w.heap.size a m l) (hx : x < 18446744073709551616) (hy : y < 18446744073709551616) (hs : s.size ≤ maxLen) :
    Calls Try.prog 3 #[.slice a m c, .agg #[.int .u64 x, .int .u64 y], .string s] w fun e w' => e = .returned (.bool true) ∧ Below w.heap.size w w' := by
  unfold maxLen at hs
  by_cases h1 : m ≤ 1000 ∧ s.size ≤ 70000
  · obtain ⟨hm, hz⟩ := h1
    have hd1 : decide ((1000 : Int) < (m : Int)) = false := by simp; omega
    have hd2 : decide ((70000 : Int) < (s.size : Int)) = false := by simp; omega
    go_enter Try.func3, Try.ntmps3
    go_upto_region 4 with (go_at_call 8; ((with_reducible refine (awake_any _).mono ?_); rintro e w1 ⟨rfl, hb1⟩; obtain ⟨⟨c0, c1⟩, hB1, hz1⟩ := pair_later hb1; clear hb1))
    have hl1 : BAt w1 w.heap.size a m l := hl.below hB1 (Nat.le_refl _)
    have hn1 : -5 ≤ (y : Int) % 20 - 5 := by omega
    have hn2 : (y : Int) % 20 - 5 ≤ 14 := by omega
    have ep := putB_len x (held ((y : Int) % 20 - 5))
    have ep8 := held_le ((y : Int) % 20 - 5)
    have et := textB_len s.data.toList
    have el := hl.len
    have eq1 : (l ++ putB x (held ((y : Int) % 20 - 5))).length ≤ 2000 := by rw [List.length_append, ep]; omega
    have eq2 : (l ++ textB s.data.toList).length ≤ 70000 := by rw [List.length_append, et]; omega
    clear ep ep8 et el
    generalize (y : Int) % 20 - 5 = n at *
    clear c1 hd1 hd2
    go_region_held3 (fun w' => w'.cell? ⟨w.heap.size, 0, none⟩ = some (.int .u64 x)) (first | exact c0 | exact d2 | exact d3 | exact d4 | exact d5)
      (first | (go_at_call 10; ((with_reducible refine (put_any _ _ _ _ _ l _ ?_ (by omega) hx).mono ?_); (exact hl1.more hB1.size); rintro e w2 ⟨a1, n1, c1, rfl, ho1, hb2⟩; have hB2 : Below w.heap.size w w2 := below_on 1 hB1 hb2; have d2 : w2.cell? ⟨w.heap.size, 0, none⟩ = some (.int .u64 x) := (hb2.cell (p := ⟨w.heap.size, 0, none⟩) hz1).trans c0; have hz2 : w.heap.size + 1 ≤ w2.heap.size := Nat.le_trans hz1 hb2.size)) | (go_at_call 11; ((with_reducible refine (refPut_any _ _ _ _ _ l _ ?_ (by omega) hx (by omega) (by omega)).mono ?_); (exact (hl.below hB2 (Nat.le_refl _)).more hB2.size); rintro e w3 ⟨a2, n2, c2, rfl, ho2, hb3⟩; have hB3 : Below w.heap.size w w3 := below_on 0 hB2 hb3; have d3 : w3.cell? ⟨w.heap.size, 0, none⟩ = some (.int .u64 x) := (hb3.cell (p := ⟨w.heap.size, 0, none⟩) hz2).trans d2; have hz3 : w.heap.size + 1 ≤ w3.heap.size := Nat.le_trans hz2 hb3.size; have r1 := (BAt.of_own ho1).below hb3 (Nat.le_refl _); have r2 := BAt.of_own ho2; have s1 : n1 ≤ maxLen := by have := own_len ho1; unfold maxLen; omega)) | (go_at_call 9; ((with_reducible refine (same_two a1 a2 n1 n2 c1 c2 _ _ _ _ r1 r2 s1).mono ?_); rintro e w' ⟨rfl, k, rfl⟩)) | (go_at_call 12; ((with_reducible refine (putText_any _ _ _ _ l _ ?_ (by omega) (by unfold maxLen; omega)).mono ?_); (exact (hl.below hB3 (Nat.le_refl _)).more hB3.size); rintro e w4 ⟨a3, n3, c3, rfl, ho3, hb4⟩; have hB4 : Below w.heap.size w w4 := below_on k hB3 hb4; have d4 : w4.cell? ⟨w.heap.size, 0, none⟩ = some (.int .u64 x) := (hb4.cell (p := ⟨w.heap.size, 0, none⟩) hz3).trans d3; have hz4 : w.heap.size + 1 ≤ w4.heap.size := Nat.le_trans hz3 hb4.size)) | (go_at_call 13; ((with_reducible refine (refPutText_any _ _ _ _ l _ ?_ (by omega) (by unfold maxLen; omega)).mono ?_); (exact (hl.below hB4 (Nat.le_refl _)).more hB4.size); rintro e w5 ⟨a4, n4, c4, rfl, ho4, hb5⟩; have hB5 : Below w.heap.size w w5 := below_on 0 hB4 hb5; have d5 : w5.cell? ⟨w.heap.size, 0, none⟩ = some (.int .u64 x) := (hb5.cell (p := ⟨w.heap.size, 0, none⟩) hz4).trans d4; have r3 := (BAt.of_own ho3).below hb5 (Nat.le_refl _); have r4 := BAt.of_own ho4; have s3 : n3 ≤ maxLen := by have := own_len ho3; unfold maxLen; omega)) | (go_at_call 9; ((with_reducible refine (same_two a3 a4 n3 n4 c3 c4 _ _ _ _ r3 r4 s3).mono ?_); rintro e w' ⟨rfl, k2, rfl⟩)))
    go_wp2
    go_ret
    exact ⟨rfl, below_drewN _ hB5⟩
  · by_cases hm : m ≤ 1000
    · have hz : ¬ s.size ≤ 70000 := fun h => h1 ⟨hm, h⟩
      have hd1 : decide ((1000 : Int) < (m : Int)) = false := by simp; omega
      have hd2 : decide ((70000 : Int) < (s.size : Int)) = true := by simp; omega
      go_enter Try.func3, Try.ntmps3
      go_upto_region 2 with (go_at_call 8; ((with_reducible refine (awake_any _).mono ?_); rintro e w1 ⟨rfl, hb1⟩; obtain ⟨_, hB1, _⟩ := pair_later hb1; clear hb1))
      go_wp2_with (go_at_call 8; ((with_reducible refine (awake_any _).mono ?_); rintro e w2 ⟨rfl, hb2⟩))
      go_ret
      exact ⟨rfl, hB1.trans (hb2.mono hB1.size)⟩
    · have hd1 : decide ((1000 : Int) < (m : Int)) = true := by simp; omega
      go_enter Try.func3, Try.ntmps3
      go_upto_region 2 with (go_at_call 8; ((with_reducible refine (awake_any _).mono ?_); rintro e w1 ⟨rfl, hb1⟩; obtain ⟨_, hB1, _⟩ := pair_later hb1; clear hb1))
      go_wp2_with (go_at_call 8; ((with_reducible refine (awake_any _).mono ?_); rintro e w2 ⟨rfl, hb2⟩))
      go_ret
      exact ⟨rfl, hB1.trans (hb2.mono hB1.size)⟩
end Go.Proofs.Ytngbcdmbkcjlfaa
