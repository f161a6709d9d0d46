/- Contracts of slices.Grow of no slice, and of slices.Concat of two slices. Conditions: the slices lie in memory, and are no longer than 2^40. -/
import Derived.Test.YtcgfhjkdgpgheaaDoorGK
import Derived.Lib.AppendZerosOnto
import Derived.Lib.AppendZeros
namespace Go.Proofs.YtcgfhjkdgpgheaaDoor

open Go.RowKit

set_option linter.unusedVariables false

/-- A new row of one-cell elements is answered. -/
def NewX (e : TypeId) (w : World) (xs : List Value) (en : Ending) (w' : World) : Prop :=
  ∃ a c, en = .returned (.slice a xs.length c) ∧ w'.ownsRow w.heap.size e 1 (.slice a xs.length c) xs.length xs ∧ Below w.heap.size w w'
theorem own_grow {w : World} {e : TypeId} {z : Value} {n G : Nat} (hz : z.cells.size = 1) (hG : n ≤ G) (hM : G ≤ maxLen) :
    (w.drew.alloc (.cells (([] : List Value).toArray ++ Builtin.zeroCells z.cells n ++ Builtin.zeroCells z.cells (G - n)) e)).ownsRow w.heap.size e 1 (.slice (some ⟨w.heap.size, 0, none⟩) 0 G) 0 [] := by
  refine ⟨rfl, .inr ⟨w.heap.size, G, _, rfl, Nat.le_refl _, heap_alloc_new w.drew _, Nat.zero_le _, hM, ?_, by simp⟩⟩
  rw [Array.size_append, Array.size_append, size_zeroCells, size_zeroCells, hz]
  simp; omega
/-- What is there of two slices, when k of them have come. -/
def totN (n1 n2 k : Nat) : Nat := if k = 0 then 0 else if k = 1 then n1 else n1 + n2
def totX (x1 x2 : List Value) (k : Nat) : List Value := if k = 0 then [] else if k = 1 then x1 else x1 ++ x2

set_option maxRecDepth 100000 in
set_option maxHeartbeats 1000000 in
theorem growB_any (n : Nat) (w : World) (hn : n ≤ 2199023255552) :
    Calls Tryd.prog 124 #[.slice none 0 0, .int .i64 ((n : Nat) : Int)] w fun en w' => ∃ v, en = .returned v ∧ w'.ownsRow w.heap.size 5 1 v 0 [] ∧ Below w.heap.size w w' := by
  obtain ⟨i0, hi, hz0, hz1, hz2⟩ := info_parts Tryd.info5
  by_cases h0 : n = 0
  · subst h0
    go_enter Tryd.func124, Tryd.ntmps124
    go_wp2
    go_ret
    exact ⟨_, rfl, World.ownsRow_nil _ _ _ _, Below.refl _ _⟩
  · have hrz : ∀ ty, (Builtin.append_ #[37, 3] ty #[.slice none 0 0, .int .i64 ((n : Nat) : Int)]).run Tryd.prog w = _ := fun ty =>
      Lib.run_append_grow_zeros w 37 3 ty 5 i0 (.int .u8 0) .i64 .i64 Tryd.underlying37 Tryd.underlying3 hi hz0 none 0 0 [] (run_firstCells_none w.drew i0.size 0 0 0) n (by omega) (by omega) (by omega) (by omega) (by rw [hz2]; omega)
        (by rw [hz2]; exact growslice_fits (by omega) (by omega))
    have hG := grownCap_ge w (0 + n) 0 5
    have hG2 := grownCap_le_maxLen w (0 + n) 0 5 (by unfold maxLen; omega)
    simp only [Nat.zero_add] at hrz hG hG2
    have hO := Lib.hid (own_grow (w := w) (e := 5) (z := .int .u8 0) rfl hG hG2)
    have hB : Hid (Below w.heap.size w (w.drew.alloc (.cells (([] : List Value).toArray ++ Builtin.zeroCells (.int .u8 0 : Value).cells n ++ Builtin.zeroCells (.int .u8 0 : Value).cells (grownCap w n 0 5 - n)) 5))) := (below_drewN 1 (Below.refl _ _)).alloc (Nat.le_refl _) _
    have hG3 : grownCap w n 0 5 ≤ 9223372036854775807 := by unfold maxLen at hG2; omega
    have q1 : decide ((0 : Int) < (n : Int)) = true := by simp; omega
    clear hG2
    generalize grownCap w n 0 5 = G at *
    generalize w.drew.alloc (.cells (([] : List Value).toArray ++ Builtin.zeroCells (.int .u8 0 : Value).cells n ++ Builtin.zeroCells (.int .u8 0 : Value).cells (G - n)) 5) = W1 at *
    go_enter Tryd.func124, Tryd.ntmps124
    go_wp2_with (at_builtin; refine Lib.wpList_append_run _ rfl _ _ _ _ rfl _ _ rfl rfl _ _ (hrz _) ?_)
    go_ret
    exact ⟨_, rfl, hO.out, hB.out⟩

set_option maxRecDepth 100000 in
set_option maxHeartbeats 2000000 in
theorem concatB_any (B0 off c0 : Nat) (a1 : Option Addr) (n1 c1 : Nat) (x1 : List Value) (a2 : Option Addr) (n2 c2 : Nat) (x2 : List Value) (w : World)
    (hc1 : w.cell? ⟨B0, off, none⟩ = some (.slice a1 n1 c1)) (hc2 : w.cell? ⟨B0, off + 1, none⟩ = some (.slice a2 n2 c2)) (hB0 : B0 < w.heap.size)
    (h1 : RowAt w w.heap.size a1 n1 1 x1) (h2 : RowAt w w.heap.size a2 n2 1 x2) (ho1 : ∀ u ∈ x1, u.oneCell' = true) (ho2 : ∀ u ∈ x2, u.oneCell' = true) (hn1 : n1 ≤ 1099511627776) (hn2 : n2 ≤ 1099511627776) :
    Calls Tryd.prog 108 #[.slice (some ⟨B0, off, none⟩) 2 c0] w (NewX 5 w (x1 ++ x2)) := by
  obtain ⟨i0, hi, hz0, hz1, hz2⟩ := info_parts Tryd.info5
  have hl1 : x1.length = n1 := by have := h1.1; omega
  have hl2 : x2.length = n2 := by have := h2.1; omega
  have R1 := Lib.hid h1
  have R2 := Lib.hid h2
  have O1 := Lib.hid ho1
  have O2 := Lib.hid ho2
  clear h1 h2 ho1 ho2
  go_enter Tryd.func108, Tryd.ntmps108
  go_wp2
  go_loop [3, 11] (fun z i => ∃ k : Nat, k ≤ 2 ∧ i = .int .i64 k ∧ z = .int .i64 (totN n1 n2 k : Nat)) (fun _ i => 2 - (intOf i).toNat)
  case atStart => exact ⟨0, by omega, rfl, rfl⟩
  case round =>
    obtain ⟨k, hk, rfl, rfl⟩ := hrel
    rcases (show k = 0 ∨ k = 1 ∨ k = 2 by omega) with rfl | rfl | rfl
    · rw [show totN n1 n2 0 = 0 from rfl]
      go_wp2
      go_round
      case rel => exact ⟨1, by omega, by go_num, by rw [show totN n1 n2 1 = n1 from rfl]⟩
      case measure => simp [intOf]
    · rw [show totN n1 n2 1 = n1 from rfl]
      go_wp2
      go_round
      case rel => exact ⟨2, by omega, by go_num, by rw [show totN n1 n2 2 = n1 + n2 from rfl]; go_num⟩
      case measure => simp [intOf]
    · rw [show totN n1 n2 2 = n1 + n2 from rfl]
      have cG := growB_any (n1 + n2) w (by omega)
      have cG2 := cG
      rw [show ((n1 + n2 : Nat) : Int) = (n1 : Int) + (n2 : Int) by omega] at cG2
      go_wp2_with (go_at_call 124; (first | (with_reducible refine cG.mono ?_) | (with_reducible refine cG2.mono ?_)); rintro en w1 ⟨v1, rfl, hO, hb1⟩; have HO := Lib.hid hO; have HB := Lib.hid hb1; clear hO hb1)
      go_loopw [6, 27] (fun v i wr => ∃ k : Nat, k ≤ 2 ∧ i = .int .i64 k ∧ wr.ownsRow w.heap.size 5 1 v (totN n1 n2 k) (totX x1 x2 k) ∧ Below w.heap.size w wr) (fun _ i _ => 2 - (intOf i).toNat)
      case atStart => exact ⟨0, by omega, rfl, HO.out, HB.out⟩
      case round =>
        obtain ⟨k, hk, rfl, hO, hb⟩ := hrel
        have HO2 := Lib.hid hO
        have HB2 := Lib.hid hb
        clear hO hb HO HB cG cG2
        have hsz := HB2.out.size
        rcases (show k = 0 ∨ k = 1 ∨ k = 2 by omega) with rfl | rfl | rfl
        · have y1 := (HB2.out.cell (p := ⟨B0, off, none⟩) hB0).trans hc1
          go_wp2_with (at_builtin; (refine wpList_append_rowk _ rfl _ _ 37 rfl w.heap.size 5 i0 _ 1 1 Tryd.underlying37 hi hz0 hz1 hz2 rfl (by omega) _ 0 [] rfl HO2.out w.heap.size a1 n1 c1 x1 rfl (R1.out.below HB2.out (Nat.le_refl _)) O1.out (by unfold maxLen; omega) (by omega) (by omega) ?_; intro v3 w3 ho3 hg3 hat3; have HB3 := Lib.hid (HB2.out.grown hg3 hsz (fun j hj => (HO2.out.lt j hj).1)); have HO3 := Lib.hid ho3; clear ho3 hg3 hat3))
          go_roundw
          case rel => exact ⟨1, by omega, by go_num, by rw [show totN n1 n2 1 = n1 from rfl, show totX x1 x2 1 = x1 from rfl]; simpa using HO3.out, HB3.out⟩
          case measure => simp [intOf]
        · have y1 := (HB2.out.cell (p := ⟨B0, off + 1, none⟩) hB0).trans hc2
          go_wp2_with (at_builtin; (refine wpList_append_rowk _ rfl _ _ 37 rfl w.heap.size 5 i0 _ 1 1 Tryd.underlying37 hi hz0 hz1 hz2 rfl (by omega) _ n1 x1 rfl HO2.out w.heap.size a2 n2 c2 x2 rfl (R2.out.below HB2.out (Nat.le_refl _)) O2.out (by unfold maxLen; omega) (by omega) (by omega) ?_; intro v3 w3 ho3 hg3 hat3; have HB3 := Lib.hid (HB2.out.grown hg3 hsz (fun j hj => (HO2.out.lt j hj).1)); have HO3 := Lib.hid ho3; clear ho3 hg3 hat3))
          go_roundw
          case rel => exact ⟨2, by omega, by go_num, by rw [show totN n1 n2 2 = n1 + n2 from rfl, show totX x1 x2 2 = x1 ++ x2 from rfl]; exact HO3.out, HB3.out⟩
          case measure => simp [intOf]
        · have hO4 := HO2.out
          rw [show totN n1 n2 2 = n1 + n2 from rfl, show totX x1 x2 2 = x1 ++ x2 from rfl] at hO4
          have el : n1 + n2 = (x1 ++ x2).length := by rw [List.length_append]; omega
          rw [el] at hO4
          obtain ⟨a4, c4, rfl, _, _⟩ := ownk_form hO4
          have HO4 := Lib.hid hO4
          clear hO4 HO2
          go_wp2
          go_ret
          exact ⟨a4, c4, rfl, HO4.out, HB2.out⟩
end Go.Proofs.YtcgfhjkdgpgheaaDoor
