/- The walk of the statement ValueOrder. Conditions: what came in fits its kinds; utf8's tables. -/
import Derived.Test.YtmaohddmhdhkkaaDoorValueAwake

import Derived.Test.YtmaohddmhdhkkaaDoorValueOrd

import Derived.Test.YtmaohddmhdhkkaaDoorValueBox

import Derived.Deep.RegionHeld3

namespace Go.Proofs.YtmaohddmhdhkkaaDoor

open Go.RowKit

/-- Three values in boxes. -/
def Boxes3 (w w1 : World) (k1 k2 k3 : Int) (b1 b2 b3 : Nat) (t1 t2 t3 : ByteArray) : Prop :=
  BoxV w1 w.heap.size k1 b1 t1 ∧ BoxV w1 (w.heap.size + 1) k2 b2 t2 ∧ BoxV w1 (w.heap.size + 2) k3 b3 t3 ∧ Below w.heap.size w w1 ∧ w.heap.size + 3 ≤ w1.heap.size
section

variable {w w1 w2 : World} {k1 k2 k3 : Int} {b1 b2 b3 : Nat} {t1 t2 t3 : ByteArray}

theorem Boxes3.below (h : Boxes3 w w1 k1 k2 k3 b1 b2 b3 t1 t2 t3) (hb : Below w1.heap.size w1 w2) : Boxes3 w w2 k1 k2 k3 b1 b2 b3 t1 t2 t3 := by
  obtain ⟨h1, h2, h3, hB, hs⟩ := h
  exact ⟨h1.below hb (by omega), h2.below hb (by omega), h3.below hb (by omega), hB.trans (hb.mono hB.size), Nat.le_trans hs hb.size⟩
theorem Boxes3.bel (h : Boxes3 w w1 k1 k2 k3 b1 b2 b3 t1 t2 t3) : Below w.heap.size w w1 := h.2.2.2.1
theorem Boxes3.drew (h : Boxes3 w w1 k1 k2 k3 b1 b2 b3 t1 t2 t3) : Boxes3 w w1.drew k1 k2 k3 b1 b2 b3 t1 t2 t3 := ⟨h.1, h.2.1, h.2.2.1, h.bel.drew, h.2.2.2.2⟩
theorem Boxes3.nine (h : Boxes3 w w1 k1 k2 k3 b1 b2 b3 t1 t2 t3) :
    w1.cell? ⟨w.heap.size, 0, none⟩ = some (.int .i64 k1) ∧ w1.cell? ⟨w.heap.size, 1, none⟩ = some (.int .u64 (b1 : Nat)) ∧ w1.cell? ⟨w.heap.size, 2, none⟩ = some (.string t1) ∧
    w1.cell? ⟨w.heap.size + 1, 0, none⟩ = some (.int .i64 k2) ∧ w1.cell? ⟨w.heap.size + 1, 1, none⟩ = some (.int .u64 (b2 : Nat)) ∧ w1.cell? ⟨w.heap.size + 1, 2, none⟩ = some (.string t2) ∧
    w1.cell? ⟨w.heap.size + 2, 0, none⟩ = some (.int .i64 k3) ∧ w1.cell? ⟨w.heap.size + 2, 1, none⟩ = some (.int .u64 (b3 : Nat)) ∧ w1.cell? ⟨w.heap.size + 2, 2, none⟩ = some (.string t3) :=
  ⟨h.1.1, h.1.2.1, h.1.2.2, h.2.1.1, h.2.1.2.1, h.2.1.2.2, h.2.2.1.1, h.2.2.1.2.1, h.2.2.1.2.2⟩
end

theorem boxes3_new (w : World) (k1 k2 k3 : Int) (b1 b2 b3 : Nat) (t1 t2 t3 : ByteArray) (ty : TypeId) :
    Boxes3 w (((w.alloc (.cells #[.int .i64 k1, .int .u64 b1, .string t1] ty)).alloc (.cells #[.int .i64 k2, .int .u64 b2, .string t2] ty)).alloc (.cells #[.int .i64 k3, .int .u64 b3, .string t3] ty)) k1 k2 k3 b1 b2 b3 t1 t2 t3 := by
  have s1 : (w.alloc (.cells #[.int .i64 k1, .int .u64 b1, .string t1] ty)).heap.size = w.heap.size + 1 := by simp
  have s2 : ((w.alloc (.cells #[.int .i64 k1, .int .u64 b1, .string t1] ty)).alloc (.cells #[.int .i64 k2, .int .u64 b2, .string t2] ty)).heap.size = w.heap.size + 2 := by simp
  have h1 := BoxV.new w k1 b1 t1 ty
  have h2 := BoxV.new (w.alloc (.cells #[.int .i64 k1, .int .u64 b1, .string t1] ty)) k2 b2 t2 ty
  have h3 := BoxV.new ((w.alloc (.cells #[.int .i64 k1, .int .u64 b1, .string t1] ty)).alloc (.cells #[.int .i64 k2, .int .u64 b2, .string t2] ty)) k3 b3 t3 ty
  rw [s1] at h2
  rw [s2] at h3
  refine ⟨(h1.alloc _ (by omega)).alloc _ (by omega), h2.alloc _ (by omega), h3, (((Below.refl _ _).alloc (Nat.le_refl _) _).alloc (by simp) _).alloc (by simp; omega) _, by simp⟩

set_option maxHeartbeats 2000000 in
theorem order_big (k1 k2 k3 : Int) (b1 b2 b3 : Nat) (t1 t2 t3 : ByteArray) (w : World) (hb1 : b1 < 18446744073709551616) (hb2 : b2 < 18446744073709551616) (hb3 : b3 < 18446744073709551616) (ht1 : t1.size ≤ maxLen) (ht2 : t2.size ≤ maxLen) (ht3 : t3.size ≤ maxLen) (hT : Tabs w) (h : ¬ (t1.size ≤ 1000 ∧ t2.size ≤ 1000 ∧ t3.size ≤ 1000)) : Calls Tryd.prog 7 #[.agg #[.int .i64 k1, .int .u64 b1, .string t1], .agg #[.int .i64 k2, .int .u64 b2, .string t2], .agg #[.int .i64 k3, .int .u64 b3, .string t3]] w fun e w' => e = .returned (.bool true) ∧ Below w.heap.size w w' := by
  have z1 := ht1; have z2 := ht2; have z3 := ht3
  unfold maxLen at z1 z2 z3
  have hX0 := boxes3_new w k1 k2 k3 b1 b2 b3 t1 t2 t3 24
  have HX0 := Lib.hid hX0
  have HTW : Hid (∀ W, Below w.heap.size w W → Tabs W) := fun W hB => hT.below hB
  clear hX0 hT
  by_cases h1 : t1.size ≤ 1000
  · have d1 : decide ((1000 : Int) < (t1.size : Int)) = false := by simp; omega
    by_cases h2 : t2.size ≤ 1000
    · have d2 : decide ((1000 : Int) < (t2.size : Int)) = false := by simp; omega
      have h3 : ¬ t3.size ≤ 1000 := fun h3 => h ⟨h1, h2, h3⟩
      have d3 : decide ((1000 : Int) < (t3.size : Int)) = true := by simp; omega
      clear h
      go_enter Tryd.func7, Tryd.ntmps7
      go_upto_region 2 with (first | (go_at_call 9; ((with_reducible refine (awake_any _ (HTW.out _ HX0.out.bel)).mono ?_); rintro e w1 ⟨rfl, hq1⟩; have HX := Lib.hid (HX0.out.below hq1); obtain ⟨p1, p2, p3, p4, p5, p6, p7, p8, p9⟩ := HX.out.nine)))
      go_wp2_with (go_at_call 9; ((with_reducible refine (awake_any _ (HTW.out _ HX.out.bel)).mono ?_); rintro e w9 ⟨rfl, hq9⟩))
      go_ret
      exact ⟨rfl, (HX.out.below hq9).bel⟩
    · have d2 : decide ((1000 : Int) < (t2.size : Int)) = true := by simp; omega
      clear h
      go_enter Tryd.func7, Tryd.ntmps7
      go_upto_region 2 with (first | (go_at_call 9; ((with_reducible refine (awake_any _ (HTW.out _ HX0.out.bel)).mono ?_); rintro e w1 ⟨rfl, hq1⟩; have HX := Lib.hid (HX0.out.below hq1); obtain ⟨p1, p2, p3, p4, p5, p6, p7, p8, p9⟩ := HX.out.nine)))
      go_wp2_with (go_at_call 9; ((with_reducible refine (awake_any _ (HTW.out _ HX.out.bel)).mono ?_); rintro e w9 ⟨rfl, hq9⟩))
      go_ret
      exact ⟨rfl, (HX.out.below hq9).bel⟩
  · have d1 : decide ((1000 : Int) < (t1.size : Int)) = true := by simp; omega
    clear h
    go_enter Tryd.func7, Tryd.ntmps7
    go_upto_region 2 with (first | (go_at_call 9; ((with_reducible refine (awake_any _ (HTW.out _ HX0.out.bel)).mono ?_); rintro e w1 ⟨rfl, hq1⟩; have HX := Lib.hid (HX0.out.below hq1); obtain ⟨p1, p2, p3, p4, p5, p6, p7, p8, p9⟩ := HX.out.nine)))
    go_wp2_with (go_at_call 9; ((with_reducible refine (awake_any _ (HTW.out _ HX.out.bel)).mono ?_); rintro e w9 ⟨rfl, hq9⟩))
    go_ret
    exact ⟨rfl, (HX.out.below hq9).bel⟩

set_option maxHeartbeats 2000000 in
theorem order_not (k1 k2 k3 : Int) (b1 b2 b3 : Nat) (t1 t2 t3 : ByteArray) (w : World) (hb1 : b1 < 18446744073709551616) (hb2 : b2 < 18446744073709551616) (hb3 : b3 < 18446744073709551616) (ht1 : t1.size ≤ maxLen) (ht2 : t2.size ≤ maxLen) (ht3 : t3.size ≤ maxLen) (hT : Tabs w) (h1 : t1.size ≤ 1000) (h2 : t2.size ≤ 1000) (h3 : t3.size ≤ 1000) (h : ¬ (formedB ⟨k1, b1, t1.data.toList⟩ = true ∧ formedB ⟨k2, b2, t2.data.toList⟩ = true ∧ formedB ⟨k3, b3, t3.data.toList⟩ = true)) : Calls Tryd.prog 7 #[.agg #[.int .i64 k1, .int .u64 b1, .string t1], .agg #[.int .i64 k2, .int .u64 b2, .string t2], .agg #[.int .i64 k3, .int .u64 b3, .string t3]] w fun e w' => e = .returned (.bool true) ∧ Below w.heap.size w w' := by
  have z1 := ht1; have z2 := ht2; have z3 := ht3
  unfold maxLen at z1 z2 z3
  have hX0 := boxes3_new w k1 k2 k3 b1 b2 b3 t1 t2 t3 24
  have HX0 := Lib.hid hX0
  have HTW : Hid (∀ W, Below w.heap.size w W → Tabs W) := fun W hB => hT.below hB
  clear hX0 hT
  have d1 : decide ((1000 : Int) < (t1.size : Int)) = false := by simp; omega
  have d2 : decide ((1000 : Int) < (t2.size : Int)) = false := by simp; omega
  have d3 : decide ((1000 : Int) < (t3.size : Int)) = false := by simp; omega
  have c1 := fun W h => formed_any k1 b1 t1 W hb1 ht1 h
  have c2 := fun W h => formed_any k2 b2 t2 W hb2 ht2 h
  have c3 := fun W h => formed_any k3 b3 t3 W hb3 ht3 h
  generalize formedB ⟨k1, b1, t1.data.toList⟩ = f1 at *
  generalize formedB ⟨k2, b2, t2.data.toList⟩ = f2 at *
  generalize formedB ⟨k3, b3, t3.data.toList⟩ = f3 at *
  clear z1 z2 z3
  cases f1
  · clear h
    go_enter Tryd.func7, Tryd.ntmps7
    go_upto_region 2 with (first | (go_at_call 9; ((with_reducible refine (awake_any _ (HTW.out _ HX0.out.bel)).mono ?_); rintro e w1 ⟨rfl, hq1⟩; have HX := Lib.hid (HX0.out.below hq1); obtain ⟨p1, p2, p3, p4, p5, p6, p7, p8, p9⟩ := HX.out.nine)) | (go_at_call 10; ((with_reducible refine (c1 _ (HTW.out _ HX.out.bel)).mono ?_); rintro e w2 ⟨rfl, hq⟩; have Y1 := Lib.hid (HX.out.below hq); obtain ⟨p1, p2, p3, p4, p5, p6, p7, p8, p9⟩ := Y1.out.nine)))
    go_wp2_with (go_at_call 9; ((with_reducible refine (awake_any _ (HTW.out _ Y1.out.bel)).mono ?_); rintro e w9 ⟨rfl, hq9⟩))
    go_ret
    exact ⟨rfl, (Y1.out.below hq9).bel⟩
  · cases f2
    · clear h
      go_enter Tryd.func7, Tryd.ntmps7
      go_upto_region 2 with (first | (go_at_call 9; ((with_reducible refine (awake_any _ (HTW.out _ HX0.out.bel)).mono ?_); rintro e w1 ⟨rfl, hq1⟩; have HX := Lib.hid (HX0.out.below hq1); obtain ⟨p1, p2, p3, p4, p5, p6, p7, p8, p9⟩ := HX.out.nine)) | (go_at_call 10; ((with_reducible refine (c1 _ (HTW.out _ HX.out.bel)).mono ?_); rintro e w2 ⟨rfl, hq⟩; have Y1 := Lib.hid (HX.out.below hq); obtain ⟨p1, p2, p3, p4, p5, p6, p7, p8, p9⟩ := Y1.out.nine)) | (go_at_call 10; ((with_reducible refine (c2 _ (HTW.out _ Y1.out.bel)).mono ?_); rintro e w3 ⟨rfl, hq⟩; have Y2 := Lib.hid (Y1.out.below hq); obtain ⟨p1, p2, p3, p4, p5, p6, p7, p8, p9⟩ := Y2.out.nine)))
      go_wp2_with (go_at_call 9; ((with_reducible refine (awake_any _ (HTW.out _ Y2.out.bel)).mono ?_); rintro e w9 ⟨rfl, hq9⟩))
      go_ret
      exact ⟨rfl, (Y2.out.below hq9).bel⟩
    · cases f3
      · clear h
        go_enter Tryd.func7, Tryd.ntmps7
        go_upto_region 2 with (first | (go_at_call 9; ((with_reducible refine (awake_any _ (HTW.out _ HX0.out.bel)).mono ?_); rintro e w1 ⟨rfl, hq1⟩; have HX := Lib.hid (HX0.out.below hq1); obtain ⟨p1, p2, p3, p4, p5, p6, p7, p8, p9⟩ := HX.out.nine)) | (go_at_call 10; ((with_reducible refine (c1 _ (HTW.out _ HX.out.bel)).mono ?_); rintro e w2 ⟨rfl, hq⟩; have Y1 := Lib.hid (HX.out.below hq); obtain ⟨p1, p2, p3, p4, p5, p6, p7, p8, p9⟩ := Y1.out.nine)) | (go_at_call 10; ((with_reducible refine (c2 _ (HTW.out _ Y1.out.bel)).mono ?_); rintro e w3 ⟨rfl, hq⟩; have Y2 := Lib.hid (Y1.out.below hq); obtain ⟨p1, p2, p3, p4, p5, p6, p7, p8, p9⟩ := Y2.out.nine)) | (go_at_call 10; ((with_reducible refine (c3 _ (HTW.out _ Y2.out.bel)).mono ?_); rintro e w4 ⟨rfl, hq⟩; have Y3 := Lib.hid (Y2.out.below hq); obtain ⟨p1, p2, p3, p4, p5, p6, p7, p8, p9⟩ := Y3.out.nine)))
        go_wp2_with (go_at_call 9; ((with_reducible refine (awake_any _ (HTW.out _ Y3.out.bel)).mono ?_); rintro e w9 ⟨rfl, hq9⟩))
        go_ret
        exact ⟨rfl, (Y3.out.below hq9).bel⟩
      · exact absurd ⟨rfl, rfl, rfl⟩ h

set_option maxHeartbeats 2000000 in
theorem order_main (k1 k2 k3 : Int) (b1 b2 b3 : Nat) (t1 t2 t3 : ByteArray) (w : World) (hb1 : b1 < 18446744073709551616) (hb2 : b2 < 18446744073709551616) (hb3 : b3 < 18446744073709551616) (ht1 : t1.size ≤ maxLen) (ht2 : t2.size ≤ maxLen) (ht3 : t3.size ≤ maxLen) (hT : Tabs w) (h1 : t1.size ≤ 1000) (h2 : t2.size ≤ 1000) (h3 : t3.size ≤ 1000) (f1 : formedB ⟨k1, b1, t1.data.toList⟩ = true) (f2 : formedB ⟨k2, b2, t2.data.toList⟩ = true) (f3 : formedB ⟨k3, b3, t3.data.toList⟩ = true) : Calls Tryd.prog 7 #[.agg #[.int .i64 k1, .int .u64 b1, .string t1], .agg #[.int .i64 k2, .int .u64 b2, .string t2], .agg #[.int .i64 k3, .int .u64 b3, .string t3]] w fun e w' => e = .returned (.bool true) ∧ Below w.heap.size w w' := by
  have z1 := ht1; have z2 := ht2; have z3 := ht3
  unfold maxLen at z1 z2 z3
  have hX0 := boxes3_new w k1 k2 k3 b1 b2 b3 t1 t2 t3 24
  have HX0 := Lib.hid hX0
  have HTW : Hid (∀ W, Below w.heap.size w W → Tabs W) := fun W hB => hT.below hB
  clear hX0 hT
  have d1 : decide ((1000 : Int) < (t1.size : Int)) = false := by simp; omega
  have d2 : decide ((1000 : Int) < (t2.size : Int)) = false := by simp; omega
  have d3 : decide ((1000 : Int) < (t3.size : Int)) = false := by simp; omega
  have c1 := fun W h => formed_any k1 b1 t1 W hb1 ht1 h
  have c2 := fun W h => formed_any k2 b2 t2 W hb2 ht2 h
  have c3 := fun W h => formed_any k3 b3 t3 W hb3 ht3 h
  have cAB := fun W h => compare_any k1 k2 b1 b2 t1 t2 W hb1 ht1 hb2 ht2 h
  have cBA := fun W h => compare_any k2 k1 b2 b1 t2 t1 W hb2 ht2 hb1 ht1 h
  have cBC := fun W h => compare_any k2 k3 b2 b3 t2 t3 W hb2 ht2 hb3 ht3 h
  have cAC := fun W h => compare_any k1 k3 b1 b3 t1 t3 W hb1 ht1 hb3 ht3 h
  rw [f1] at c1
  rw [f2] at c2
  rw [f3] at c3
  have r1 := cmpV_range (a := ⟨k1, b1, t1.data.toList⟩) (b := ⟨k2, b2, t2.data.toList⟩) hb1 hb2 f1 f2
  have r2 := cmpV_range (a := ⟨k2, b2, t2.data.toList⟩) (b := ⟨k3, b3, t3.data.toList⟩) hb2 hb3 f2 f3
  have r3 := cmpV_range (a := ⟨k1, b1, t1.data.toList⟩) (b := ⟨k3, b3, t3.data.toList⟩) hb1 hb3 f1 f3
  have en := cmpV_neg (a := ⟨k2, b2, t2.data.toList⟩) (b := ⟨k1, b1, t1.data.toList⟩) hb2 hb1 f2 f1
  have ez := cmpV_zero (a := ⟨k1, b1, t1.data.toList⟩) (b := ⟨k2, b2, t2.data.toList⟩) hb1 hb2 f1 f2
  have et := cmpV_tr (a := ⟨k1, b1, t1.data.toList⟩) (b := ⟨k2, b2, t2.data.toList⟩) (c := ⟨k3, b3, t3.data.toList⟩) hb1 hb2 hb3 f1 f2 f3
  rw [en] at cBA
  clear en f1 f2 f3 z1 z2 z3
  have hne : ⟨k1, b1, t1.data.toList⟩ = (⟨k2, b2, t2.data.toList⟩ : Val) ↔ k1 = k2 ∧ b1 = b2 ∧ t1.toList = t2.toList := by
    rw [ByteArray.toList_eq, ByteArray.toList_eq]; simp
  rw [hne] at ez
  clear hne
  generalize cmpV ⟨k1, b1, t1.data.toList⟩ ⟨k2, b2, t2.data.toList⟩ = C1 at *
  generalize cmpV ⟨k2, b2, t2.data.toList⟩ ⟨k3, b3, t3.data.toList⟩ = C2 at *
  generalize cmpV ⟨k1, b1, t1.data.toList⟩ ⟨k3, b3, t3.data.toList⟩ = C3 at *
  obtain ⟨r11, r12⟩ := r1
  obtain ⟨r21, r22⟩ := r2
  obtain ⟨r31, r32⟩ := r3
  have y1 : IntKind.i64.wrap C1 = C1 := by rw [IntKind.wrap_i64]; omega
  have y2 : IntKind.i64.wrap (- -C1) = C1 := by rw [IntKind.wrap_i64]; omega
  have EZ := Lib.hid ez
  have ET := Lib.hid et
  clear ez et
  by_cases he : k1 = k2 ∧ b1 = b2 ∧ t1.toList = t2.toList
  · obtain rfl := EZ.out.2 he
    obtain ⟨e1, e2, e3⟩ := he
    have q1 : (k1 == k2) = true := by simpa using e1
    have q2 : ((b1 : Int) == (b2 : Int)) = true := by simp; omega
    have q3 : (t1.toList == t2.toList) = true := by simpa using e3
    clear e1 e2 e3 EZ
    by_cases g2 : 0 < C2
    · have u2 : decide (0 < C2) = true := by simpa using g2
      go_enter Tryd.func7, Tryd.ntmps7
      go_upto_region 3 with (first | (go_at_call 9; ((with_reducible refine (awake_any _ (HTW.out _ HX0.out.bel)).mono ?_); rintro e w1 ⟨rfl, hq1⟩; have HX := Lib.hid (HX0.out.below hq1); obtain ⟨p1, p2, p3, p4, p5, p6, p7, p8, p9⟩ := HX.out.nine)) | (go_at_call 10; ((with_reducible refine (c1 _ (HTW.out _ HX.out.bel)).mono ?_); rintro e w2 ⟨rfl, hq⟩; have Y1 := Lib.hid (HX.out.below hq); obtain ⟨p1, p2, p3, p4, p5, p6, p7, p8, p9⟩ := Y1.out.nine)) | (go_at_call 10; ((with_reducible refine (c2 _ (HTW.out _ Y1.out.bel)).mono ?_); rintro e w3 ⟨rfl, hq⟩; have Y2 := Lib.hid (Y1.out.below hq); obtain ⟨p1, p2, p3, p4, p5, p6, p7, p8, p9⟩ := Y2.out.nine)) | (go_at_call 10; ((with_reducible refine (c3 _ (HTW.out _ Y2.out.bel)).mono ?_); rintro e w4 ⟨rfl, hq⟩; have Y3 := Lib.hid (Y2.out.below hq); obtain ⟨p1, p2, p3, p4, p5, p6, p7, p8, p9⟩ := Y3.out.nine)))
      have YD : Hid (Boxes3 w w4.drew k1 k2 k3 b1 b2 b3 t1 t2 t3) := Y3.out.drew
      go_region_held3 (fun w' => w'.cell? ⟨w.heap.size, 0, none⟩ = some (.int .i64 k1) ∧ w'.cell? ⟨w.heap.size, 1, none⟩ = some (.int .u64 b1) ∧ w'.cell? ⟨w.heap.size, 2, none⟩ = some (.string t1) ∧ w'.cell? ⟨w.heap.size + 1, 0, none⟩ = some (.int .i64 k2) ∧ w'.cell? ⟨w.heap.size + 1, 1, none⟩ = some (.int .u64 b2) ∧ w'.cell? ⟨w.heap.size + 1, 2, none⟩ = some (.string t2)) (first | exact ⟨Y3.out.nine.1, Y3.out.nine.2.1, Y3.out.nine.2.2.1, Y3.out.nine.2.2.2.1, Y3.out.nine.2.2.2.2.1, Y3.out.nine.2.2.2.2.2.1⟩ | exact ⟨Z1.out.nine.1, Z1.out.nine.2.1, Z1.out.nine.2.2.1, Z1.out.nine.2.2.2.1, Z1.out.nine.2.2.2.2.1, Z1.out.nine.2.2.2.2.2.1⟩ | exact ⟨Z2.out.nine.1, Z2.out.nine.2.1, Z2.out.nine.2.2.1, Z2.out.nine.2.2.2.1, Z2.out.nine.2.2.2.2.1, Z2.out.nine.2.2.2.2.2.1⟩ | exact ⟨Z3.out.nine.1, Z3.out.nine.2.1, Z3.out.nine.2.2.1, Z3.out.nine.2.2.2.1, Z3.out.nine.2.2.2.2.1, Z3.out.nine.2.2.2.2.2.1⟩) (first | (go_at_call 14; ((with_reducible refine (cAB _ (HTW.out _ YD.out.bel)).mono ?_); rintro e w5 ⟨rfl, hq⟩; have Z1 := Lib.hid (YD.out.below hq))) | (go_at_call 14; ((with_reducible refine (cBA _ (HTW.out _ Z1.out.bel)).mono ?_); rintro e w6 ⟨rfl, hq⟩; have Z2 := Lib.hid (Z1.out.below hq))) | (go_at_call 14; ((with_reducible refine (cAB _ (HTW.out _ Z2.out.bel)).mono ?_); rintro e w7 ⟨rfl, hq⟩; have Z3 := Lib.hid (Z2.out.below hq))))
      clear p1 p2 p3 p4 p5 p6 p7 p8 p9
      obtain ⟨p1, p2, p3, p4, p5, p6, p7, p8, p9⟩ := Z3.out.nine
      go_wp2_with (first | (go_at_call 14; ((with_reducible refine (cAB _ (HTW.out _ Z3.out.bel)).mono ?_); rintro e w8 ⟨rfl, hq⟩; have Z4 := Lib.hid (Z3.out.below hq); obtain ⟨p1, p2, p3, p4, p5, p6, p7, p8, p9⟩ := Z4.out.nine)) | (go_at_call 14; ((with_reducible refine (cBC _ (HTW.out _ Z4.out.bel)).mono ?_); rintro e w9 ⟨rfl, hq⟩; have Z5 := Lib.hid (Z4.out.below hq); obtain ⟨p1, p2, p3, p4, p5, p6, p7, p8, p9⟩ := Z5.out.nine)) | (go_at_call 14; ((with_reducible refine (cAC _ (HTW.out _ Z5.out.bel)).mono ?_); rintro e w10 ⟨rfl, hq⟩; have Z6 := Lib.hid (Z5.out.below hq); obtain ⟨p1, p2, p3, p4, p5, p6, p7, p8, p9⟩ := Z6.out.nine)))
      all_goals
        go_ret
        first | exact ⟨rfl, Z6.out.bel⟩ | exact ⟨rfl, Z5.out.bel⟩ | exact ⟨rfl, Z4.out.bel⟩
    · have u2 : decide (0 < C2) = false := by simpa using g2
      have g3 := ET.out (by omega) g2
      have u3 : decide (C3 ≤ 0) = true := by simpa using g3
      go_enter Tryd.func7, Tryd.ntmps7
      go_upto_region 3 with (first | (go_at_call 9; ((with_reducible refine (awake_any _ (HTW.out _ HX0.out.bel)).mono ?_); rintro e w1 ⟨rfl, hq1⟩; have HX := Lib.hid (HX0.out.below hq1); obtain ⟨p1, p2, p3, p4, p5, p6, p7, p8, p9⟩ := HX.out.nine)) | (go_at_call 10; ((with_reducible refine (c1 _ (HTW.out _ HX.out.bel)).mono ?_); rintro e w2 ⟨rfl, hq⟩; have Y1 := Lib.hid (HX.out.below hq); obtain ⟨p1, p2, p3, p4, p5, p6, p7, p8, p9⟩ := Y1.out.nine)) | (go_at_call 10; ((with_reducible refine (c2 _ (HTW.out _ Y1.out.bel)).mono ?_); rintro e w3 ⟨rfl, hq⟩; have Y2 := Lib.hid (Y1.out.below hq); obtain ⟨p1, p2, p3, p4, p5, p6, p7, p8, p9⟩ := Y2.out.nine)) | (go_at_call 10; ((with_reducible refine (c3 _ (HTW.out _ Y2.out.bel)).mono ?_); rintro e w4 ⟨rfl, hq⟩; have Y3 := Lib.hid (Y2.out.below hq); obtain ⟨p1, p2, p3, p4, p5, p6, p7, p8, p9⟩ := Y3.out.nine)))
      have YD : Hid (Boxes3 w w4.drew k1 k2 k3 b1 b2 b3 t1 t2 t3) := Y3.out.drew
      go_region_held3 (fun w' => w'.cell? ⟨w.heap.size, 0, none⟩ = some (.int .i64 k1) ∧ w'.cell? ⟨w.heap.size, 1, none⟩ = some (.int .u64 b1) ∧ w'.cell? ⟨w.heap.size, 2, none⟩ = some (.string t1) ∧ w'.cell? ⟨w.heap.size + 1, 0, none⟩ = some (.int .i64 k2) ∧ w'.cell? ⟨w.heap.size + 1, 1, none⟩ = some (.int .u64 b2) ∧ w'.cell? ⟨w.heap.size + 1, 2, none⟩ = some (.string t2)) (first | exact ⟨Y3.out.nine.1, Y3.out.nine.2.1, Y3.out.nine.2.2.1, Y3.out.nine.2.2.2.1, Y3.out.nine.2.2.2.2.1, Y3.out.nine.2.2.2.2.2.1⟩ | exact ⟨Z1.out.nine.1, Z1.out.nine.2.1, Z1.out.nine.2.2.1, Z1.out.nine.2.2.2.1, Z1.out.nine.2.2.2.2.1, Z1.out.nine.2.2.2.2.2.1⟩ | exact ⟨Z2.out.nine.1, Z2.out.nine.2.1, Z2.out.nine.2.2.1, Z2.out.nine.2.2.2.1, Z2.out.nine.2.2.2.2.1, Z2.out.nine.2.2.2.2.2.1⟩ | exact ⟨Z3.out.nine.1, Z3.out.nine.2.1, Z3.out.nine.2.2.1, Z3.out.nine.2.2.2.1, Z3.out.nine.2.2.2.2.1, Z3.out.nine.2.2.2.2.2.1⟩) (first | (go_at_call 14; ((with_reducible refine (cAB _ (HTW.out _ YD.out.bel)).mono ?_); rintro e w5 ⟨rfl, hq⟩; have Z1 := Lib.hid (YD.out.below hq))) | (go_at_call 14; ((with_reducible refine (cBA _ (HTW.out _ Z1.out.bel)).mono ?_); rintro e w6 ⟨rfl, hq⟩; have Z2 := Lib.hid (Z1.out.below hq))) | (go_at_call 14; ((with_reducible refine (cAB _ (HTW.out _ Z2.out.bel)).mono ?_); rintro e w7 ⟨rfl, hq⟩; have Z3 := Lib.hid (Z2.out.below hq))))
      clear p1 p2 p3 p4 p5 p6 p7 p8 p9
      obtain ⟨p1, p2, p3, p4, p5, p6, p7, p8, p9⟩ := Z3.out.nine
      go_wp2_with (first | (go_at_call 14; ((with_reducible refine (cAB _ (HTW.out _ Z3.out.bel)).mono ?_); rintro e w8 ⟨rfl, hq⟩; have Z4 := Lib.hid (Z3.out.below hq); obtain ⟨p1, p2, p3, p4, p5, p6, p7, p8, p9⟩ := Z4.out.nine)) | (go_at_call 14; ((with_reducible refine (cBC _ (HTW.out _ Z4.out.bel)).mono ?_); rintro e w9 ⟨rfl, hq⟩; have Z5 := Lib.hid (Z4.out.below hq); obtain ⟨p1, p2, p3, p4, p5, p6, p7, p8, p9⟩ := Z5.out.nine)) | (go_at_call 14; ((with_reducible refine (cAC _ (HTW.out _ Z5.out.bel)).mono ?_); rintro e w10 ⟨rfl, hq⟩; have Z6 := Lib.hid (Z5.out.below hq); obtain ⟨p1, p2, p3, p4, p5, p6, p7, p8, p9⟩ := Z6.out.nine)))
      all_goals
        go_ret
        first | exact ⟨rfl, Z6.out.bel⟩ | exact ⟨rfl, Z5.out.bel⟩ | exact ⟨rfl, Z4.out.bel⟩
  · have hC : C1 ≠ 0 := fun h => he (EZ.out.1 h)
    have v1 : (C1 == 0) = false := by simpa using hC
    have hq : (k1 == k2) = false ∨ ((k1 == k2) = true ∧ ((b1 : Int) == (b2 : Int)) = false) ∨ ((k1 == k2) = true ∧ ((b1 : Int) == (b2 : Int)) = true ∧ (t1.toList == t2.toList) = false) := by
      by_cases e1 : k1 = k2
      · by_cases e2 : b1 = b2
        · right; right; refine ⟨by simpa using e1, by simp; omega, ?_⟩
          rw [beq_eq_false_iff_ne]; intro e3; exact he ⟨e1, e2, e3⟩
        · right; left; exact ⟨by simpa using e1, by simp; omega⟩
      · left; simpa using e1
    clear EZ he
    rcases hq with hq | ⟨q1, hq⟩ | ⟨q1, q2, hq⟩
    all_goals
      by_cases g1 : 0 < C1
      · have u1 : decide (0 < C1) = true := by simpa using g1
        go_enter Tryd.func7, Tryd.ntmps7
        go_upto_region 3 with (first | (go_at_call 9; ((with_reducible refine (awake_any _ (HTW.out _ HX0.out.bel)).mono ?_); rintro e w1 ⟨rfl, hq1⟩; have HX := Lib.hid (HX0.out.below hq1); obtain ⟨p1, p2, p3, p4, p5, p6, p7, p8, p9⟩ := HX.out.nine)) | (go_at_call 10; ((with_reducible refine (c1 _ (HTW.out _ HX.out.bel)).mono ?_); rintro e w2 ⟨rfl, hq⟩; have Y1 := Lib.hid (HX.out.below hq); obtain ⟨p1, p2, p3, p4, p5, p6, p7, p8, p9⟩ := Y1.out.nine)) | (go_at_call 10; ((with_reducible refine (c2 _ (HTW.out _ Y1.out.bel)).mono ?_); rintro e w3 ⟨rfl, hq⟩; have Y2 := Lib.hid (Y1.out.below hq); obtain ⟨p1, p2, p3, p4, p5, p6, p7, p8, p9⟩ := Y2.out.nine)) | (go_at_call 10; ((with_reducible refine (c3 _ (HTW.out _ Y2.out.bel)).mono ?_); rintro e w4 ⟨rfl, hq⟩; have Y3 := Lib.hid (Y2.out.below hq); obtain ⟨p1, p2, p3, p4, p5, p6, p7, p8, p9⟩ := Y3.out.nine)))
        have YD : Hid (Boxes3 w w4.drew k1 k2 k3 b1 b2 b3 t1 t2 t3) := Y3.out.drew
        go_region_held3 (fun w' => w'.cell? ⟨w.heap.size, 0, none⟩ = some (.int .i64 k1) ∧ w'.cell? ⟨w.heap.size, 1, none⟩ = some (.int .u64 b1) ∧ w'.cell? ⟨w.heap.size, 2, none⟩ = some (.string t1) ∧ w'.cell? ⟨w.heap.size + 1, 0, none⟩ = some (.int .i64 k2) ∧ w'.cell? ⟨w.heap.size + 1, 1, none⟩ = some (.int .u64 b2) ∧ w'.cell? ⟨w.heap.size + 1, 2, none⟩ = some (.string t2)) (first | exact ⟨Y3.out.nine.1, Y3.out.nine.2.1, Y3.out.nine.2.2.1, Y3.out.nine.2.2.2.1, Y3.out.nine.2.2.2.2.1, Y3.out.nine.2.2.2.2.2.1⟩ | exact ⟨Z1.out.nine.1, Z1.out.nine.2.1, Z1.out.nine.2.2.1, Z1.out.nine.2.2.2.1, Z1.out.nine.2.2.2.2.1, Z1.out.nine.2.2.2.2.2.1⟩ | exact ⟨Z2.out.nine.1, Z2.out.nine.2.1, Z2.out.nine.2.2.1, Z2.out.nine.2.2.2.1, Z2.out.nine.2.2.2.2.1, Z2.out.nine.2.2.2.2.2.1⟩ | exact ⟨Z3.out.nine.1, Z3.out.nine.2.1, Z3.out.nine.2.2.1, Z3.out.nine.2.2.2.1, Z3.out.nine.2.2.2.2.1, Z3.out.nine.2.2.2.2.2.1⟩) (first | (go_at_call 14; ((with_reducible refine (cAB _ (HTW.out _ YD.out.bel)).mono ?_); rintro e w5 ⟨rfl, hq⟩; have Z1 := Lib.hid (YD.out.below hq))) | (go_at_call 14; ((with_reducible refine (cBA _ (HTW.out _ Z1.out.bel)).mono ?_); rintro e w6 ⟨rfl, hq⟩; have Z2 := Lib.hid (Z1.out.below hq))) | (go_at_call 14; ((with_reducible refine (cAB _ (HTW.out _ Z2.out.bel)).mono ?_); rintro e w7 ⟨rfl, hq⟩; have Z3 := Lib.hid (Z2.out.below hq))))
        clear p1 p2 p3 p4 p5 p6 p7 p8 p9
        obtain ⟨p1, p2, p3, p4, p5, p6, p7, p8, p9⟩ := Z3.out.nine
        go_wp2_with (first | (go_at_call 14; ((with_reducible refine (cAB _ (HTW.out _ Z3.out.bel)).mono ?_); rintro e w8 ⟨rfl, hq⟩; have Z4 := Lib.hid (Z3.out.below hq); obtain ⟨p1, p2, p3, p4, p5, p6, p7, p8, p9⟩ := Z4.out.nine)) | (go_at_call 14; ((with_reducible refine (cBC _ (HTW.out _ Z4.out.bel)).mono ?_); rintro e w9 ⟨rfl, hq⟩; have Z5 := Lib.hid (Z4.out.below hq); obtain ⟨p1, p2, p3, p4, p5, p6, p7, p8, p9⟩ := Z5.out.nine)) | (go_at_call 14; ((with_reducible refine (cAC _ (HTW.out _ Z5.out.bel)).mono ?_); rintro e w10 ⟨rfl, hq⟩; have Z6 := Lib.hid (Z5.out.below hq); obtain ⟨p1, p2, p3, p4, p5, p6, p7, p8, p9⟩ := Z6.out.nine)))
        all_goals
          go_ret
          first | exact ⟨rfl, Z6.out.bel⟩ | exact ⟨rfl, Z5.out.bel⟩ | exact ⟨rfl, Z4.out.bel⟩
      · have u1 : decide (0 < C1) = false := by simpa using g1
        by_cases g2 : 0 < C2
        · have u2 : decide (0 < C2) = true := by simpa using g2
          go_enter Tryd.func7, Tryd.ntmps7
          go_upto_region 3 with (first | (go_at_call 9; ((with_reducible refine (awake_any _ (HTW.out _ HX0.out.bel)).mono ?_); rintro e w1 ⟨rfl, hq1⟩; have HX := Lib.hid (HX0.out.below hq1); obtain ⟨p1, p2, p3, p4, p5, p6, p7, p8, p9⟩ := HX.out.nine)) | (go_at_call 10; ((with_reducible refine (c1 _ (HTW.out _ HX.out.bel)).mono ?_); rintro e w2 ⟨rfl, hq⟩; have Y1 := Lib.hid (HX.out.below hq); obtain ⟨p1, p2, p3, p4, p5, p6, p7, p8, p9⟩ := Y1.out.nine)) | (go_at_call 10; ((with_reducible refine (c2 _ (HTW.out _ Y1.out.bel)).mono ?_); rintro e w3 ⟨rfl, hq⟩; have Y2 := Lib.hid (Y1.out.below hq); obtain ⟨p1, p2, p3, p4, p5, p6, p7, p8, p9⟩ := Y2.out.nine)) | (go_at_call 10; ((with_reducible refine (c3 _ (HTW.out _ Y2.out.bel)).mono ?_); rintro e w4 ⟨rfl, hq⟩; have Y3 := Lib.hid (Y2.out.below hq); obtain ⟨p1, p2, p3, p4, p5, p6, p7, p8, p9⟩ := Y3.out.nine)))
          have YD : Hid (Boxes3 w w4.drew k1 k2 k3 b1 b2 b3 t1 t2 t3) := Y3.out.drew
          go_region_held3 (fun w' => w'.cell? ⟨w.heap.size, 0, none⟩ = some (.int .i64 k1) ∧ w'.cell? ⟨w.heap.size, 1, none⟩ = some (.int .u64 b1) ∧ w'.cell? ⟨w.heap.size, 2, none⟩ = some (.string t1) ∧ w'.cell? ⟨w.heap.size + 1, 0, none⟩ = some (.int .i64 k2) ∧ w'.cell? ⟨w.heap.size + 1, 1, none⟩ = some (.int .u64 b2) ∧ w'.cell? ⟨w.heap.size + 1, 2, none⟩ = some (.string t2)) (first | exact ⟨Y3.out.nine.1, Y3.out.nine.2.1, Y3.out.nine.2.2.1, Y3.out.nine.2.2.2.1, Y3.out.nine.2.2.2.2.1, Y3.out.nine.2.2.2.2.2.1⟩ | exact ⟨Z1.out.nine.1, Z1.out.nine.2.1, Z1.out.nine.2.2.1, Z1.out.nine.2.2.2.1, Z1.out.nine.2.2.2.2.1, Z1.out.nine.2.2.2.2.2.1⟩ | exact ⟨Z2.out.nine.1, Z2.out.nine.2.1, Z2.out.nine.2.2.1, Z2.out.nine.2.2.2.1, Z2.out.nine.2.2.2.2.1, Z2.out.nine.2.2.2.2.2.1⟩ | exact ⟨Z3.out.nine.1, Z3.out.nine.2.1, Z3.out.nine.2.2.1, Z3.out.nine.2.2.2.1, Z3.out.nine.2.2.2.2.1, Z3.out.nine.2.2.2.2.2.1⟩) (first | (go_at_call 14; ((with_reducible refine (cAB _ (HTW.out _ YD.out.bel)).mono ?_); rintro e w5 ⟨rfl, hq⟩; have Z1 := Lib.hid (YD.out.below hq))) | (go_at_call 14; ((with_reducible refine (cBA _ (HTW.out _ Z1.out.bel)).mono ?_); rintro e w6 ⟨rfl, hq⟩; have Z2 := Lib.hid (Z1.out.below hq))) | (go_at_call 14; ((with_reducible refine (cAB _ (HTW.out _ Z2.out.bel)).mono ?_); rintro e w7 ⟨rfl, hq⟩; have Z3 := Lib.hid (Z2.out.below hq))))
          clear p1 p2 p3 p4 p5 p6 p7 p8 p9
          obtain ⟨p1, p2, p3, p4, p5, p6, p7, p8, p9⟩ := Z3.out.nine
          go_wp2_with (first | (go_at_call 14; ((with_reducible refine (cAB _ (HTW.out _ Z3.out.bel)).mono ?_); rintro e w8 ⟨rfl, hq⟩; have Z4 := Lib.hid (Z3.out.below hq); obtain ⟨p1, p2, p3, p4, p5, p6, p7, p8, p9⟩ := Z4.out.nine)) | (go_at_call 14; ((with_reducible refine (cBC _ (HTW.out _ Z4.out.bel)).mono ?_); rintro e w9 ⟨rfl, hq⟩; have Z5 := Lib.hid (Z4.out.below hq); obtain ⟨p1, p2, p3, p4, p5, p6, p7, p8, p9⟩ := Z5.out.nine)) | (go_at_call 14; ((with_reducible refine (cAC _ (HTW.out _ Z5.out.bel)).mono ?_); rintro e w10 ⟨rfl, hq⟩; have Z6 := Lib.hid (Z5.out.below hq); obtain ⟨p1, p2, p3, p4, p5, p6, p7, p8, p9⟩ := Z6.out.nine)))
          all_goals
            go_ret
            first | exact ⟨rfl, Z6.out.bel⟩ | exact ⟨rfl, Z5.out.bel⟩ | exact ⟨rfl, Z4.out.bel⟩
        · have u2 : decide (0 < C2) = false := by simpa using g2
          have g3 := ET.out g1 g2
          have u3 : decide (C3 ≤ 0) = true := by simpa using g3
          go_enter Tryd.func7, Tryd.ntmps7
          go_upto_region 3 with (first | (go_at_call 9; ((with_reducible refine (awake_any _ (HTW.out _ HX0.out.bel)).mono ?_); rintro e w1 ⟨rfl, hq1⟩; have HX := Lib.hid (HX0.out.below hq1); obtain ⟨p1, p2, p3, p4, p5, p6, p7, p8, p9⟩ := HX.out.nine)) | (go_at_call 10; ((with_reducible refine (c1 _ (HTW.out _ HX.out.bel)).mono ?_); rintro e w2 ⟨rfl, hq⟩; have Y1 := Lib.hid (HX.out.below hq); obtain ⟨p1, p2, p3, p4, p5, p6, p7, p8, p9⟩ := Y1.out.nine)) | (go_at_call 10; ((with_reducible refine (c2 _ (HTW.out _ Y1.out.bel)).mono ?_); rintro e w3 ⟨rfl, hq⟩; have Y2 := Lib.hid (Y1.out.below hq); obtain ⟨p1, p2, p3, p4, p5, p6, p7, p8, p9⟩ := Y2.out.nine)) | (go_at_call 10; ((with_reducible refine (c3 _ (HTW.out _ Y2.out.bel)).mono ?_); rintro e w4 ⟨rfl, hq⟩; have Y3 := Lib.hid (Y2.out.below hq); obtain ⟨p1, p2, p3, p4, p5, p6, p7, p8, p9⟩ := Y3.out.nine)))
          have YD : Hid (Boxes3 w w4.drew k1 k2 k3 b1 b2 b3 t1 t2 t3) := Y3.out.drew
          go_region_held3 (fun w' => w'.cell? ⟨w.heap.size, 0, none⟩ = some (.int .i64 k1) ∧ w'.cell? ⟨w.heap.size, 1, none⟩ = some (.int .u64 b1) ∧ w'.cell? ⟨w.heap.size, 2, none⟩ = some (.string t1) ∧ w'.cell? ⟨w.heap.size + 1, 0, none⟩ = some (.int .i64 k2) ∧ w'.cell? ⟨w.heap.size + 1, 1, none⟩ = some (.int .u64 b2) ∧ w'.cell? ⟨w.heap.size + 1, 2, none⟩ = some (.string t2)) (first | exact ⟨Y3.out.nine.1, Y3.out.nine.2.1, Y3.out.nine.2.2.1, Y3.out.nine.2.2.2.1, Y3.out.nine.2.2.2.2.1, Y3.out.nine.2.2.2.2.2.1⟩ | exact ⟨Z1.out.nine.1, Z1.out.nine.2.1, Z1.out.nine.2.2.1, Z1.out.nine.2.2.2.1, Z1.out.nine.2.2.2.2.1, Z1.out.nine.2.2.2.2.2.1⟩ | exact ⟨Z2.out.nine.1, Z2.out.nine.2.1, Z2.out.nine.2.2.1, Z2.out.nine.2.2.2.1, Z2.out.nine.2.2.2.2.1, Z2.out.nine.2.2.2.2.2.1⟩ | exact ⟨Z3.out.nine.1, Z3.out.nine.2.1, Z3.out.nine.2.2.1, Z3.out.nine.2.2.2.1, Z3.out.nine.2.2.2.2.1, Z3.out.nine.2.2.2.2.2.1⟩) (first | (go_at_call 14; ((with_reducible refine (cAB _ (HTW.out _ YD.out.bel)).mono ?_); rintro e w5 ⟨rfl, hq⟩; have Z1 := Lib.hid (YD.out.below hq))) | (go_at_call 14; ((with_reducible refine (cBA _ (HTW.out _ Z1.out.bel)).mono ?_); rintro e w6 ⟨rfl, hq⟩; have Z2 := Lib.hid (Z1.out.below hq))) | (go_at_call 14; ((with_reducible refine (cAB _ (HTW.out _ Z2.out.bel)).mono ?_); rintro e w7 ⟨rfl, hq⟩; have Z3 := Lib.hid (Z2.out.below hq))))
          clear p1 p2 p3 p4 p5 p6 p7 p8 p9
          obtain ⟨p1, p2, p3, p4, p5, p6, p7, p8, p9⟩ := Z3.out.nine
          go_wp2_with (first | (go_at_call 14; ((with_reducible refine (cAB _ (HTW.out _ Z3.out.bel)).mono ?_); rintro e w8 ⟨rfl, hq⟩; have Z4 := Lib.hid (Z3.out.below hq); obtain ⟨p1, p2, p3, p4, p5, p6, p7, p8, p9⟩ := Z4.out.nine)) | (go_at_call 14; ((with_reducible refine (cBC _ (HTW.out _ Z4.out.bel)).mono ?_); rintro e w9 ⟨rfl, hq⟩; have Z5 := Lib.hid (Z4.out.below hq); obtain ⟨p1, p2, p3, p4, p5, p6, p7, p8, p9⟩ := Z5.out.nine)) | (go_at_call 14; ((with_reducible refine (cAC _ (HTW.out _ Z5.out.bel)).mono ?_); rintro e w10 ⟨rfl, hq⟩; have Z6 := Lib.hid (Z5.out.below hq); obtain ⟨p1, p2, p3, p4, p5, p6, p7, p8, p9⟩ := Z6.out.nine)))
          all_goals
            go_ret
            first | exact ⟨rfl, Z6.out.bel⟩ | exact ⟨rfl, Z5.out.bel⟩ | exact ⟨rfl, Z4.out.bel⟩

theorem order_walk (k1 k2 k3 : Int) (b1 b2 b3 : Nat) (t1 t2 t3 : ByteArray) (w : World) (hb1 : b1 < 18446744073709551616) (hb2 : b2 < 18446744073709551616) (hb3 : b3 < 18446744073709551616) (ht1 : t1.size ≤ maxLen) (ht2 : t2.size ≤ maxLen) (ht3 : t3.size ≤ maxLen) (hT : Tabs w) : Calls Tryd.prog 7 #[.agg #[.int .i64 k1, .int .u64 b1, .string t1], .agg #[.int .i64 k2, .int .u64 b2, .string t2], .agg #[.int .i64 k3, .int .u64 b3, .string t3]] w fun e w' => e = .returned (.bool true) ∧ Below w.heap.size w w' := by
  by_cases h : t1.size ≤ 1000 ∧ t2.size ≤ 1000 ∧ t3.size ≤ 1000
  · obtain ⟨h1, h2, h3⟩ := h
    by_cases f : formedB ⟨k1, b1, t1.data.toList⟩ = true ∧ formedB ⟨k2, b2, t2.data.toList⟩ = true ∧ formedB ⟨k3, b3, t3.data.toList⟩ = true
    · obtain ⟨f1, f2, f3⟩ := f
      exact order_main k1 k2 k3 b1 b2 b3 t1 t2 t3 w hb1 hb2 hb3 ht1 ht2 ht3 hT h1 h2 h3 f1 f2 f3
    · exact order_not k1 k2 k3 b1 b2 b3 t1 t2 t3 w hb1 hb2 hb3 ht1 ht2 ht3 hT h1 h2 h3 f
  · exact order_big k1 k2 k3 b1 b2 b3 t1 t2 t3 w hb1 hb2 hb3 ht1 ht2 ht3 hT h
end Go.Proofs.YtmaohddmhdhkkaaDoor
