/- The walk of the statement ValueForms. Conditions: what came in fits its kinds; utf8's tables. -/
import Derived.Test.YtmaohddmhdhkkaaDoorValueAwake

import Derived.Deep.RegionHeld3

namespace Go.Proofs.YtmaohddmhdhkkaaDoor

open Go.RowKit

set_option maxHeartbeats 2000000 in
theorem forms_walk (k k' : Int) (b b' : Nat) (t t' s : ByteArray) (w : World) (hb : b < 18446744073709551616) (ht : t.size ≤ maxLen) (hb' : b' < 18446744073709551616) (ht' : t'.size ≤ maxLen) (hs : s.size ≤ maxLen) (hT : Tabs w) :
    Calls Tryd.prog 3 #[.agg #[.int .i64 k, .int .u64 b, .string t], .agg #[.int .i64 k', .int .u64 b', .string t'], .string s] w fun e w' => e = .returned (.bool true) ∧ Below w.heap.size w w' := by
  have z1 := ht; have z2 := ht'; have z3 := hs
  unfold maxLen at z1 z2 z3
  have hX0 := boxes_new w (.int .i64 k) (.int .u64 b) (.string t) (.int .i64 k') (.int .u64 b') (.string t') 24
  have hTW : ∀ W, Below w.heap.size w W → Tabs W := fun W hB => hT.below hB
  have HTW := Lib.hid hTW
  clear hTW hT
  by_cases h1 : t.size ≤ 1000 ∧ t'.size ≤ 1000 ∧ s.size ≤ 1000
  · obtain ⟨h1, h2, h3⟩ := h1
    have d1 : decide ((1000 : Int) < (t.size : Int)) = false := by simp; omega
    have d2 : decide ((1000 : Int) < (t'.size : Int)) = false := by simp; omega
    have d3 : decide ((1000 : Int) < (s.size : Int)) = false := by simp; omega
    have cF := fun W h => formed_any k b t W hb ht h
    have cF' := fun W => refFormed_any k b t W hb ht
    have cK := fun W => key_any s W hs
    have cK' := fun W => refKey_any s W hs
    have cC := fun W h => compare_any k k' b b' t t' W hb ht hb' ht' h
    have cC' := fun W => refCompare_any k k' b b' t t' W hb ht hb' ht'
    generalize formedB ⟨k, b, t.data.toList⟩ = F at *
    generalize keyB s.data.toList = K at *
    generalize cmpV ⟨k, b, t.data.toList⟩ ⟨k', b', t'.data.toList⟩ = C at *
    have HX0 := Lib.hid hX0
    clear hX0
    go_enter Tryd.func3, Tryd.ntmps3
    go_upto_region 3 with (go_at_call 9; ((with_reducible refine (awake_any _ (HTW.out _ HX0.out.bel)).mono ?_); rintro e w1 ⟨rfl, hb1⟩; have X1 := HX0.out.below hb1; have HX := Lib.hid X1; obtain ⟨⟨a1, a2, a3⟩, ⟨b1, b2, b3⟩, _, _⟩ := X1))
    have s1 := HX.out.six
    have XD : Boxes w w1.drew (.int .i64 k) (.int .u64 b) (.string t) (.int .i64 k') (.int .u64 b') (.string t') := HX.out.drewN 1
    have HD := Lib.hid XD
    clear XD
    clear a1 a2 a3 b1 b2 b3
    clear d1 d2 d3 z1 z2 z3
    cases F <;> cases K
    all_goals
      go_region_held3 (fun w' => w'.cell? ⟨w.heap.size, 0, none⟩ = some (.int .i64 k) ∧ w'.cell? ⟨w.heap.size, 1, none⟩ = some (.int .u64 b) ∧ w'.cell? ⟨w.heap.size, 2, none⟩ = some (.string t) ∧ w'.cell? ⟨w.heap.size + 1, 0, none⟩ = some (.int .i64 k') ∧ w'.cell? ⟨w.heap.size + 1, 1, none⟩ = some (.int .u64 b') ∧ w'.cell? ⟨w.heap.size + 1, 2, none⟩ = some (.string t'))
        (first | exact s1 | exact s2 | exact s3 | exact s4 | exact s5 | exact s6 | exact s7)
        (first | (go_at_call 10; ((with_reducible refine (cF _ (HTW.out _ (HD.out).bel)).mono ?_); rintro e w2 ⟨rfl, hb2⟩; have X2 := Lib.hid ((HD.out).below hb2); have s2 := X2.out.six)) | (go_at_call 11; ((with_reducible refine (cF' _).mono ?_); rintro e w3 ⟨rfl, hb3⟩; have X3 := Lib.hid (X2.out.below hb3); have s3 := X3.out.six)) | (go_at_call 12; ((with_reducible refine (cK _).mono ?_); rintro e w4 ⟨rfl, hb4⟩; have X4 := Lib.hid (X3.out.below hb4); have s4 := X4.out.six)) | (go_at_call 13; ((with_reducible refine (cK' _).mono ?_); rintro e w' ⟨rfl, rfl⟩)) | (go_at_call 14; ((with_reducible refine (cC _ (HTW.out _ X4.out.bel)).mono ?_); rintro e w5 ⟨rfl, hb5⟩; have X5 := Lib.hid (X4.out.below hb5); have s5 := X5.out.six)) | (go_at_call 15; ((with_reducible refine (cC' _).mono ?_); rintro e w6 ⟨rfl, hb6⟩; have X6 := Lib.hid (X5.out.below hb6); have s6 := X6.out.six)))
      go_wp2
      go_ret
      exact ⟨rfl, X6.out.bel⟩
  · by_cases h2 : t.size ≤ 1000
    · have d1 : decide ((1000 : Int) < (t.size : Int)) = false := by simp; omega
      by_cases h3 : t'.size ≤ 1000
      · have d2 : decide ((1000 : Int) < (t'.size : Int)) = false := by simp; omega
        have h4 : ¬ s.size ≤ 1000 := fun h => h1 ⟨h2, h3, h⟩
        have d3 : decide ((1000 : Int) < (s.size : Int)) = true := by simp; omega
        have HX0 := Lib.hid hX0
        clear hX0 h1
        go_enter Tryd.func3, Tryd.ntmps3
        go_upto_region 2 with (go_at_call 9; ((with_reducible refine (awake_any _ (HTW.out _ HX0.out.bel)).mono ?_); rintro e w1 ⟨rfl, hb1⟩; have X1 := HX0.out.below hb1; have HX := Lib.hid X1; obtain ⟨⟨a1, a2, a3⟩, ⟨b1, b2, b3⟩, _, _⟩ := X1))
        go_wp2_with (go_at_call 9; ((with_reducible refine (awake_any _ (HTW.out _ HX.out.bel)).mono ?_); rintro e w2 ⟨rfl, hb2⟩))
        go_ret
        exact ⟨rfl, (HX.out.below hb2).bel⟩
      · have d2 : decide ((1000 : Int) < (t'.size : Int)) = true := by simp; omega
        have HX0 := Lib.hid hX0
        clear hX0 h1
        go_enter Tryd.func3, Tryd.ntmps3
        go_upto_region 2 with (go_at_call 9; ((with_reducible refine (awake_any _ (HTW.out _ HX0.out.bel)).mono ?_); rintro e w1 ⟨rfl, hb1⟩; have X1 := HX0.out.below hb1; have HX := Lib.hid X1; obtain ⟨⟨a1, a2, a3⟩, ⟨b1, b2, b3⟩, _, _⟩ := X1))
        go_wp2_with (go_at_call 9; ((with_reducible refine (awake_any _ (HTW.out _ HX.out.bel)).mono ?_); rintro e w2 ⟨rfl, hb2⟩))
        go_ret
        exact ⟨rfl, (HX.out.below hb2).bel⟩
    · have d1 : decide ((1000 : Int) < (t.size : Int)) = true := by simp; omega
      have HX0 := Lib.hid hX0
      clear hX0 h1
      go_enter Tryd.func3, Tryd.ntmps3
      go_upto_region 2 with (go_at_call 9; ((with_reducible refine (awake_any _ (HTW.out _ HX0.out.bel)).mono ?_); rintro e w1 ⟨rfl, hb1⟩; have X1 := HX0.out.below hb1; have HX := Lib.hid X1; obtain ⟨⟨a1, a2, a3⟩, ⟨b1, b2, b3⟩, _, _⟩ := X1))
      go_wp2_with (go_at_call 9; ((with_reducible refine (awake_any _ (HTW.out _ HX.out.bel)).mono ?_); rintro e w2 ⟨rfl, hb2⟩))
      go_ret
      exact ⟨rfl, (HX.out.below hb2).bel⟩
end Go.Proofs.YtmaohddmhdhkkaaDoor
