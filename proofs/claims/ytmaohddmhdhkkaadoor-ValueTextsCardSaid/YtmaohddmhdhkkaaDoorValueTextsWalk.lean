/- The walk of the statement ValueTexts. Conditions: what came in fits its kinds; utf8's tables. -/
import Derived.Test.YtmaohddmhdhkkaaDoorValueAwake
import Derived.Test.YtmaohddmhdhkkaaDoorValuePar

import Derived.Test.YtmaohddmhdhkkaaDoorValueBox

import Derived.Deep.RegionHeld3

namespace Go.Proofs.YtmaohddmhdhkkaaDoor

open Go.RowKit

/-- Three values in boxes anywhere. -/
def Any3 (w W : World) (g1 g2 g3 : Nat) (k1 k2 k3 : Int) (b1 b2 b3 : Nat) (t1 t2 t3 : ByteArray) : Prop :=
  BoxV W g1 k1 b1 t1 ∧ BoxV W g2 k2 b2 t2 ∧ BoxV W g3 k3 b3 t3 ∧ Below w.heap.size w W ∧ g1 < W.heap.size ∧ g2 < W.heap.size ∧ g3 < W.heap.size
section

variable {w W W' : World} {g1 g2 g3 : Nat} {k1 k2 k3 : Int} {b1 b2 b3 : Nat} {t1 t2 t3 : ByteArray}

theorem Any3.below (h : Any3 w W g1 g2 g3 k1 k2 k3 b1 b2 b3 t1 t2 t3) (hb : Below W.heap.size W W') : Any3 w W' g1 g2 g3 k1 k2 k3 b1 b2 b3 t1 t2 t3 := by
  obtain ⟨h1, h2, h3, hB, s1, s2, s3⟩ := h
  exact ⟨h1.below hb s1, h2.below hb s2, h3.below hb s3, hB.trans (hb.mono hB.size), Nat.lt_of_lt_of_le s1 hb.size, Nat.lt_of_lt_of_le s2 hb.size, Nat.lt_of_lt_of_le s3 hb.size⟩
theorem Any3.drew (h : Any3 w W g1 g2 g3 k1 k2 k3 b1 b2 b3 t1 t2 t3) : Any3 w W.drew g1 g2 g3 k1 k2 k3 b1 b2 b3 t1 t2 t3 := ⟨h.1, h.2.1, h.2.2.1, h.2.2.2.1.drew, h.2.2.2.2⟩
theorem Any3.bel (h : Any3 w W g1 g2 g3 k1 k2 k3 b1 b2 b3 t1 t2 t3) : Below w.heap.size w W := h.2.2.2.1
theorem Any3.nine (h : Any3 w W g1 g2 g3 k1 k2 k3 b1 b2 b3 t1 t2 t3) :
    W.cell? ⟨g1, 0, none⟩ = some (.int .i64 k1) ∧ W.cell? ⟨g1, 1, none⟩ = some (.int .u64 (b1 : Nat)) ∧ W.cell? ⟨g1, 2, none⟩ = some (.string t1) ∧
    W.cell? ⟨g2, 0, none⟩ = some (.int .i64 k2) ∧ W.cell? ⟨g2, 1, none⟩ = some (.int .u64 (b2 : Nat)) ∧ W.cell? ⟨g2, 2, none⟩ = some (.string t2) ∧
    W.cell? ⟨g3, 0, none⟩ = some (.int .i64 k3) ∧ W.cell? ⟨g3, 1, none⟩ = some (.int .u64 (b3 : Nat)) ∧ W.cell? ⟨g3, 2, none⟩ = some (.string t3) :=
  ⟨h.1.1, h.1.2.1, h.1.2.2, h.2.1.1, h.2.1.2.1, h.2.1.2.2, h.2.2.1.1, h.2.2.1.2.1, h.2.2.1.2.2⟩
end

set_option maxHeartbeats 1000000 in
theorem texts_walk (k : Int) (b : Nat) (t s : ByteArray) (w : World) (hb : b < 18446744073709551616) (ht : t.size ≤ maxLen) (hs : s.size ≤ maxLen) (hT : TabsT w) :
    Calls Tryd.prog 5 #[.agg #[.int .i64 k, .int .u64 b, .string t], .string s] w fun e w' => e = .returned (.bool true) ∧ Below w.heap.size w w' := by
  have z1 := ht; have z2 := hs
  unfold maxLen at z1 z2
  have HTW : Hid (∀ W, Below w.heap.size w W → TabsT W) := fun W hB => hT.below hB
  have HB0 : Hid (Below w.heap.size w (w.alloc (.cells #[.int .i64 k, .int .u64 b, .string t] 24))) := (Below.refl _ _).alloc (Nat.le_refl _) _
  have HV0 : Hid (BoxV (w.alloc (.cells #[.int .i64 k, .int .u64 b, .string t] 24)) w.heap.size k b t) := BoxV.new w k b t 24
  clear hT
  by_cases h1 : t.size ≤ 1000
  · have d1 : decide ((1000 : Int) < (t.size : Int)) = false := by simp; omega
    by_cases h2 : s.size ≤ 1000
    · have d2 : decide ((1000 : Int) < (s.size : Int)) = false := by simp; omega
      have cP := fun W h => parse_any s W (by omega) h
      have cP' := fun W => refParse_any s W hs
      have cS := fun W h => show_any k b t W hb ht h
      have cS' := fun W => refShow_any k b t W hb ht
      unfold Parsed at cP cP'
      generalize (⟨(showB ⟨k, b, t.data.toList⟩).toArray⟩ : ByteArray) = SS at *
      generalize (if parseOk s.data.toList then (0 : Int) else 2) = pc at *
      generalize (parseV s.data.toList).k = pk at *
      generalize (parseV s.data.toList).b = pb at *
      generalize (⟨(parseV s.data.toList).t.toArray⟩ : ByteArray) = pt at *
      go_enter Tryd.func5, Tryd.ntmps5
      go_upto_region 3 with (go_at_call 9; ((with_reducible refine (awake_any _ (HTW.out _ HB0.out).tabs).mono ?_); rintro e w1 ⟨rfl, hb1⟩; have V1 := Lib.hid (HV0.out.below hb1 (by simp)); have B1 := Lib.hid (HB0.out.trans (hb1.mono HB0.out.size)); obtain ⟨p1, p2, p3⟩ := V1.out))
      clear p1 p2 p3
      have hn1 : w.heap.size < w1.heap.size := by have := hb1.size; simp at this; omega
      go_upto_region 4 with (go_at_call 25; ((with_reducible refine (cP _ (HTW.out _ B1.out)).mono ?_); rintro e w2 ⟨rfl, hb2⟩))
      have B2 := B1.out.trans (hb2.mono B1.out.size)
      have V2 := V1.out.below hb2 hn1
      have hn2 : w.heap.size < w2.heap.size := Nat.lt_of_lt_of_le hn1 hb2.size
      have V3 := V2.alloc (.cells #[.int .i64 pk, .int .u64 pb, .string pt] 24) hn2
      have X3 := BoxV.new w2 pk pb pt 24
      have B3 := B2.alloc B2.size (.cells #[.int .i64 pk, .int .u64 pb, .string pt] 24)
      have hs3 : (w2.alloc (.cells #[.int .i64 pk, .int .u64 pb, .string pt] 24)).heap.size = w2.heap.size + 1 := by simp
      have hG1 : w2.heap.size < (w2.alloc (.cells #[.int .i64 pk, .int .u64 pb, .string pt] 24)).heap.size := by omega
      have hn3 : w.heap.size < (w2.alloc (.cells #[.int .i64 pk, .int .u64 pb, .string pt] 24)).heap.size := by omega
      clear hs3 V2 B2 hn2 hb2
      generalize w2.alloc (.cells #[.int .i64 pk, .int .u64 pb, .string pt] 24) = W3 at *
      generalize w2.heap.size = G1 at *
      go_upto_region 5 with (go_at_call 26; ((with_reducible refine (cP' _).mono ?_); rintro e w4 ⟨rfl, hb4⟩))
      have s4 : (w4.alloc (.cells #[.int .i64 pk, .int .u64 pb, .string pt] 24)).heap.size = w4.heap.size + 1 := by simp
      have hsz4 := hb4.size
      have A5 : Any3 w (w4.alloc (.cells #[.int .i64 pk, .int .u64 pb, .string pt] 24)) w.heap.size G1 w4.heap.size k pk pk b pb pb t pt pt :=
        ⟨(V3.below hb4 hn3).alloc _ (by omega), (X3.below hb4 hG1).alloc _ (by omega), BoxV.new w4 pk pb pt 24, (B3.trans (hb4.mono B3.size)).alloc (Nat.le_trans B3.size hsz4) _, by omega, by omega, by omega⟩
      clear s4 hsz4 V3 X3 B3 hG1 hn3 hb4
      generalize w4.alloc (.cells #[.int .i64 pk, .int .u64 pb, .string pt] 24) = W5 at *
      generalize w4.heap.size = G2 at *
      have HA := Lib.hid A5
      have HD := Lib.hid A5.drew
      have s1 := HA.out.nine
      clear A5
      go_region_held3 (fun w' => w'.cell? ⟨w.heap.size, 0, none⟩ = some (.int .i64 k) ∧ w'.cell? ⟨w.heap.size, 1, none⟩ = some (.int .u64 b) ∧ w'.cell? ⟨w.heap.size, 2, none⟩ = some (.string t) ∧ w'.cell? ⟨G1, 0, none⟩ = some (.int .i64 pk) ∧ w'.cell? ⟨G1, 1, none⟩ = some (.int .u64 pb) ∧ w'.cell? ⟨G1, 2, none⟩ = some (.string pt) ∧ w'.cell? ⟨G2, 0, none⟩ = some (.int .i64 pk) ∧ w'.cell? ⟨G2, 1, none⟩ = some (.int .u64 pb) ∧ w'.cell? ⟨G2, 2, none⟩ = some (.string pt)) (first | exact s1 | exact s2 | exact s3) (first | (go_at_call 27; ((with_reducible refine (cS _ (HTW.out _ HD.out.bel)).mono ?_); rintro e w6 ⟨rfl, hb6⟩; have X6 := Lib.hid (HD.out.below hb6); have s2 := X6.out.nine)) | (go_at_call 28; ((with_reducible refine (cS' _).mono ?_); rintro e w7 ⟨rfl, hb7⟩; have X7 := Lib.hid (X6.out.below hb7); have s3 := X7.out.nine)))
      go_wp2
      go_ret
      exact ⟨rfl, X7.out.bel⟩
    · have d2 : decide ((1000 : Int) < (s.size : Int)) = true := by simp; omega
      go_enter Tryd.func5, Tryd.ntmps5
      go_upto_region 2 with (go_at_call 9; ((with_reducible refine (awake_any _ (HTW.out _ HB0.out).tabs).mono ?_); rintro e w1 ⟨rfl, hb1⟩; have V1 := Lib.hid (HV0.out.below hb1 (by simp)); have B1 := Lib.hid (HB0.out.trans (hb1.mono HB0.out.size)); obtain ⟨p1, p2, p3⟩ := V1.out))
      go_wp2_with (go_at_call 9; ((with_reducible refine (awake_any _ (HTW.out _ B1.out).tabs).mono ?_); rintro e w2 ⟨rfl, hb2⟩))
      go_ret
      exact ⟨rfl, B1.out.trans (hb2.mono B1.out.size)⟩
  · have d1 : decide ((1000 : Int) < (t.size : Int)) = true := by simp; omega
    go_enter Tryd.func5, Tryd.ntmps5
    go_upto_region 2 with (go_at_call 9; ((with_reducible refine (awake_any _ (HTW.out _ HB0.out).tabs).mono ?_); rintro e w1 ⟨rfl, hb1⟩; have V1 := Lib.hid (HV0.out.below hb1 (by simp)); have B1 := Lib.hid (HB0.out.trans (hb1.mono HB0.out.size)); obtain ⟨p1, p2, p3⟩ := V1.out))
    go_wp2_with (go_at_call 9; ((with_reducible refine (awake_any _ (HTW.out _ B1.out).tabs).mono ?_); rintro e w2 ⟨rfl, hb2⟩))
    go_ret
    exact ⟨rfl, B1.out.trans (hb2.mono B1.out.size)⟩
end Go.Proofs.YtmaohddmhdhkkaaDoor
