/- The walk of the statement MessageLabels. Conditions: the message's lists lie in memory; the tables of utf8 lie there. -/
import Derived.Test.YtcgfhjkdgpgheaaDoorHI
import Derived.Test.YtcgfhjkdgpgheaaDoorGT
namespace Go.Proofs.YtcgfhjkdgpgheaaDoor

open Go.RowKit

set_option linter.unusedVariables false

set_option maxRecDepth 100000 in
set_option maxHeartbeats 16000000 in
theorem labels10_walk (x : MgM) (L : MgL) (w : World) (h : MgAt w x L) (hU : Tabs w) :
    Calls Tryd.prog 7 #[.agg (mgV x)] w (Says w true) := by
  have H0 := Lib.hid ((Boxs.start w).more (mgV x) 39)
  have cA := fun W (hW : Below w.heap.size w W) => awake10_any W (hU.below hW)
  have cW := fun W (hW : Below w.heap.size w W) => fewG_any x L W (h.later hW)
  have x0 := (H0.out.get 0 _ _ _ rfl).ldG
  cases hf : fewG x L
  · rw [hf] at cW
    clear hf h hU
    go_enter Tryd.func7, Tryd.ntmps7
    go_wp2_with (first | (go_at_call 8; ((with_reducible refine (cA _ H0.out.bel).mono ?_); rintro e w1 ⟨rfl, hb1⟩; have H1 := Lib.hid (H0.out.below hb1); clear x0; have x0 := (H1.out.get 0 _ _ _ rfl).ldG)) | (go_at_call 9; ((with_reducible refine (cW _ H1.out.bel).mono ?_); rintro e w2 ⟨rfl, hb2⟩; have H2 := Lib.hid (H1.out.below hb2))) | (go_at_call 8; ((with_reducible refine (cA _ H2.out.bel).mono ?_); rintro e w3 ⟨rfl, hb3⟩; have H3 := Lib.hid (H2.out.below hb3))))
    go_ret
    exact ⟨rfl, H3.out.bel⟩
  rw [hf] at cW
  have fx := few_F h hf
  have cF := fun W (hW : Below w.heap.size w W) => gFormed_any x L W (h.later hW) fx (hU.below hW)
  clear hf
  cases hm : formMg (mgT x L)
  · rw [hm] at cF
    clear hm h hU fx
    go_enter Tryd.func7, Tryd.ntmps7
    go_wp2_with (first | (go_at_call 8; ((with_reducible refine (cA _ H0.out.bel).mono ?_); rintro e w1 ⟨rfl, hb1⟩; have H1 := Lib.hid (H0.out.below hb1); clear x0; have x0 := (H1.out.get 0 _ _ _ rfl).ldG)) | (go_at_call 9; ((with_reducible refine (cW _ H1.out.bel).mono ?_); rintro e w2 ⟨rfl, hb2⟩; have H2 := Lib.hid (H1.out.below hb2); clear x0; have x0 := (H2.out.get 0 _ _ _ rfl).ldG)) | (go_at_call 10; ((with_reducible refine (cF _ H2.out.bel).mono ?_); rintro e w3 ⟨rfl, hb3⟩; have H3 := Lib.hid (H2.out.below hb3))) | (go_at_call 8; ((with_reducible refine (cA _ H3.out.bel).mono ?_); rintro e w4 ⟨rfl, hb4⟩; have H4 := Lib.hid (H3.out.below hb4))))
    go_ret
    exact ⟨rfl, H4.out.bel⟩
  rw [hm] at cF
  have dG : ∀ W, Below w.heap.size w W → Calls Tryd.prog 17 #[.agg (mgV x)] W (WrZ W (mgB (mgT x L)) 0) := fun W hW => by
    have h1 := gWrite_any x L W (h.later hW) fx (hU.below hW)
    rw [hm] at h1; exact h1
  have dR : Hid (∀ W a n c B, W.ownsRow B 5 1 (.slice a n c) n (bcells (mgB (mgT x L))) → Below w.heap.size w W → Calls Tryd.prog 20 #[.slice a n c] W (GotM x L W)) := fun W a n c B ho hW => read_back h hm W a n c B ho (hU.below hW)
  have LB : Hid (∀ y L', mgT y L' = mgT x L → ∀ W, Calls Tryd.prog 13 #[.agg (mgV y)] W fun e w' => e = .returned (idA (labelGM x)) ∧ Below W.heap.size W w') := fun y L' e W => by
    have h1 := gLabel_any y W
    rw [labelGM_doc y L', e, ← labelGM_doc x L] at h1; exact h1
  have cX := fun W => gLabel_any x W
  have cK := fun W => kLabel_any x.cm W
  clear hm h hU fx
  by_cases h8 : x.k = 8
  · have hk := h8
    clear h8
    have q0 : w.heap.size ≤ w.heap.size := Nat.le_refl _
    have q8 : (x.k == 8) = true := by rw [hk]; decide
    have q9 : (x.k == 9) = false := by rw [hk]; decide
    have q10 : (x.k == 10) = false := by rw [hk]; decide
    have q11 : (x.k == 11) = false := by rw [hk]; decide
    have q4 : (x.k == 4) = false := by rw [hk]; decide
    have q6 : (x.k == 6) = false := by rw [hk]; decide
    have q2 : (x.k == 2) = false := by rw [hk]; decide
    have E : Hid (labelGM x = (x.s, x.q)) := by unfold Hid labelGM; rw [if_pos hk]
    clear q0 hk
    go_enter Tryd.func7, Tryd.ntmps7
    go_upto_region 3 with (first | (go_at_call 8; ((with_reducible refine (cA _ H0.out.bel).mono ?_); rintro e w1 ⟨rfl, hb1⟩; have H1 := Lib.hid (H0.out.below hb1); clear x0; have x0 := (H1.out.get 0 _ _ _ rfl).ldG)) | (go_at_call 9; ((with_reducible refine (cW _ H1.out.bel).mono ?_); rintro e w2 ⟨rfl, hb2⟩; have H2 := Lib.hid (H1.out.below hb2); clear x0; have x0 := (H2.out.get 0 _ _ _ rfl).ldG)) | (go_at_call 10; ((with_reducible refine (cF _ H2.out.bel).mono ?_); rintro e w3 ⟨rfl, hb3⟩; have H3 := Lib.hid (H2.out.below hb3); clear x0)))
    clear H0 H1 H2 cA cW cF
    have H3a := Lib.hid (H3.out.more #[.int .i64 0, .int .i64 0] 26)
    have NE : w3.heap.size ≠ w.heap.size := by have := (H3.out.get 0 _ _ _ rfl).lt; omega
    have GE : w.heap.size ≤ w3.heap.size := H3.out.bel.size
    have k0 := (H3.out.get 0 _ _ _ rfl).cell 0 _ rfl
    clear k0
    have k0 := (H3a.out.get 1 _ _ _ rfl).cell 0 _ rfl; have k17 := (H3a.out.get 1 _ _ _ rfl).cell 17 _ rfl; have k18 := (H3a.out.get 1 _ _ _ rfl).cell 18 _ rfl
    have m0 := (H3a.out.get 0 _ _ _ rfl).two.1; have m1 := (H3a.out.get 0 _ _ _ rfl).two.2; have f0 := (H3a.out.get 0 _ _ _ rfl).frozen 0; have f1 := (H3a.out.get 0 _ _ _ rfl).frozen 1
    go_upto_region 15 with (fail)
    have H4 : Hid (Boxs w (w3.alloc (.cells #[.int .i64 x.s, .int .i64 x.q] 26)) [(w3.heap.size, #[.int .i64 (labelGM x).1, .int .i64 (labelGM x).2], 26), (w.heap.size, mgV x, 39)]) := by
      rw [E.out]
      exact H3.out.more _ _
    clear H3 H3a E m0 m1 f0 f1 k0 k17 k18 q8 q9 q10 q11 q4 q6 q2
    generalize w3.alloc (.cells #[.int .i64 x.s, .int .i64 x.q] 26) = W4 at *
    generalize w3.heap.size = Q at *
    clear NE GE
    generalize labelGM x = V at *
    have x4 := (H4.out.get 1 _ _ _ rfl).ldG
    go_upto_region 16 with (go_at_call 17; ((with_reducible refine (dG _ H4.out.bel).mono ?_); rintro e w5 ⟨a5, n5, c5, rfl, ho5, hb5⟩; have H5 := Lib.hid (H4.out.below hb5); have O5 := Lib.hid ho5; clear ho5 hb5))
    have cR := dR.out _ a5 n5 c5 _ O5.out H5.out.bel
    clear x4 dG H4 O5 dR
    go_upto_region 17 with (first | (go_at_call 20; ((with_reducible refine cR.mono ?_); rintro e w6 ⟨y, L2, rfl, hM, hF, hE, hb6⟩; have H6 := Lib.hid (H5.out.below hb6); have cY := LB.out y L2 hE; have HZ : Hid (BoxC (w6.alloc (.cells (zeroGV 0) 39)) w6.heap.size (mgV (zeroG 0)) 39) := BoxC.new w6 (zeroGV 0) 39; clear hM hF hE hb6)) | (refine wpList_store_box rfl _ _ rfl w6.heap.size y rfl rfl (zeroG 0) HZ.out ?_))
    have H7 := Lib.hid (H6.out.made (zeroGV 0) (mgV y) 39)
    clear H5 H6 HZ cR LB
    generalize (w6.alloc (.cells (zeroGV 0) 39)).setRow w6.heap.size (mgV y) = W7 at *
    generalize w6.heap.size = P at *
    have Z0 := Lib.hid H7.out.drew
    have s0 : ((ldG (.pointer (some ⟨w.heap.size, 0, none⟩))).run Tryd.prog W7.drew = .ok (.agg (mgV x)) W7.drew ∧ (ldG (.pointer (some ⟨P, 0, none⟩))).run Tryd.prog W7.drew = .ok (.agg (mgV y)) W7.drew ∧ W7.drew.cell? ⟨Q, 0, none⟩ = some (.int .i64 V.1) ∧ W7.drew.cell? ⟨Q, 1, none⟩ = some (.int .i64 V.2)) := ⟨(Z0.out.get 2 _ _ _ rfl).ldG, (Z0.out.get 0 _ _ _ rfl).ldG, (Z0.out.get 1 _ _ _ rfl).two.1, (Z0.out.get 1 _ _ _ rfl).two.2⟩
    clear H7
    go_region_held3 (fun W => ((ldG (.pointer (some ⟨w.heap.size, 0, none⟩))).run Tryd.prog W = .ok (.agg (mgV x)) W ∧ (ldG (.pointer (some ⟨P, 0, none⟩))).run Tryd.prog W = .ok (.agg (mgV y)) W ∧ W.cell? ⟨Q, 0, none⟩ = some (.int .i64 V.1) ∧ W.cell? ⟨Q, 1, none⟩ = some (.int .i64 V.2))) (first | (with_reducible exact s0) | (with_reducible exact s1) | (with_reducible exact s2))
      (first | (go_at_call 13; ((with_reducible refine (cX _).mono ?_); rintro e v1 ⟨rfl, hv1⟩; have Z1 := Lib.hid (Z0.out.below hv1); have s1 : ((ldG (.pointer (some ⟨w.heap.size, 0, none⟩))).run Tryd.prog v1 = .ok (.agg (mgV x)) v1 ∧ (ldG (.pointer (some ⟨P, 0, none⟩))).run Tryd.prog v1 = .ok (.agg (mgV y)) v1 ∧ v1.cell? ⟨Q, 0, none⟩ = some (.int .i64 V.1) ∧ v1.cell? ⟨Q, 1, none⟩ = some (.int .i64 V.2)) := ⟨(Z1.out.get 2 _ _ _ rfl).ldG, (Z1.out.get 0 _ _ _ rfl).ldG, (Z1.out.get 1 _ _ _ rfl).two.1, (Z1.out.get 1 _ _ _ rfl).two.2⟩)) | (go_at_call 13; ((with_reducible refine (cY _).mono ?_); rintro e v2 ⟨rfl, hv2⟩; have Z2 := Lib.hid (Z1.out.below hv2); have s2 : ((ldG (.pointer (some ⟨w.heap.size, 0, none⟩))).run Tryd.prog v2 = .ok (.agg (mgV x)) v2 ∧ (ldG (.pointer (some ⟨P, 0, none⟩))).run Tryd.prog v2 = .ok (.agg (mgV y)) v2 ∧ v2.cell? ⟨Q, 0, none⟩ = some (.int .i64 V.1) ∧ v2.cell? ⟨Q, 1, none⟩ = some (.int .i64 V.2)) := ⟨(Z2.out.get 2 _ _ _ rfl).ldG, (Z2.out.get 0 _ _ _ rfl).ldG, (Z2.out.get 1 _ _ _ rfl).two.1, (Z2.out.get 1 _ _ _ rfl).two.2⟩)))
    go_wp2
    go_ret
    exact ⟨rfl, Z2.out.bel⟩
  by_cases h9 : x.k = 9
  · have hk := h9
    clear h8 h9
    have q0 : w.heap.size ≤ w.heap.size := Nat.le_refl _
    have q8 : (x.k == 8) = false := by rw [hk]; decide
    have q9 : (x.k == 9) = true := by rw [hk]; decide
    have q10 : (x.k == 10) = false := by rw [hk]; decide
    have q11 : (x.k == 11) = false := by rw [hk]; decide
    have q4 : (x.k == 4) = false := by rw [hk]; decide
    have q6 : (x.k == 6) = false := by rw [hk]; decide
    have q2 : (x.k == 2) = false := by rw [hk]; decide
    have E : Hid (labelGM x = (x.i, x.j)) := by unfold Hid labelGM; rw [if_neg (by omega), if_pos (by omega)]
    clear q0 hk
    go_enter Tryd.func7, Tryd.ntmps7
    go_upto_region 3 with (first | (go_at_call 8; ((with_reducible refine (cA _ H0.out.bel).mono ?_); rintro e w1 ⟨rfl, hb1⟩; have H1 := Lib.hid (H0.out.below hb1); clear x0; have x0 := (H1.out.get 0 _ _ _ rfl).ldG)) | (go_at_call 9; ((with_reducible refine (cW _ H1.out.bel).mono ?_); rintro e w2 ⟨rfl, hb2⟩; have H2 := Lib.hid (H1.out.below hb2); clear x0; have x0 := (H2.out.get 0 _ _ _ rfl).ldG)) | (go_at_call 10; ((with_reducible refine (cF _ H2.out.bel).mono ?_); rintro e w3 ⟨rfl, hb3⟩; have H3 := Lib.hid (H2.out.below hb3); clear x0)))
    clear H0 H1 H2 cA cW cF
    have H3a := Lib.hid (H3.out.more #[.int .i64 0, .int .i64 0] 26)
    have NE : w3.heap.size ≠ w.heap.size := by have := (H3.out.get 0 _ _ _ rfl).lt; omega
    have GE : w.heap.size ≤ w3.heap.size := H3.out.bel.size
    have k0 := (H3.out.get 0 _ _ _ rfl).cell 0 _ rfl
    clear k0
    have k0 := (H3a.out.get 1 _ _ _ rfl).cell 0 _ rfl; have k21 := (H3a.out.get 1 _ _ _ rfl).cell 21 _ rfl; have k22 := (H3a.out.get 1 _ _ _ rfl).cell 22 _ rfl
    have m0 := (H3a.out.get 0 _ _ _ rfl).two.1; have m1 := (H3a.out.get 0 _ _ _ rfl).two.2; have f0 := (H3a.out.get 0 _ _ _ rfl).frozen 0; have f1 := (H3a.out.get 0 _ _ _ rfl).frozen 1
    go_upto_region 15 with (fail)
    have H4 : Hid (Boxs w (w3.alloc (.cells #[.int .i64 x.i, .int .i64 x.j] 26)) [(w3.heap.size, #[.int .i64 (labelGM x).1, .int .i64 (labelGM x).2], 26), (w.heap.size, mgV x, 39)]) := by
      rw [E.out]
      exact H3.out.more _ _
    clear H3 H3a E m0 m1 f0 f1 k0 k21 k22 q8 q9 q10 q11 q4 q6 q2
    generalize w3.alloc (.cells #[.int .i64 x.i, .int .i64 x.j] 26) = W4 at *
    generalize w3.heap.size = Q at *
    clear NE GE
    generalize labelGM x = V at *
    have x4 := (H4.out.get 1 _ _ _ rfl).ldG
    go_upto_region 16 with (go_at_call 17; ((with_reducible refine (dG _ H4.out.bel).mono ?_); rintro e w5 ⟨a5, n5, c5, rfl, ho5, hb5⟩; have H5 := Lib.hid (H4.out.below hb5); have O5 := Lib.hid ho5; clear ho5 hb5))
    have cR := dR.out _ a5 n5 c5 _ O5.out H5.out.bel
    clear x4 dG H4 O5 dR
    go_upto_region 17 with (first | (go_at_call 20; ((with_reducible refine cR.mono ?_); rintro e w6 ⟨y, L2, rfl, hM, hF, hE, hb6⟩; have H6 := Lib.hid (H5.out.below hb6); have cY := LB.out y L2 hE; have HZ : Hid (BoxC (w6.alloc (.cells (zeroGV 0) 39)) w6.heap.size (mgV (zeroG 0)) 39) := BoxC.new w6 (zeroGV 0) 39; clear hM hF hE hb6)) | (refine wpList_store_box rfl _ _ rfl w6.heap.size y rfl rfl (zeroG 0) HZ.out ?_))
    have H7 := Lib.hid (H6.out.made (zeroGV 0) (mgV y) 39)
    clear H5 H6 HZ cR LB
    generalize (w6.alloc (.cells (zeroGV 0) 39)).setRow w6.heap.size (mgV y) = W7 at *
    generalize w6.heap.size = P at *
    have Z0 := Lib.hid H7.out.drew
    have s0 : ((ldG (.pointer (some ⟨w.heap.size, 0, none⟩))).run Tryd.prog W7.drew = .ok (.agg (mgV x)) W7.drew ∧ (ldG (.pointer (some ⟨P, 0, none⟩))).run Tryd.prog W7.drew = .ok (.agg (mgV y)) W7.drew ∧ W7.drew.cell? ⟨Q, 0, none⟩ = some (.int .i64 V.1) ∧ W7.drew.cell? ⟨Q, 1, none⟩ = some (.int .i64 V.2)) := ⟨(Z0.out.get 2 _ _ _ rfl).ldG, (Z0.out.get 0 _ _ _ rfl).ldG, (Z0.out.get 1 _ _ _ rfl).two.1, (Z0.out.get 1 _ _ _ rfl).two.2⟩
    clear H7
    go_region_held3 (fun W => ((ldG (.pointer (some ⟨w.heap.size, 0, none⟩))).run Tryd.prog W = .ok (.agg (mgV x)) W ∧ (ldG (.pointer (some ⟨P, 0, none⟩))).run Tryd.prog W = .ok (.agg (mgV y)) W ∧ W.cell? ⟨Q, 0, none⟩ = some (.int .i64 V.1) ∧ W.cell? ⟨Q, 1, none⟩ = some (.int .i64 V.2))) (first | (with_reducible exact s0) | (with_reducible exact s1) | (with_reducible exact s2))
      (first | (go_at_call 13; ((with_reducible refine (cX _).mono ?_); rintro e v1 ⟨rfl, hv1⟩; have Z1 := Lib.hid (Z0.out.below hv1); have s1 : ((ldG (.pointer (some ⟨w.heap.size, 0, none⟩))).run Tryd.prog v1 = .ok (.agg (mgV x)) v1 ∧ (ldG (.pointer (some ⟨P, 0, none⟩))).run Tryd.prog v1 = .ok (.agg (mgV y)) v1 ∧ v1.cell? ⟨Q, 0, none⟩ = some (.int .i64 V.1) ∧ v1.cell? ⟨Q, 1, none⟩ = some (.int .i64 V.2)) := ⟨(Z1.out.get 2 _ _ _ rfl).ldG, (Z1.out.get 0 _ _ _ rfl).ldG, (Z1.out.get 1 _ _ _ rfl).two.1, (Z1.out.get 1 _ _ _ rfl).two.2⟩)) | (go_at_call 13; ((with_reducible refine (cY _).mono ?_); rintro e v2 ⟨rfl, hv2⟩; have Z2 := Lib.hid (Z1.out.below hv2); have s2 : ((ldG (.pointer (some ⟨w.heap.size, 0, none⟩))).run Tryd.prog v2 = .ok (.agg (mgV x)) v2 ∧ (ldG (.pointer (some ⟨P, 0, none⟩))).run Tryd.prog v2 = .ok (.agg (mgV y)) v2 ∧ v2.cell? ⟨Q, 0, none⟩ = some (.int .i64 V.1) ∧ v2.cell? ⟨Q, 1, none⟩ = some (.int .i64 V.2)) := ⟨(Z2.out.get 2 _ _ _ rfl).ldG, (Z2.out.get 0 _ _ _ rfl).ldG, (Z2.out.get 1 _ _ _ rfl).two.1, (Z2.out.get 1 _ _ _ rfl).two.2⟩)))
    go_wp2
    go_ret
    exact ⟨rfl, Z2.out.bel⟩
  by_cases h10 : x.k = 10
  · have hk := h10
    clear h8 h9 h10
    have q0 : w.heap.size ≤ w.heap.size := Nat.le_refl _
    have q8 : (x.k == 8) = false := by rw [hk]; decide
    have q9 : (x.k == 9) = false := by rw [hk]; decide
    have q10 : (x.k == 10) = true := by rw [hk]; decide
    have q11 : (x.k == 11) = false := by rw [hk]; decide
    have q4 : (x.k == 4) = false := by rw [hk]; decide
    have q6 : (x.k == 6) = false := by rw [hk]; decide
    have q2 : (x.k == 2) = false := by rw [hk]; decide
    have E : Hid (labelGM x = (x.i, x.j)) := by unfold Hid labelGM; rw [if_neg (by omega), if_pos (by omega)]
    clear q0 hk
    go_enter Tryd.func7, Tryd.ntmps7
    go_upto_region 3 with (first | (go_at_call 8; ((with_reducible refine (cA _ H0.out.bel).mono ?_); rintro e w1 ⟨rfl, hb1⟩; have H1 := Lib.hid (H0.out.below hb1); clear x0; have x0 := (H1.out.get 0 _ _ _ rfl).ldG)) | (go_at_call 9; ((with_reducible refine (cW _ H1.out.bel).mono ?_); rintro e w2 ⟨rfl, hb2⟩; have H2 := Lib.hid (H1.out.below hb2); clear x0; have x0 := (H2.out.get 0 _ _ _ rfl).ldG)) | (go_at_call 10; ((with_reducible refine (cF _ H2.out.bel).mono ?_); rintro e w3 ⟨rfl, hb3⟩; have H3 := Lib.hid (H2.out.below hb3); clear x0)))
    clear H0 H1 H2 cA cW cF
    have H3a := Lib.hid (H3.out.more #[.int .i64 0, .int .i64 0] 26)
    have NE : w3.heap.size ≠ w.heap.size := by have := (H3.out.get 0 _ _ _ rfl).lt; omega
    have GE : w.heap.size ≤ w3.heap.size := H3.out.bel.size
    have k0 := (H3.out.get 0 _ _ _ rfl).cell 0 _ rfl
    clear k0
    have k0 := (H3a.out.get 1 _ _ _ rfl).cell 0 _ rfl; have k21 := (H3a.out.get 1 _ _ _ rfl).cell 21 _ rfl; have k22 := (H3a.out.get 1 _ _ _ rfl).cell 22 _ rfl
    have m0 := (H3a.out.get 0 _ _ _ rfl).two.1; have m1 := (H3a.out.get 0 _ _ _ rfl).two.2; have f0 := (H3a.out.get 0 _ _ _ rfl).frozen 0; have f1 := (H3a.out.get 0 _ _ _ rfl).frozen 1
    go_upto_region 15 with (fail)
    have H4 : Hid (Boxs w (w3.alloc (.cells #[.int .i64 x.i, .int .i64 x.j] 26)) [(w3.heap.size, #[.int .i64 (labelGM x).1, .int .i64 (labelGM x).2], 26), (w.heap.size, mgV x, 39)]) := by
      rw [E.out]
      exact H3.out.more _ _
    clear H3 H3a E m0 m1 f0 f1 k0 k21 k22 q8 q9 q10 q11 q4 q6 q2
    generalize w3.alloc (.cells #[.int .i64 x.i, .int .i64 x.j] 26) = W4 at *
    generalize w3.heap.size = Q at *
    clear NE GE
    generalize labelGM x = V at *
    have x4 := (H4.out.get 1 _ _ _ rfl).ldG
    go_upto_region 16 with (go_at_call 17; ((with_reducible refine (dG _ H4.out.bel).mono ?_); rintro e w5 ⟨a5, n5, c5, rfl, ho5, hb5⟩; have H5 := Lib.hid (H4.out.below hb5); have O5 := Lib.hid ho5; clear ho5 hb5))
    have cR := dR.out _ a5 n5 c5 _ O5.out H5.out.bel
    clear x4 dG H4 O5 dR
    go_upto_region 17 with (first | (go_at_call 20; ((with_reducible refine cR.mono ?_); rintro e w6 ⟨y, L2, rfl, hM, hF, hE, hb6⟩; have H6 := Lib.hid (H5.out.below hb6); have cY := LB.out y L2 hE; have HZ : Hid (BoxC (w6.alloc (.cells (zeroGV 0) 39)) w6.heap.size (mgV (zeroG 0)) 39) := BoxC.new w6 (zeroGV 0) 39; clear hM hF hE hb6)) | (refine wpList_store_box rfl _ _ rfl w6.heap.size y rfl rfl (zeroG 0) HZ.out ?_))
    have H7 := Lib.hid (H6.out.made (zeroGV 0) (mgV y) 39)
    clear H5 H6 HZ cR LB
    generalize (w6.alloc (.cells (zeroGV 0) 39)).setRow w6.heap.size (mgV y) = W7 at *
    generalize w6.heap.size = P at *
    have Z0 := Lib.hid H7.out.drew
    have s0 : ((ldG (.pointer (some ⟨w.heap.size, 0, none⟩))).run Tryd.prog W7.drew = .ok (.agg (mgV x)) W7.drew ∧ (ldG (.pointer (some ⟨P, 0, none⟩))).run Tryd.prog W7.drew = .ok (.agg (mgV y)) W7.drew ∧ W7.drew.cell? ⟨Q, 0, none⟩ = some (.int .i64 V.1) ∧ W7.drew.cell? ⟨Q, 1, none⟩ = some (.int .i64 V.2)) := ⟨(Z0.out.get 2 _ _ _ rfl).ldG, (Z0.out.get 0 _ _ _ rfl).ldG, (Z0.out.get 1 _ _ _ rfl).two.1, (Z0.out.get 1 _ _ _ rfl).two.2⟩
    clear H7
    go_region_held3 (fun W => ((ldG (.pointer (some ⟨w.heap.size, 0, none⟩))).run Tryd.prog W = .ok (.agg (mgV x)) W ∧ (ldG (.pointer (some ⟨P, 0, none⟩))).run Tryd.prog W = .ok (.agg (mgV y)) W ∧ W.cell? ⟨Q, 0, none⟩ = some (.int .i64 V.1) ∧ W.cell? ⟨Q, 1, none⟩ = some (.int .i64 V.2))) (first | (with_reducible exact s0) | (with_reducible exact s1) | (with_reducible exact s2))
      (first | (go_at_call 13; ((with_reducible refine (cX _).mono ?_); rintro e v1 ⟨rfl, hv1⟩; have Z1 := Lib.hid (Z0.out.below hv1); have s1 : ((ldG (.pointer (some ⟨w.heap.size, 0, none⟩))).run Tryd.prog v1 = .ok (.agg (mgV x)) v1 ∧ (ldG (.pointer (some ⟨P, 0, none⟩))).run Tryd.prog v1 = .ok (.agg (mgV y)) v1 ∧ v1.cell? ⟨Q, 0, none⟩ = some (.int .i64 V.1) ∧ v1.cell? ⟨Q, 1, none⟩ = some (.int .i64 V.2)) := ⟨(Z1.out.get 2 _ _ _ rfl).ldG, (Z1.out.get 0 _ _ _ rfl).ldG, (Z1.out.get 1 _ _ _ rfl).two.1, (Z1.out.get 1 _ _ _ rfl).two.2⟩)) | (go_at_call 13; ((with_reducible refine (cY _).mono ?_); rintro e v2 ⟨rfl, hv2⟩; have Z2 := Lib.hid (Z1.out.below hv2); have s2 : ((ldG (.pointer (some ⟨w.heap.size, 0, none⟩))).run Tryd.prog v2 = .ok (.agg (mgV x)) v2 ∧ (ldG (.pointer (some ⟨P, 0, none⟩))).run Tryd.prog v2 = .ok (.agg (mgV y)) v2 ∧ v2.cell? ⟨Q, 0, none⟩ = some (.int .i64 V.1) ∧ v2.cell? ⟨Q, 1, none⟩ = some (.int .i64 V.2)) := ⟨(Z2.out.get 2 _ _ _ rfl).ldG, (Z2.out.get 0 _ _ _ rfl).ldG, (Z2.out.get 1 _ _ _ rfl).two.1, (Z2.out.get 1 _ _ _ rfl).two.2⟩)))
    go_wp2
    go_ret
    exact ⟨rfl, Z2.out.bel⟩
  by_cases h11 : x.k = 11
  · have hk := h11
    clear h8 h9 h10 h11
    have q0 : w.heap.size ≤ w.heap.size := Nat.le_refl _
    have q8 : (x.k == 8) = false := by rw [hk]; decide
    have q9 : (x.k == 9) = false := by rw [hk]; decide
    have q10 : (x.k == 10) = false := by rw [hk]; decide
    have q11 : (x.k == 11) = true := by rw [hk]; decide
    have q4 : (x.k == 4) = false := by rw [hk]; decide
    have q6 : (x.k == 6) = false := by rw [hk]; decide
    have q2 : (x.k == 2) = false := by rw [hk]; decide
    have E : Hid (labelGM x = (x.i, x.j)) := by unfold Hid labelGM; rw [if_neg (by omega), if_pos (by omega)]
    clear q0 hk
    go_enter Tryd.func7, Tryd.ntmps7
    go_upto_region 3 with (first | (go_at_call 8; ((with_reducible refine (cA _ H0.out.bel).mono ?_); rintro e w1 ⟨rfl, hb1⟩; have H1 := Lib.hid (H0.out.below hb1); clear x0; have x0 := (H1.out.get 0 _ _ _ rfl).ldG)) | (go_at_call 9; ((with_reducible refine (cW _ H1.out.bel).mono ?_); rintro e w2 ⟨rfl, hb2⟩; have H2 := Lib.hid (H1.out.below hb2); clear x0; have x0 := (H2.out.get 0 _ _ _ rfl).ldG)) | (go_at_call 10; ((with_reducible refine (cF _ H2.out.bel).mono ?_); rintro e w3 ⟨rfl, hb3⟩; have H3 := Lib.hid (H2.out.below hb3); clear x0)))
    clear H0 H1 H2 cA cW cF
    have H3a := Lib.hid (H3.out.more #[.int .i64 0, .int .i64 0] 26)
    have NE : w3.heap.size ≠ w.heap.size := by have := (H3.out.get 0 _ _ _ rfl).lt; omega
    have GE : w.heap.size ≤ w3.heap.size := H3.out.bel.size
    have k0 := (H3.out.get 0 _ _ _ rfl).cell 0 _ rfl
    clear k0
    have k0 := (H3a.out.get 1 _ _ _ rfl).cell 0 _ rfl; have k21 := (H3a.out.get 1 _ _ _ rfl).cell 21 _ rfl; have k22 := (H3a.out.get 1 _ _ _ rfl).cell 22 _ rfl
    have m0 := (H3a.out.get 0 _ _ _ rfl).two.1; have m1 := (H3a.out.get 0 _ _ _ rfl).two.2; have f0 := (H3a.out.get 0 _ _ _ rfl).frozen 0; have f1 := (H3a.out.get 0 _ _ _ rfl).frozen 1
    go_upto_region 15 with (fail)
    have H4 : Hid (Boxs w (w3.alloc (.cells #[.int .i64 x.i, .int .i64 x.j] 26)) [(w3.heap.size, #[.int .i64 (labelGM x).1, .int .i64 (labelGM x).2], 26), (w.heap.size, mgV x, 39)]) := by
      rw [E.out]
      exact H3.out.more _ _
    clear H3 H3a E m0 m1 f0 f1 k0 k21 k22 q8 q9 q10 q11 q4 q6 q2
    generalize w3.alloc (.cells #[.int .i64 x.i, .int .i64 x.j] 26) = W4 at *
    generalize w3.heap.size = Q at *
    clear NE GE
    generalize labelGM x = V at *
    have x4 := (H4.out.get 1 _ _ _ rfl).ldG
    go_upto_region 16 with (go_at_call 17; ((with_reducible refine (dG _ H4.out.bel).mono ?_); rintro e w5 ⟨a5, n5, c5, rfl, ho5, hb5⟩; have H5 := Lib.hid (H4.out.below hb5); have O5 := Lib.hid ho5; clear ho5 hb5))
    have cR := dR.out _ a5 n5 c5 _ O5.out H5.out.bel
    clear x4 dG H4 O5 dR
    go_upto_region 17 with (first | (go_at_call 20; ((with_reducible refine cR.mono ?_); rintro e w6 ⟨y, L2, rfl, hM, hF, hE, hb6⟩; have H6 := Lib.hid (H5.out.below hb6); have cY := LB.out y L2 hE; have HZ : Hid (BoxC (w6.alloc (.cells (zeroGV 0) 39)) w6.heap.size (mgV (zeroG 0)) 39) := BoxC.new w6 (zeroGV 0) 39; clear hM hF hE hb6)) | (refine wpList_store_box rfl _ _ rfl w6.heap.size y rfl rfl (zeroG 0) HZ.out ?_))
    have H7 := Lib.hid (H6.out.made (zeroGV 0) (mgV y) 39)
    clear H5 H6 HZ cR LB
    generalize (w6.alloc (.cells (zeroGV 0) 39)).setRow w6.heap.size (mgV y) = W7 at *
    generalize w6.heap.size = P at *
    have Z0 := Lib.hid H7.out.drew
    have s0 : ((ldG (.pointer (some ⟨w.heap.size, 0, none⟩))).run Tryd.prog W7.drew = .ok (.agg (mgV x)) W7.drew ∧ (ldG (.pointer (some ⟨P, 0, none⟩))).run Tryd.prog W7.drew = .ok (.agg (mgV y)) W7.drew ∧ W7.drew.cell? ⟨Q, 0, none⟩ = some (.int .i64 V.1) ∧ W7.drew.cell? ⟨Q, 1, none⟩ = some (.int .i64 V.2)) := ⟨(Z0.out.get 2 _ _ _ rfl).ldG, (Z0.out.get 0 _ _ _ rfl).ldG, (Z0.out.get 1 _ _ _ rfl).two.1, (Z0.out.get 1 _ _ _ rfl).two.2⟩
    clear H7
    go_region_held3 (fun W => ((ldG (.pointer (some ⟨w.heap.size, 0, none⟩))).run Tryd.prog W = .ok (.agg (mgV x)) W ∧ (ldG (.pointer (some ⟨P, 0, none⟩))).run Tryd.prog W = .ok (.agg (mgV y)) W ∧ W.cell? ⟨Q, 0, none⟩ = some (.int .i64 V.1) ∧ W.cell? ⟨Q, 1, none⟩ = some (.int .i64 V.2))) (first | (with_reducible exact s0) | (with_reducible exact s1) | (with_reducible exact s2))
      (first | (go_at_call 13; ((with_reducible refine (cX _).mono ?_); rintro e v1 ⟨rfl, hv1⟩; have Z1 := Lib.hid (Z0.out.below hv1); have s1 : ((ldG (.pointer (some ⟨w.heap.size, 0, none⟩))).run Tryd.prog v1 = .ok (.agg (mgV x)) v1 ∧ (ldG (.pointer (some ⟨P, 0, none⟩))).run Tryd.prog v1 = .ok (.agg (mgV y)) v1 ∧ v1.cell? ⟨Q, 0, none⟩ = some (.int .i64 V.1) ∧ v1.cell? ⟨Q, 1, none⟩ = some (.int .i64 V.2)) := ⟨(Z1.out.get 2 _ _ _ rfl).ldG, (Z1.out.get 0 _ _ _ rfl).ldG, (Z1.out.get 1 _ _ _ rfl).two.1, (Z1.out.get 1 _ _ _ rfl).two.2⟩)) | (go_at_call 13; ((with_reducible refine (cY _).mono ?_); rintro e v2 ⟨rfl, hv2⟩; have Z2 := Lib.hid (Z1.out.below hv2); have s2 : ((ldG (.pointer (some ⟨w.heap.size, 0, none⟩))).run Tryd.prog v2 = .ok (.agg (mgV x)) v2 ∧ (ldG (.pointer (some ⟨P, 0, none⟩))).run Tryd.prog v2 = .ok (.agg (mgV y)) v2 ∧ v2.cell? ⟨Q, 0, none⟩ = some (.int .i64 V.1) ∧ v2.cell? ⟨Q, 1, none⟩ = some (.int .i64 V.2)) := ⟨(Z2.out.get 2 _ _ _ rfl).ldG, (Z2.out.get 0 _ _ _ rfl).ldG, (Z2.out.get 1 _ _ _ rfl).two.1, (Z2.out.get 1 _ _ _ rfl).two.2⟩)))
    go_wp2
    go_ret
    exact ⟨rfl, Z2.out.bel⟩
  by_cases h4 : x.k = 4
  · have hk := h4
    clear h8 h9 h10 h11 h4
    have q0 : w.heap.size ≤ w.heap.size := Nat.le_refl _
    have q8 : (x.k == 8) = false := by rw [hk]; decide
    have q9 : (x.k == 9) = false := by rw [hk]; decide
    have q10 : (x.k == 10) = false := by rw [hk]; decide
    have q11 : (x.k == 11) = false := by rw [hk]; decide
    have q4 : (x.k == 4) = true := by rw [hk]; decide
    have q6 : (x.k == 6) = false := by rw [hk]; decide
    have q2 : (x.k == 2) = false := by rw [hk]; decide
    have E : Hid (labelGM x = labelM x.cm) := by unfold Hid labelGM; rw [if_neg (by omega), if_neg (by omega), if_pos (by omega)]
    clear q0 hk
    go_enter Tryd.func7, Tryd.ntmps7
    go_upto_region 3 with (first | (go_at_call 8; ((with_reducible refine (cA _ H0.out.bel).mono ?_); rintro e w1 ⟨rfl, hb1⟩; have H1 := Lib.hid (H0.out.below hb1); clear x0; have x0 := (H1.out.get 0 _ _ _ rfl).ldG)) | (go_at_call 9; ((with_reducible refine (cW _ H1.out.bel).mono ?_); rintro e w2 ⟨rfl, hb2⟩; have H2 := Lib.hid (H1.out.below hb2); clear x0; have x0 := (H2.out.get 0 _ _ _ rfl).ldG)) | (go_at_call 10; ((with_reducible refine (cF _ H2.out.bel).mono ?_); rintro e w3 ⟨rfl, hb3⟩; have H3 := Lib.hid (H2.out.below hb3); clear x0)))
    clear H0 H1 H2 cA cW cF
    have H3a := Lib.hid (H3.out.more #[.int .i64 0, .int .i64 0] 26)
    have NE : w3.heap.size ≠ w.heap.size := by have := (H3.out.get 0 _ _ _ rfl).lt; omega
    have GE : w.heap.size ≤ w3.heap.size := H3.out.bel.size
    have k0 := (H3.out.get 0 _ _ _ rfl).cell 0 _ rfl
    clear k0
    have k0 := (H3a.out.get 1 _ _ _ rfl).cell 0 _ rfl; have k7 := (H3a.out.get 1 _ _ _ rfl).cell 7 _ rfl; have k8 := (H3a.out.get 1 _ _ _ rfl).cell 8 _ rfl; have k9 := (H3a.out.get 1 _ _ _ rfl).cell 9 _ rfl; have k10 := (H3a.out.get 1 _ _ _ rfl).cell 10 _ rfl; have k11 := (H3a.out.get 1 _ _ _ rfl).cell 11 _ rfl; have k12 := (H3a.out.get 1 _ _ _ rfl).cell 12 _ rfl; have k13 := (H3a.out.get 1 _ _ _ rfl).cell 13 _ rfl; have k14 := (H3a.out.get 1 _ _ _ rfl).cell 14 _ rfl; have k15 := (H3a.out.get 1 _ _ _ rfl).cell 15 _ rfl; have k16 := (H3a.out.get 1 _ _ _ rfl).cell 16 _ rfl
    go_upto_region 15 with (go_at_call 21; ((with_reducible refine (cK _).mono ?_); rintro e v ⟨rfl, hv⟩; have HV := Lib.hid (H3a.out.below hv); have m0 := (HV.out.get 0 _ _ _ rfl).two.1; have m1 := (HV.out.get 0 _ _ _ rfl).two.2; have f0 := (HV.out.get 0 _ _ _ rfl).frozen 0; have f1 := (HV.out.get 0 _ _ _ rfl).frozen 1; clear hv))
    have H4 : Hid (Boxs w ((v.setCell ⟨w3.heap.size, 0, none⟩ (.int .i64 (labelM x.cm).1)).setCell ⟨w3.heap.size, 1, none⟩ (.int .i64 (labelM x.cm).2)) [(w3.heap.size, #[.int .i64 (labelGM x).1, .int .i64 (labelGM x).2], 26), (w.heap.size, mgV x, 39)]) := by
      rw [E.out]
      exact HV.out.set2 GE (fun b hb => by simp at hb; rw [hb]; omega)
    clear H3 H3a HV E m0 m1 f0 f1 k0 k7 k8 k9 k10 k11 k12 k13 k14 k15 k16 q8 q9 q10 q11 q4 q6 q2
    generalize (v.setCell ⟨w3.heap.size, 0, none⟩ (.int .i64 (labelM x.cm).1)).setCell ⟨w3.heap.size, 1, none⟩ (.int .i64 (labelM x.cm).2) = W4 at *
    generalize w3.heap.size = Q at *
    clear NE GE
    generalize labelGM x = V at *
    have x4 := (H4.out.get 1 _ _ _ rfl).ldG
    go_upto_region 16 with (go_at_call 17; ((with_reducible refine (dG _ H4.out.bel).mono ?_); rintro e w5 ⟨a5, n5, c5, rfl, ho5, hb5⟩; have H5 := Lib.hid (H4.out.below hb5); have O5 := Lib.hid ho5; clear ho5 hb5))
    have cR := dR.out _ a5 n5 c5 _ O5.out H5.out.bel
    clear x4 dG H4 O5 dR
    go_upto_region 17 with (first | (go_at_call 20; ((with_reducible refine cR.mono ?_); rintro e w6 ⟨y, L2, rfl, hM, hF, hE, hb6⟩; have H6 := Lib.hid (H5.out.below hb6); have cY := LB.out y L2 hE; have HZ : Hid (BoxC (w6.alloc (.cells (zeroGV 0) 39)) w6.heap.size (mgV (zeroG 0)) 39) := BoxC.new w6 (zeroGV 0) 39; clear hM hF hE hb6)) | (refine wpList_store_box rfl _ _ rfl w6.heap.size y rfl rfl (zeroG 0) HZ.out ?_))
    have H7 := Lib.hid (H6.out.made (zeroGV 0) (mgV y) 39)
    clear H5 H6 HZ cR LB
    generalize (w6.alloc (.cells (zeroGV 0) 39)).setRow w6.heap.size (mgV y) = W7 at *
    generalize w6.heap.size = P at *
    have Z0 := Lib.hid H7.out.drew
    have s0 : ((ldG (.pointer (some ⟨w.heap.size, 0, none⟩))).run Tryd.prog W7.drew = .ok (.agg (mgV x)) W7.drew ∧ (ldG (.pointer (some ⟨P, 0, none⟩))).run Tryd.prog W7.drew = .ok (.agg (mgV y)) W7.drew ∧ W7.drew.cell? ⟨Q, 0, none⟩ = some (.int .i64 V.1) ∧ W7.drew.cell? ⟨Q, 1, none⟩ = some (.int .i64 V.2)) := ⟨(Z0.out.get 2 _ _ _ rfl).ldG, (Z0.out.get 0 _ _ _ rfl).ldG, (Z0.out.get 1 _ _ _ rfl).two.1, (Z0.out.get 1 _ _ _ rfl).two.2⟩
    clear H7
    go_region_held3 (fun W => ((ldG (.pointer (some ⟨w.heap.size, 0, none⟩))).run Tryd.prog W = .ok (.agg (mgV x)) W ∧ (ldG (.pointer (some ⟨P, 0, none⟩))).run Tryd.prog W = .ok (.agg (mgV y)) W ∧ W.cell? ⟨Q, 0, none⟩ = some (.int .i64 V.1) ∧ W.cell? ⟨Q, 1, none⟩ = some (.int .i64 V.2))) (first | (with_reducible exact s0) | (with_reducible exact s1) | (with_reducible exact s2))
      (first | (go_at_call 13; ((with_reducible refine (cX _).mono ?_); rintro e v1 ⟨rfl, hv1⟩; have Z1 := Lib.hid (Z0.out.below hv1); have s1 : ((ldG (.pointer (some ⟨w.heap.size, 0, none⟩))).run Tryd.prog v1 = .ok (.agg (mgV x)) v1 ∧ (ldG (.pointer (some ⟨P, 0, none⟩))).run Tryd.prog v1 = .ok (.agg (mgV y)) v1 ∧ v1.cell? ⟨Q, 0, none⟩ = some (.int .i64 V.1) ∧ v1.cell? ⟨Q, 1, none⟩ = some (.int .i64 V.2)) := ⟨(Z1.out.get 2 _ _ _ rfl).ldG, (Z1.out.get 0 _ _ _ rfl).ldG, (Z1.out.get 1 _ _ _ rfl).two.1, (Z1.out.get 1 _ _ _ rfl).two.2⟩)) | (go_at_call 13; ((with_reducible refine (cY _).mono ?_); rintro e v2 ⟨rfl, hv2⟩; have Z2 := Lib.hid (Z1.out.below hv2); have s2 : ((ldG (.pointer (some ⟨w.heap.size, 0, none⟩))).run Tryd.prog v2 = .ok (.agg (mgV x)) v2 ∧ (ldG (.pointer (some ⟨P, 0, none⟩))).run Tryd.prog v2 = .ok (.agg (mgV y)) v2 ∧ v2.cell? ⟨Q, 0, none⟩ = some (.int .i64 V.1) ∧ v2.cell? ⟨Q, 1, none⟩ = some (.int .i64 V.2)) := ⟨(Z2.out.get 2 _ _ _ rfl).ldG, (Z2.out.get 0 _ _ _ rfl).ldG, (Z2.out.get 1 _ _ _ rfl).two.1, (Z2.out.get 1 _ _ _ rfl).two.2⟩)))
    go_wp2
    go_ret
    exact ⟨rfl, Z2.out.bel⟩
  by_cases h6 : x.k = 6
  · have hk := h6
    clear h8 h9 h10 h11 h4 h6
    have q0 : w.heap.size ≤ w.heap.size := Nat.le_refl _
    have q8 : (x.k == 8) = false := by rw [hk]; decide
    have q9 : (x.k == 9) = false := by rw [hk]; decide
    have q10 : (x.k == 10) = false := by rw [hk]; decide
    have q11 : (x.k == 11) = false := by rw [hk]; decide
    have q4 : (x.k == 4) = false := by rw [hk]; decide
    have q6 : (x.k == 6) = true := by rw [hk]; decide
    have q2 : (x.k == 2) = false := by rw [hk]; decide
    have E : Hid (labelGM x = labelM x.cm) := by unfold Hid labelGM; rw [if_neg (by omega), if_neg (by omega), if_pos (by omega)]
    clear q0 hk
    go_enter Tryd.func7, Tryd.ntmps7
    go_upto_region 3 with (first | (go_at_call 8; ((with_reducible refine (cA _ H0.out.bel).mono ?_); rintro e w1 ⟨rfl, hb1⟩; have H1 := Lib.hid (H0.out.below hb1); clear x0; have x0 := (H1.out.get 0 _ _ _ rfl).ldG)) | (go_at_call 9; ((with_reducible refine (cW _ H1.out.bel).mono ?_); rintro e w2 ⟨rfl, hb2⟩; have H2 := Lib.hid (H1.out.below hb2); clear x0; have x0 := (H2.out.get 0 _ _ _ rfl).ldG)) | (go_at_call 10; ((with_reducible refine (cF _ H2.out.bel).mono ?_); rintro e w3 ⟨rfl, hb3⟩; have H3 := Lib.hid (H2.out.below hb3); clear x0)))
    clear H0 H1 H2 cA cW cF
    have H3a := Lib.hid (H3.out.more #[.int .i64 0, .int .i64 0] 26)
    have NE : w3.heap.size ≠ w.heap.size := by have := (H3.out.get 0 _ _ _ rfl).lt; omega
    have GE : w.heap.size ≤ w3.heap.size := H3.out.bel.size
    have k0 := (H3.out.get 0 _ _ _ rfl).cell 0 _ rfl
    clear k0
    have k0 := (H3a.out.get 1 _ _ _ rfl).cell 0 _ rfl; have k7 := (H3a.out.get 1 _ _ _ rfl).cell 7 _ rfl; have k8 := (H3a.out.get 1 _ _ _ rfl).cell 8 _ rfl; have k9 := (H3a.out.get 1 _ _ _ rfl).cell 9 _ rfl; have k10 := (H3a.out.get 1 _ _ _ rfl).cell 10 _ rfl; have k11 := (H3a.out.get 1 _ _ _ rfl).cell 11 _ rfl; have k12 := (H3a.out.get 1 _ _ _ rfl).cell 12 _ rfl; have k13 := (H3a.out.get 1 _ _ _ rfl).cell 13 _ rfl; have k14 := (H3a.out.get 1 _ _ _ rfl).cell 14 _ rfl; have k15 := (H3a.out.get 1 _ _ _ rfl).cell 15 _ rfl; have k16 := (H3a.out.get 1 _ _ _ rfl).cell 16 _ rfl
    go_upto_region 15 with (go_at_call 21; ((with_reducible refine (cK _).mono ?_); rintro e v ⟨rfl, hv⟩; have HV := Lib.hid (H3a.out.below hv); have m0 := (HV.out.get 0 _ _ _ rfl).two.1; have m1 := (HV.out.get 0 _ _ _ rfl).two.2; have f0 := (HV.out.get 0 _ _ _ rfl).frozen 0; have f1 := (HV.out.get 0 _ _ _ rfl).frozen 1; clear hv))
    have H4 : Hid (Boxs w ((v.setCell ⟨w3.heap.size, 0, none⟩ (.int .i64 (labelM x.cm).1)).setCell ⟨w3.heap.size, 1, none⟩ (.int .i64 (labelM x.cm).2)) [(w3.heap.size, #[.int .i64 (labelGM x).1, .int .i64 (labelGM x).2], 26), (w.heap.size, mgV x, 39)]) := by
      rw [E.out]
      exact HV.out.set2 GE (fun b hb => by simp at hb; rw [hb]; omega)
    clear H3 H3a HV E m0 m1 f0 f1 k0 k7 k8 k9 k10 k11 k12 k13 k14 k15 k16 q8 q9 q10 q11 q4 q6 q2
    generalize (v.setCell ⟨w3.heap.size, 0, none⟩ (.int .i64 (labelM x.cm).1)).setCell ⟨w3.heap.size, 1, none⟩ (.int .i64 (labelM x.cm).2) = W4 at *
    generalize w3.heap.size = Q at *
    clear NE GE
    generalize labelGM x = V at *
    have x4 := (H4.out.get 1 _ _ _ rfl).ldG
    go_upto_region 16 with (go_at_call 17; ((with_reducible refine (dG _ H4.out.bel).mono ?_); rintro e w5 ⟨a5, n5, c5, rfl, ho5, hb5⟩; have H5 := Lib.hid (H4.out.below hb5); have O5 := Lib.hid ho5; clear ho5 hb5))
    have cR := dR.out _ a5 n5 c5 _ O5.out H5.out.bel
    clear x4 dG H4 O5 dR
    go_upto_region 17 with (first | (go_at_call 20; ((with_reducible refine cR.mono ?_); rintro e w6 ⟨y, L2, rfl, hM, hF, hE, hb6⟩; have H6 := Lib.hid (H5.out.below hb6); have cY := LB.out y L2 hE; have HZ : Hid (BoxC (w6.alloc (.cells (zeroGV 0) 39)) w6.heap.size (mgV (zeroG 0)) 39) := BoxC.new w6 (zeroGV 0) 39; clear hM hF hE hb6)) | (refine wpList_store_box rfl _ _ rfl w6.heap.size y rfl rfl (zeroG 0) HZ.out ?_))
    have H7 := Lib.hid (H6.out.made (zeroGV 0) (mgV y) 39)
    clear H5 H6 HZ cR LB
    generalize (w6.alloc (.cells (zeroGV 0) 39)).setRow w6.heap.size (mgV y) = W7 at *
    generalize w6.heap.size = P at *
    have Z0 := Lib.hid H7.out.drew
    have s0 : ((ldG (.pointer (some ⟨w.heap.size, 0, none⟩))).run Tryd.prog W7.drew = .ok (.agg (mgV x)) W7.drew ∧ (ldG (.pointer (some ⟨P, 0, none⟩))).run Tryd.prog W7.drew = .ok (.agg (mgV y)) W7.drew ∧ W7.drew.cell? ⟨Q, 0, none⟩ = some (.int .i64 V.1) ∧ W7.drew.cell? ⟨Q, 1, none⟩ = some (.int .i64 V.2)) := ⟨(Z0.out.get 2 _ _ _ rfl).ldG, (Z0.out.get 0 _ _ _ rfl).ldG, (Z0.out.get 1 _ _ _ rfl).two.1, (Z0.out.get 1 _ _ _ rfl).two.2⟩
    clear H7
    go_region_held3 (fun W => ((ldG (.pointer (some ⟨w.heap.size, 0, none⟩))).run Tryd.prog W = .ok (.agg (mgV x)) W ∧ (ldG (.pointer (some ⟨P, 0, none⟩))).run Tryd.prog W = .ok (.agg (mgV y)) W ∧ W.cell? ⟨Q, 0, none⟩ = some (.int .i64 V.1) ∧ W.cell? ⟨Q, 1, none⟩ = some (.int .i64 V.2))) (first | (with_reducible exact s0) | (with_reducible exact s1) | (with_reducible exact s2))
      (first | (go_at_call 13; ((with_reducible refine (cX _).mono ?_); rintro e v1 ⟨rfl, hv1⟩; have Z1 := Lib.hid (Z0.out.below hv1); have s1 : ((ldG (.pointer (some ⟨w.heap.size, 0, none⟩))).run Tryd.prog v1 = .ok (.agg (mgV x)) v1 ∧ (ldG (.pointer (some ⟨P, 0, none⟩))).run Tryd.prog v1 = .ok (.agg (mgV y)) v1 ∧ v1.cell? ⟨Q, 0, none⟩ = some (.int .i64 V.1) ∧ v1.cell? ⟨Q, 1, none⟩ = some (.int .i64 V.2)) := ⟨(Z1.out.get 2 _ _ _ rfl).ldG, (Z1.out.get 0 _ _ _ rfl).ldG, (Z1.out.get 1 _ _ _ rfl).two.1, (Z1.out.get 1 _ _ _ rfl).two.2⟩)) | (go_at_call 13; ((with_reducible refine (cY _).mono ?_); rintro e v2 ⟨rfl, hv2⟩; have Z2 := Lib.hid (Z1.out.below hv2); have s2 : ((ldG (.pointer (some ⟨w.heap.size, 0, none⟩))).run Tryd.prog v2 = .ok (.agg (mgV x)) v2 ∧ (ldG (.pointer (some ⟨P, 0, none⟩))).run Tryd.prog v2 = .ok (.agg (mgV y)) v2 ∧ v2.cell? ⟨Q, 0, none⟩ = some (.int .i64 V.1) ∧ v2.cell? ⟨Q, 1, none⟩ = some (.int .i64 V.2)) := ⟨(Z2.out.get 2 _ _ _ rfl).ldG, (Z2.out.get 0 _ _ _ rfl).ldG, (Z2.out.get 1 _ _ _ rfl).two.1, (Z2.out.get 1 _ _ _ rfl).two.2⟩)))
    go_wp2
    go_ret
    exact ⟨rfl, Z2.out.bel⟩
  by_cases h2 : x.k = 2
  · have hk := h2
    clear h8 h9 h10 h11 h4 h6 h2
    have q0 : w.heap.size ≤ w.heap.size := Nat.le_refl _
    have q8 : (x.k == 8) = false := by rw [hk]; decide
    have q9 : (x.k == 9) = false := by rw [hk]; decide
    have q10 : (x.k == 10) = false := by rw [hk]; decide
    have q11 : (x.k == 11) = false := by rw [hk]; decide
    have q4 : (x.k == 4) = false := by rw [hk]; decide
    have q6 : (x.k == 6) = false := by rw [hk]; decide
    have q2 : (x.k == 2) = true := by rw [hk]; decide
    have E : Hid (labelGM x = labelM x.cm) := by unfold Hid labelGM; rw [if_neg (by omega), if_neg (by omega), if_pos (by omega)]
    clear q0 hk
    go_enter Tryd.func7, Tryd.ntmps7
    go_upto_region 3 with (first | (go_at_call 8; ((with_reducible refine (cA _ H0.out.bel).mono ?_); rintro e w1 ⟨rfl, hb1⟩; have H1 := Lib.hid (H0.out.below hb1); clear x0; have x0 := (H1.out.get 0 _ _ _ rfl).ldG)) | (go_at_call 9; ((with_reducible refine (cW _ H1.out.bel).mono ?_); rintro e w2 ⟨rfl, hb2⟩; have H2 := Lib.hid (H1.out.below hb2); clear x0; have x0 := (H2.out.get 0 _ _ _ rfl).ldG)) | (go_at_call 10; ((with_reducible refine (cF _ H2.out.bel).mono ?_); rintro e w3 ⟨rfl, hb3⟩; have H3 := Lib.hid (H2.out.below hb3); clear x0)))
    clear H0 H1 H2 cA cW cF
    have H3a := Lib.hid (H3.out.more #[.int .i64 0, .int .i64 0] 26)
    have NE : w3.heap.size ≠ w.heap.size := by have := (H3.out.get 0 _ _ _ rfl).lt; omega
    have GE : w.heap.size ≤ w3.heap.size := H3.out.bel.size
    have k0 := (H3.out.get 0 _ _ _ rfl).cell 0 _ rfl
    clear k0
    have k0 := (H3a.out.get 1 _ _ _ rfl).cell 0 _ rfl; have k7 := (H3a.out.get 1 _ _ _ rfl).cell 7 _ rfl; have k8 := (H3a.out.get 1 _ _ _ rfl).cell 8 _ rfl; have k9 := (H3a.out.get 1 _ _ _ rfl).cell 9 _ rfl; have k10 := (H3a.out.get 1 _ _ _ rfl).cell 10 _ rfl; have k11 := (H3a.out.get 1 _ _ _ rfl).cell 11 _ rfl; have k12 := (H3a.out.get 1 _ _ _ rfl).cell 12 _ rfl; have k13 := (H3a.out.get 1 _ _ _ rfl).cell 13 _ rfl; have k14 := (H3a.out.get 1 _ _ _ rfl).cell 14 _ rfl; have k15 := (H3a.out.get 1 _ _ _ rfl).cell 15 _ rfl; have k16 := (H3a.out.get 1 _ _ _ rfl).cell 16 _ rfl
    go_upto_region 15 with (go_at_call 21; ((with_reducible refine (cK _).mono ?_); rintro e v ⟨rfl, hv⟩; have HV := Lib.hid (H3a.out.below hv); have m0 := (HV.out.get 0 _ _ _ rfl).two.1; have m1 := (HV.out.get 0 _ _ _ rfl).two.2; have f0 := (HV.out.get 0 _ _ _ rfl).frozen 0; have f1 := (HV.out.get 0 _ _ _ rfl).frozen 1; clear hv))
    have H4 : Hid (Boxs w ((v.setCell ⟨w3.heap.size, 0, none⟩ (.int .i64 (labelM x.cm).1)).setCell ⟨w3.heap.size, 1, none⟩ (.int .i64 (labelM x.cm).2)) [(w3.heap.size, #[.int .i64 (labelGM x).1, .int .i64 (labelGM x).2], 26), (w.heap.size, mgV x, 39)]) := by
      rw [E.out]
      exact HV.out.set2 GE (fun b hb => by simp at hb; rw [hb]; omega)
    clear H3 H3a HV E m0 m1 f0 f1 k0 k7 k8 k9 k10 k11 k12 k13 k14 k15 k16 q8 q9 q10 q11 q4 q6 q2
    generalize (v.setCell ⟨w3.heap.size, 0, none⟩ (.int .i64 (labelM x.cm).1)).setCell ⟨w3.heap.size, 1, none⟩ (.int .i64 (labelM x.cm).2) = W4 at *
    generalize w3.heap.size = Q at *
    clear NE GE
    generalize labelGM x = V at *
    have x4 := (H4.out.get 1 _ _ _ rfl).ldG
    go_upto_region 16 with (go_at_call 17; ((with_reducible refine (dG _ H4.out.bel).mono ?_); rintro e w5 ⟨a5, n5, c5, rfl, ho5, hb5⟩; have H5 := Lib.hid (H4.out.below hb5); have O5 := Lib.hid ho5; clear ho5 hb5))
    have cR := dR.out _ a5 n5 c5 _ O5.out H5.out.bel
    clear x4 dG H4 O5 dR
    go_upto_region 17 with (first | (go_at_call 20; ((with_reducible refine cR.mono ?_); rintro e w6 ⟨y, L2, rfl, hM, hF, hE, hb6⟩; have H6 := Lib.hid (H5.out.below hb6); have cY := LB.out y L2 hE; have HZ : Hid (BoxC (w6.alloc (.cells (zeroGV 0) 39)) w6.heap.size (mgV (zeroG 0)) 39) := BoxC.new w6 (zeroGV 0) 39; clear hM hF hE hb6)) | (refine wpList_store_box rfl _ _ rfl w6.heap.size y rfl rfl (zeroG 0) HZ.out ?_))
    have H7 := Lib.hid (H6.out.made (zeroGV 0) (mgV y) 39)
    clear H5 H6 HZ cR LB
    generalize (w6.alloc (.cells (zeroGV 0) 39)).setRow w6.heap.size (mgV y) = W7 at *
    generalize w6.heap.size = P at *
    have Z0 := Lib.hid H7.out.drew
    have s0 : ((ldG (.pointer (some ⟨w.heap.size, 0, none⟩))).run Tryd.prog W7.drew = .ok (.agg (mgV x)) W7.drew ∧ (ldG (.pointer (some ⟨P, 0, none⟩))).run Tryd.prog W7.drew = .ok (.agg (mgV y)) W7.drew ∧ W7.drew.cell? ⟨Q, 0, none⟩ = some (.int .i64 V.1) ∧ W7.drew.cell? ⟨Q, 1, none⟩ = some (.int .i64 V.2)) := ⟨(Z0.out.get 2 _ _ _ rfl).ldG, (Z0.out.get 0 _ _ _ rfl).ldG, (Z0.out.get 1 _ _ _ rfl).two.1, (Z0.out.get 1 _ _ _ rfl).two.2⟩
    clear H7
    go_region_held3 (fun W => ((ldG (.pointer (some ⟨w.heap.size, 0, none⟩))).run Tryd.prog W = .ok (.agg (mgV x)) W ∧ (ldG (.pointer (some ⟨P, 0, none⟩))).run Tryd.prog W = .ok (.agg (mgV y)) W ∧ W.cell? ⟨Q, 0, none⟩ = some (.int .i64 V.1) ∧ W.cell? ⟨Q, 1, none⟩ = some (.int .i64 V.2))) (first | (with_reducible exact s0) | (with_reducible exact s1) | (with_reducible exact s2))
      (first | (go_at_call 13; ((with_reducible refine (cX _).mono ?_); rintro e v1 ⟨rfl, hv1⟩; have Z1 := Lib.hid (Z0.out.below hv1); have s1 : ((ldG (.pointer (some ⟨w.heap.size, 0, none⟩))).run Tryd.prog v1 = .ok (.agg (mgV x)) v1 ∧ (ldG (.pointer (some ⟨P, 0, none⟩))).run Tryd.prog v1 = .ok (.agg (mgV y)) v1 ∧ v1.cell? ⟨Q, 0, none⟩ = some (.int .i64 V.1) ∧ v1.cell? ⟨Q, 1, none⟩ = some (.int .i64 V.2)) := ⟨(Z1.out.get 2 _ _ _ rfl).ldG, (Z1.out.get 0 _ _ _ rfl).ldG, (Z1.out.get 1 _ _ _ rfl).two.1, (Z1.out.get 1 _ _ _ rfl).two.2⟩)) | (go_at_call 13; ((with_reducible refine (cY _).mono ?_); rintro e v2 ⟨rfl, hv2⟩; have Z2 := Lib.hid (Z1.out.below hv2); have s2 : ((ldG (.pointer (some ⟨w.heap.size, 0, none⟩))).run Tryd.prog v2 = .ok (.agg (mgV x)) v2 ∧ (ldG (.pointer (some ⟨P, 0, none⟩))).run Tryd.prog v2 = .ok (.agg (mgV y)) v2 ∧ v2.cell? ⟨Q, 0, none⟩ = some (.int .i64 V.1) ∧ v2.cell? ⟨Q, 1, none⟩ = some (.int .i64 V.2)) := ⟨(Z2.out.get 2 _ _ _ rfl).ldG, (Z2.out.get 0 _ _ _ rfl).ldG, (Z2.out.get 1 _ _ _ rfl).two.1, (Z2.out.get 1 _ _ _ rfl).two.2⟩)))
    go_wp2
    go_ret
    exact ⟨rfl, Z2.out.bel⟩
  have q0 : w.heap.size ≤ w.heap.size := Nat.le_refl _
  have q8 : (x.k == 8) = false := by simpa using h8
  have q9 : (x.k == 9) = false := by simpa using h9
  have q10 : (x.k == 10) = false := by simpa using h10
  have q11 : (x.k == 11) = false := by simpa using h11
  have q4 : (x.k == 4) = false := by simpa using h4
  have q6 : (x.k == 6) = false := by simpa using h6
  have q2 : (x.k == 2) = false := by simpa using h2
  have E : Hid (labelGM x = (0, 0)) := by unfold Hid labelGM; rw [if_neg (by omega), if_neg (by omega), if_neg (by omega)]
  clear q0 h8 h9 h10 h11 h4 h6 h2
  go_enter Tryd.func7, Tryd.ntmps7
  go_upto_region 3 with (first | (go_at_call 8; ((with_reducible refine (cA _ H0.out.bel).mono ?_); rintro e w1 ⟨rfl, hb1⟩; have H1 := Lib.hid (H0.out.below hb1); clear x0; have x0 := (H1.out.get 0 _ _ _ rfl).ldG)) | (go_at_call 9; ((with_reducible refine (cW _ H1.out.bel).mono ?_); rintro e w2 ⟨rfl, hb2⟩; have H2 := Lib.hid (H1.out.below hb2); clear x0; have x0 := (H2.out.get 0 _ _ _ rfl).ldG)) | (go_at_call 10; ((with_reducible refine (cF _ H2.out.bel).mono ?_); rintro e w3 ⟨rfl, hb3⟩; have H3 := Lib.hid (H2.out.below hb3); clear x0)))
  clear H0 H1 H2 cA cW cF
  have H3a := Lib.hid (H3.out.more #[.int .i64 0, .int .i64 0] 26)
  have NE : w3.heap.size ≠ w.heap.size := by have := (H3.out.get 0 _ _ _ rfl).lt; omega
  have GE : w.heap.size ≤ w3.heap.size := H3.out.bel.size
  have k0 := (H3.out.get 0 _ _ _ rfl).cell 0 _ rfl
  clear k0
  have k0 := (H3a.out.get 1 _ _ _ rfl).cell 0 _ rfl
  have m0 := (H3a.out.get 0 _ _ _ rfl).two.1; have m1 := (H3a.out.get 0 _ _ _ rfl).two.2; have f0 := (H3a.out.get 0 _ _ _ rfl).frozen 0; have f1 := (H3a.out.get 0 _ _ _ rfl).frozen 1
  go_upto_region 15 with (fail)
  have H4 : Hid (Boxs w (w3.alloc (.cells #[.int .i64 0, .int .i64 0] 26)) [(w3.heap.size, #[.int .i64 (labelGM x).1, .int .i64 (labelGM x).2], 26), (w.heap.size, mgV x, 39)]) := by
    rw [E.out]
    exact H3a.out
  clear H3 H3a E m0 m1 f0 f1 k0 q8 q9 q10 q11 q4 q6 q2
  generalize w3.alloc (.cells #[.int .i64 0, .int .i64 0] 26) = W4 at *
  generalize w3.heap.size = Q at *
  clear NE GE
  generalize labelGM x = V at *
  have x4 := (H4.out.get 1 _ _ _ rfl).ldG
  go_upto_region 16 with (go_at_call 17; ((with_reducible refine (dG _ H4.out.bel).mono ?_); rintro e w5 ⟨a5, n5, c5, rfl, ho5, hb5⟩; have H5 := Lib.hid (H4.out.below hb5); have O5 := Lib.hid ho5; clear ho5 hb5))
  have cR := dR.out _ a5 n5 c5 _ O5.out H5.out.bel
  clear x4 dG H4 O5 dR
  go_upto_region 17 with (first | (go_at_call 20; ((with_reducible refine cR.mono ?_); rintro e w6 ⟨y, L2, rfl, hM, hF, hE, hb6⟩; have H6 := Lib.hid (H5.out.below hb6); have cY := LB.out y L2 hE; have HZ : Hid (BoxC (w6.alloc (.cells (zeroGV 0) 39)) w6.heap.size (mgV (zeroG 0)) 39) := BoxC.new w6 (zeroGV 0) 39; clear hM hF hE hb6)) | (refine wpList_store_box rfl _ _ rfl w6.heap.size y rfl rfl (zeroG 0) HZ.out ?_))
  have H7 := Lib.hid (H6.out.made (zeroGV 0) (mgV y) 39)
  clear H5 H6 HZ cR LB
  generalize (w6.alloc (.cells (zeroGV 0) 39)).setRow w6.heap.size (mgV y) = W7 at *
  generalize w6.heap.size = P at *
  have Z0 := Lib.hid H7.out.drew
  have s0 : ((ldG (.pointer (some ⟨w.heap.size, 0, none⟩))).run Tryd.prog W7.drew = .ok (.agg (mgV x)) W7.drew ∧ (ldG (.pointer (some ⟨P, 0, none⟩))).run Tryd.prog W7.drew = .ok (.agg (mgV y)) W7.drew ∧ W7.drew.cell? ⟨Q, 0, none⟩ = some (.int .i64 V.1) ∧ W7.drew.cell? ⟨Q, 1, none⟩ = some (.int .i64 V.2)) := ⟨(Z0.out.get 2 _ _ _ rfl).ldG, (Z0.out.get 0 _ _ _ rfl).ldG, (Z0.out.get 1 _ _ _ rfl).two.1, (Z0.out.get 1 _ _ _ rfl).two.2⟩
  clear H7
  go_region_held3 (fun W => ((ldG (.pointer (some ⟨w.heap.size, 0, none⟩))).run Tryd.prog W = .ok (.agg (mgV x)) W ∧ (ldG (.pointer (some ⟨P, 0, none⟩))).run Tryd.prog W = .ok (.agg (mgV y)) W ∧ W.cell? ⟨Q, 0, none⟩ = some (.int .i64 V.1) ∧ W.cell? ⟨Q, 1, none⟩ = some (.int .i64 V.2))) (first | (with_reducible exact s0) | (with_reducible exact s1) | (with_reducible exact s2))
    (first | (go_at_call 13; ((with_reducible refine (cX _).mono ?_); rintro e v1 ⟨rfl, hv1⟩; have Z1 := Lib.hid (Z0.out.below hv1); have s1 : ((ldG (.pointer (some ⟨w.heap.size, 0, none⟩))).run Tryd.prog v1 = .ok (.agg (mgV x)) v1 ∧ (ldG (.pointer (some ⟨P, 0, none⟩))).run Tryd.prog v1 = .ok (.agg (mgV y)) v1 ∧ v1.cell? ⟨Q, 0, none⟩ = some (.int .i64 V.1) ∧ v1.cell? ⟨Q, 1, none⟩ = some (.int .i64 V.2)) := ⟨(Z1.out.get 2 _ _ _ rfl).ldG, (Z1.out.get 0 _ _ _ rfl).ldG, (Z1.out.get 1 _ _ _ rfl).two.1, (Z1.out.get 1 _ _ _ rfl).two.2⟩)) | (go_at_call 13; ((with_reducible refine (cY _).mono ?_); rintro e v2 ⟨rfl, hv2⟩; have Z2 := Lib.hid (Z1.out.below hv2); have s2 : ((ldG (.pointer (some ⟨w.heap.size, 0, none⟩))).run Tryd.prog v2 = .ok (.agg (mgV x)) v2 ∧ (ldG (.pointer (some ⟨P, 0, none⟩))).run Tryd.prog v2 = .ok (.agg (mgV y)) v2 ∧ v2.cell? ⟨Q, 0, none⟩ = some (.int .i64 V.1) ∧ v2.cell? ⟨Q, 1, none⟩ = some (.int .i64 V.2)) := ⟨(Z2.out.get 2 _ _ _ rfl).ldG, (Z2.out.get 0 _ _ _ rfl).ldG, (Z2.out.get 1 _ _ _ rfl).two.1, (Z2.out.get 1 _ _ _ rfl).two.2⟩)))
  go_wp2
  go_ret
  exact ⟨rfl, Z2.out.bel⟩
end Go.Proofs.YtcgfhjkdgpgheaaDoor
