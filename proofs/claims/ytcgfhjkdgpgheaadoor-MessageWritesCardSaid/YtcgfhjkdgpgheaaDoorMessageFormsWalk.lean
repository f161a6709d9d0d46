/- The walk of the statement MessageForms. Conditions: the messages' lists lie in memory; the tables of utf8 lie there. -/
import Derived.Test.YtcgfhjkdgpgheaaDoorGU
import Derived.Test.YtcgfhjkdgpgheaaDoorGT
import Derived.Test.YtcgfhjkdgpgheaaDoorGV
import Derived.Test.YtcgfhjkdgpgheaaDoorMessageRefSame
import Derived.Test.YtcgfhjkdgpgheaaDoorMessageLoad
import Derived.Deep.RegionHeld3
namespace Go.Proofs.YtcgfhjkdgpgheaaDoor

open Go.RowKit

set_option linter.unusedVariables false

theorem fewG_F {w : World} {x : MgM} {L : MgL} (h : MgAt w x L) (hf : fewG x L = true) : MgF x := by
  unfold fewG at hf
  simp only [Bool.and_eq_true, decide_eq_true_eq] at hf
  obtain ⟨h1, h2, h3, h4, h5⟩ := hf
  have a1 := fewT_len h1
  have a2 := fewT_len h2
  have b1 := h.cm.tx.lenR
  have b2 := h.cm.tx.lenW
  have b3 := h.tx.lenR
  have b4 := h.tx.lenW
  exact ⟨by omega, by omega, by omega, by omega, by omega⟩
set_option maxRecDepth 100000 in
set_option maxHeartbeats 8000000 in
theorem forms10_walk (x y : MgM) (L L' : MgL) (w : World) (h : MgAt w x L) (h' : MgAt w y L') (hU : Tabs w) :
    Calls Tryd.prog 3 #[.agg (mgV x), .agg (mgV y)] w (Says w true) := by
  have H0 := Lib.hid (((Boxs.start w).more (mgV x) 39).more (mgV y) 39)
  have hs : (w.alloc (.cells (mgV x) 39)).heap.size = w.heap.size + 1 := by simp
  rw [hs] at H0
  clear hs
  have cA := fun W (hW : Below w.heap.size w W) => awake10_any W (hU.below hW)
  have cW := fun W (hW : Below w.heap.size w W) => fewG_any x L W (h.later hW)
  have cW' := fun W (hW : Below w.heap.size w W) => fewG_any y L' W (h'.later hW)
  have x0 := (H0.out.get 1 _ _ _ rfl).ldG
  have y0 := (H0.out.get 0 _ _ _ rfl).ldG
  cases hf : fewG x L
  · rw [hf] at cW
    clear hf cW' h h' hU y0
    go_enter Tryd.func3, Tryd.ntmps3
    go_wp2_with (first | (go_at_call 8; ((with_reducible refine (cA _ H0.out.bel).mono ?_); rintro e w1 ⟨rfl, hb1⟩; have H1 := Lib.hid (H0.out.below hb1); clear x0; have x0 := (H1.out.get 1 _ _ _ rfl).ldG)) | (go_at_call 9; ((with_reducible refine (cW _ H1.out.bel).mono ?_); rintro e w2 ⟨rfl, hb2⟩; have H2 := Lib.hid (H1.out.below hb2))) | (go_at_call 8; ((with_reducible refine (cA _ H2.out.bel).mono ?_); rintro e w3 ⟨rfl, hb3⟩; have H3 := Lib.hid (H2.out.below hb3))))
    go_ret
    exact ⟨rfl, H3.out.bel⟩
  rw [hf] at cW
  cases hf' : fewG y L'
  · rw [hf'] at cW'
    clear hf hf' h h' hU
    go_enter Tryd.func3, Tryd.ntmps3
    go_wp2_with (first | (go_at_call 8; ((with_reducible refine (cA _ H0.out.bel).mono ?_); rintro e w1 ⟨rfl, hb1⟩; have H1 := Lib.hid (H0.out.below hb1); (clear x0 y0); have x0 := (H1.out.get 1 _ _ _ rfl).ldG; have y0 := (H1.out.get 0 _ _ _ rfl).ldG)) | (go_at_call 9; ((with_reducible refine (cW _ H1.out.bel).mono ?_); rintro e w2 ⟨rfl, hb2⟩; have H2 := Lib.hid (H1.out.below hb2); (clear x0 y0); have y0 := (H2.out.get 0 _ _ _ rfl).ldG)) | (go_at_call 9; ((with_reducible refine (cW' _ H2.out.bel).mono ?_); rintro e w3 ⟨rfl, hb3⟩; have H3 := Lib.hid (H2.out.below hb3))) | (go_at_call 8; ((with_reducible refine (cA _ H3.out.bel).mono ?_); rintro e w4 ⟨rfl, hb4⟩; have H4 := Lib.hid (H3.out.below hb4))))
    go_ret
    exact ⟨rfl, H4.out.bel⟩
  rw [hf'] at cW'
  have fx := fewG_F h hf
  have fy := fewG_F h' hf'
  have cF := fun W (hW : Below w.heap.size w W) => gFormed_any x L W (h.later hW) fx (hU.below hW)
  have cF2 := fun W (hW : Below w.heap.size w W) => rFormedG_any x L W (h.later hW) fx
  have cL := fun W (hW : Below w.heap.size w W) => gLabel_any x W
  have cL2 := fun W (hW : Below w.heap.size w W) => rLabel_any x W
  have cP := fun W (hW : Below w.heap.size w W) => plain_any x W
  have cP' := fun W (hW : Below w.heap.size w W) => plain_any y W
  have cS := fun W (hW : Below w.heap.size w W) => gSame_any x y L L' W (h.later hW) (h'.later hW) fx fy
  have cS2 := fun W (hW : Below w.heap.size w W) => rgSame_any x y L L' W (h.later hW) (h'.later hW) fx fy
  have cS3 := fun W (hW : Below w.heap.size w W) => gSame_any x x L L W (h.later hW) (h.later hW) fx fx
  rw [sameG_iff] at cS
  rw [sameG_iff, eqB_self] at cS3
  generalize formMg (mgT x L) = B1 at cF cF2
  generalize labelGM x = B2 at cL cL2
  generalize eqB (mgT x L) (mgT y L') = B3 at cS cS2
  clear hf hf' h h' hU fx fy
  go_enter Tryd.func3, Tryd.ntmps3
  go_upto_region 3 with (first | (go_at_call 8; ((with_reducible refine (cA _ H0.out.bel).mono ?_); rintro e w1 ⟨rfl, hb1⟩; have H1 := Lib.hid (H0.out.below hb1); (clear x0 y0); have x0 := (H1.out.get 1 _ _ _ rfl).ldG; have y0 := (H1.out.get 0 _ _ _ rfl).ldG)) | (go_at_call 9; ((with_reducible refine (cW _ H1.out.bel).mono ?_); rintro e w2 ⟨rfl, hb2⟩; have H2 := Lib.hid (H1.out.below hb2); (clear x0 y0); have y0 := (H2.out.get 0 _ _ _ rfl).ldG)) | (go_at_call 9; ((with_reducible refine (cW' _ H2.out.bel).mono ?_); rintro e w3 ⟨rfl, hb3⟩; have H3 := Lib.hid (H2.out.below hb3))))
  have Z0 := Lib.hid H3.out.drew
  have s0 : ((ldG (.pointer (some ⟨w.heap.size, 0, none⟩))).run Tryd.prog w3.drew = .ok (.agg (mgV x)) w3.drew ∧ (ldG (.pointer (some ⟨w.heap.size + 1, 0, none⟩))).run Tryd.prog w3.drew = .ok (.agg (mgV y)) w3.drew) := ⟨(Z0.out.get 1 _ _ _ rfl).ldG, (Z0.out.get 0 _ _ _ rfl).ldG⟩
  clear H0 H1 H2 H3 cA cW cW' y0
  go_region_held3 (fun W => ((ldG (.pointer (some ⟨w.heap.size, 0, none⟩))).run Tryd.prog W = .ok (.agg (mgV x)) W ∧ (ldG (.pointer (some ⟨w.heap.size + 1, 0, none⟩))).run Tryd.prog W = .ok (.agg (mgV y)) W)) (first | (with_reducible exact s0) | (with_reducible exact s1) | (with_reducible exact s2) | (with_reducible exact s3) | (with_reducible exact s4) | (with_reducible exact s5) | (with_reducible exact s6) | (with_reducible exact s7) | (with_reducible exact s8) | (with_reducible exact s9) | (with_reducible exact s10) | (with_reducible exact s11))
    (first | (go_at_call 10; ((with_reducible refine (cF _ Z0.out.bel).mono ?_); rintro e v0 ⟨rfl, hv0⟩; have Z1 := Lib.hid (Z0.out.below hv0); have s1 : ((ldG (.pointer (some ⟨w.heap.size, 0, none⟩))).run Tryd.prog v0 = .ok (.agg (mgV x)) v0 ∧ (ldG (.pointer (some ⟨w.heap.size + 1, 0, none⟩))).run Tryd.prog v0 = .ok (.agg (mgV y)) v0) := ⟨(Z1.out.get 1 _ _ _ rfl).ldG, (Z1.out.get 0 _ _ _ rfl).ldG⟩)) | (go_at_call 12; ((with_reducible refine (cP _ Z1.out.bel).mono ?_); rintro e v1 ⟨rfl, hv1⟩; have Z2 := Lib.hid (Z1.out.below hv1); have s2 : ((ldG (.pointer (some ⟨w.heap.size, 0, none⟩))).run Tryd.prog v1 = .ok (.agg (mgV x)) v1 ∧ (ldG (.pointer (some ⟨w.heap.size + 1, 0, none⟩))).run Tryd.prog v1 = .ok (.agg (mgV y)) v1) := ⟨(Z2.out.get 1 _ _ _ rfl).ldG, (Z2.out.get 0 _ _ _ rfl).ldG⟩)) | (go_at_call 11; ((with_reducible refine (cF2 _ Z2.out.bel).mono ?_); rintro e v2 ⟨rfl, hv2⟩; have Z3 := Lib.hid (Z2.out.below hv2); have s3 : ((ldG (.pointer (some ⟨w.heap.size, 0, none⟩))).run Tryd.prog v2 = .ok (.agg (mgV x)) v2 ∧ (ldG (.pointer (some ⟨w.heap.size + 1, 0, none⟩))).run Tryd.prog v2 = .ok (.agg (mgV y)) v2) := ⟨(Z3.out.get 1 _ _ _ rfl).ldG, (Z3.out.get 0 _ _ _ rfl).ldG⟩)) | (go_at_call 13; ((with_reducible refine (cL _ Z3.out.bel).mono ?_); rintro e v3 ⟨rfl, hv3⟩; have Z4 := Lib.hid (Z3.out.below hv3); have s4 : ((ldG (.pointer (some ⟨w.heap.size, 0, none⟩))).run Tryd.prog v3 = .ok (.agg (mgV x)) v3 ∧ (ldG (.pointer (some ⟨w.heap.size + 1, 0, none⟩))).run Tryd.prog v3 = .ok (.agg (mgV y)) v3) := ⟨(Z4.out.get 1 _ _ _ rfl).ldG, (Z4.out.get 0 _ _ _ rfl).ldG⟩)) | (go_at_call 12; ((with_reducible refine (cP _ Z4.out.bel).mono ?_); rintro e v4 ⟨rfl, hv4⟩; have Z5 := Lib.hid (Z4.out.below hv4); have s5 : ((ldG (.pointer (some ⟨w.heap.size, 0, none⟩))).run Tryd.prog v4 = .ok (.agg (mgV x)) v4 ∧ (ldG (.pointer (some ⟨w.heap.size + 1, 0, none⟩))).run Tryd.prog v4 = .ok (.agg (mgV y)) v4) := ⟨(Z5.out.get 1 _ _ _ rfl).ldG, (Z5.out.get 0 _ _ _ rfl).ldG⟩)) | (go_at_call 14; ((with_reducible refine (cL2 _ Z5.out.bel).mono ?_); rintro e v5 ⟨rfl, hv5⟩; have Z6 := Lib.hid (Z5.out.below hv5); have s6 : ((ldG (.pointer (some ⟨w.heap.size, 0, none⟩))).run Tryd.prog v5 = .ok (.agg (mgV x)) v5 ∧ (ldG (.pointer (some ⟨w.heap.size + 1, 0, none⟩))).run Tryd.prog v5 = .ok (.agg (mgV y)) v5) := ⟨(Z6.out.get 1 _ _ _ rfl).ldG, (Z6.out.get 0 _ _ _ rfl).ldG⟩)) | (go_at_call 15; ((with_reducible refine (cS _ Z6.out.bel).mono ?_); rintro e v6 ⟨rfl, hv6⟩; have Z7 := Lib.hid (Z6.out.below hv6); have s7 : ((ldG (.pointer (some ⟨w.heap.size, 0, none⟩))).run Tryd.prog v6 = .ok (.agg (mgV x)) v6 ∧ (ldG (.pointer (some ⟨w.heap.size + 1, 0, none⟩))).run Tryd.prog v6 = .ok (.agg (mgV y)) v6) := ⟨(Z7.out.get 1 _ _ _ rfl).ldG, (Z7.out.get 0 _ _ _ rfl).ldG⟩)) | (go_at_call 12; ((with_reducible refine (cP _ Z7.out.bel).mono ?_); rintro e v7 ⟨rfl, hv7⟩; have Z8 := Lib.hid (Z7.out.below hv7); have s8 : ((ldG (.pointer (some ⟨w.heap.size, 0, none⟩))).run Tryd.prog v7 = .ok (.agg (mgV x)) v7 ∧ (ldG (.pointer (some ⟨w.heap.size + 1, 0, none⟩))).run Tryd.prog v7 = .ok (.agg (mgV y)) v7) := ⟨(Z8.out.get 1 _ _ _ rfl).ldG, (Z8.out.get 0 _ _ _ rfl).ldG⟩)) | (go_at_call 12; ((with_reducible refine (cP' _ Z8.out.bel).mono ?_); rintro e v8 ⟨rfl, hv8⟩; have Z9 := Lib.hid (Z8.out.below hv8); have s9 : ((ldG (.pointer (some ⟨w.heap.size, 0, none⟩))).run Tryd.prog v8 = .ok (.agg (mgV x)) v8 ∧ (ldG (.pointer (some ⟨w.heap.size + 1, 0, none⟩))).run Tryd.prog v8 = .ok (.agg (mgV y)) v8) := ⟨(Z9.out.get 1 _ _ _ rfl).ldG, (Z9.out.get 0 _ _ _ rfl).ldG⟩)) | (go_at_call 16; ((with_reducible refine (cS2 _ Z9.out.bel).mono ?_); rintro e v9 ⟨rfl, hv9⟩; have Z10 := Lib.hid (Z9.out.below hv9); have s10 : ((ldG (.pointer (some ⟨w.heap.size, 0, none⟩))).run Tryd.prog v9 = .ok (.agg (mgV x)) v9 ∧ (ldG (.pointer (some ⟨w.heap.size + 1, 0, none⟩))).run Tryd.prog v9 = .ok (.agg (mgV y)) v9) := ⟨(Z10.out.get 1 _ _ _ rfl).ldG, (Z10.out.get 0 _ _ _ rfl).ldG⟩)) | (go_at_call 15; ((with_reducible refine (cS3 _ Z10.out.bel).mono ?_); rintro e v10 ⟨rfl, hv10⟩; have Z11 := Lib.hid (Z10.out.below hv10); have s11 : ((ldG (.pointer (some ⟨w.heap.size, 0, none⟩))).run Tryd.prog v10 = .ok (.agg (mgV x)) v10 ∧ (ldG (.pointer (some ⟨w.heap.size + 1, 0, none⟩))).run Tryd.prog v10 = .ok (.agg (mgV y)) v10) := ⟨(Z11.out.get 1 _ _ _ rfl).ldG, (Z11.out.get 0 _ _ _ rfl).ldG⟩)))
  go_wp2
  go_ret
  exact ⟨rfl, Z11.out.bel⟩
end Go.Proofs.YtcgfhjkdgpgheaaDoor
