/- The walk of the statement MessageBack. Conditions: the message's lists lie in memory; the tables of utf8 lie there. -/
import Derived.Test.YtcgfhjkdgpgheaaDoorHI
import Derived.Test.YtcgfhjkdgpgheaaDoorMessageRefSame
namespace Go.Proofs.YtcgfhjkdgpgheaaDoor

open Go.RowKit

set_option linter.unusedVariables false

theorem u8_back (k : Nat) (h : k < 256) : ((k : Nat) : Int) = (((UInt8.ofNat k).toNat : Nat) : Int) := by
  have : (UInt8.ofNat k).toNat = k := by simp; omega
  rw [this]
set_option maxRecDepth 100000 in
set_option maxHeartbeats 16000000 in
theorem back10_walk (x : MgM) (L : MgL) (kk : Nat) (w : World) (h : MgAt w x L) (hkk : kk < 256) (hU : Tabs w) :
    Calls Tryd.prog 5 #[.agg (mgV x), .int .u8 ((kk : Nat) : Int)] w (Says w true) := by
  obtain ⟨i0, hi, hz0, hz1, hz2⟩ := info_parts Tryd.info5
  have H0 := Lib.hid ((Boxs.start w).more (mgV x) 39)
  have cA := fun W (hW : Below w.heap.size w W) => awake10_any W (hU.below hW)
  have cW := fun W (hW : Below w.heap.size w W) => fewG_any x L W (h.later hW)
  have x0 := (H0.out.get 0 _ _ _ rfl).ldG
  cases hf : fewG x L
  · rw [hf] at cW
    clear hf h hU
    go_enter Tryd.func5, Tryd.ntmps5
    go_wp2_with (first | (go_at_call 8; ((with_reducible refine (cA _ H0.out.bel).mono ?_); rintro e w1 ⟨rfl, hb1⟩; have H1 := Lib.hid (H0.out.below hb1); clear x0; have x0 := (H1.out.get 0 _ _ _ rfl).ldG)) | (go_at_call 9; ((with_reducible refine (cW _ H1.out.bel).mono ?_); rintro e w2 ⟨rfl, hb2⟩; have H2 := Lib.hid (H1.out.below hb2))) | (go_at_call 8; ((with_reducible refine (cA _ H2.out.bel).mono ?_); rintro e w3 ⟨rfl, hb3⟩; have H3 := Lib.hid (H2.out.below hb3))))
    go_ret
    exact ⟨rfl, H3.out.bel⟩
  rw [hf] at cW
  have fx := few_F h hf
  have cF := fun W (hW : Below w.heap.size w W) => gFormed_any x L W (h.later hW) fx (hU.below hW)
  clear hf
  cases hm : formMg (mgT x L)
  · rw [hm] at cF
    clear hm h hU fx
    go_enter Tryd.func5, Tryd.ntmps5
    go_wp2_with (first | (go_at_call 8; ((with_reducible refine (cA _ H0.out.bel).mono ?_); rintro e w1 ⟨rfl, hb1⟩; have H1 := Lib.hid (H0.out.below hb1); clear x0; have x0 := (H1.out.get 0 _ _ _ rfl).ldG)) | (go_at_call 9; ((with_reducible refine (cW _ H1.out.bel).mono ?_); rintro e w2 ⟨rfl, hb2⟩; have H2 := Lib.hid (H1.out.below hb2); clear x0; have x0 := (H2.out.get 0 _ _ _ rfl).ldG)) | (go_at_call 10; ((with_reducible refine (cF _ H2.out.bel).mono ?_); rintro e w3 ⟨rfl, hb3⟩; have H3 := Lib.hid (H2.out.below hb3))) | (go_at_call 8; ((with_reducible refine (cA _ H3.out.bel).mono ?_); rintro e w4 ⟨rfl, hb4⟩; have H4 := Lib.hid (H3.out.below hb4))))
    go_ret
    exact ⟨rfl, H4.out.bel⟩
  rw [hm] at cF
  have dG : ∀ W, Below w.heap.size w W → Calls Tryd.prog 17 #[.agg (mgV x)] W (WrZ W (mgB (mgT x L)) 0) := fun W hW => by
    have h1 := gWrite_any x L W (h.later hW) fx (hU.below hW)
    rw [hm] at h1; exact h1
  have dR : Hid (∀ W a n c B, W.ownsRow B 5 1 (.slice a n c) n (bcells (mgB (mgT x L))) → Below w.heap.size w W → Calls Tryd.prog 20 #[.slice a n c] W (GotM x L W)) := fun W a n c B ho hW => read_back h hm W a n c B ho (hU.below hW)
  have dS : Hid (∀ y L2 W, MgAt W y L2 → MgF y → mgT y L2 = mgT x L → Below w.heap.size w W → Calls Tryd.prog 16 #[.agg (mgV x), .agg (mgV y)] W (Says W true)) := fun y L2 W hM hF hE hW => by
    have h1 := rgSame_any x y L L2 W (h.later hW) hM fx hF
    rw [hE, eqB_self] at h1; exact h1
  have dN : Hid (∀ W a n c, BAt W W.heap.size a n (mgB (mgT x L) ++ [UInt8.ofNat kk]) → n ≤ 1099511627776 → Below w.heap.size w W → Calls Tryd.prog 20 #[.slice a n c] W (GotN W)) := fun W a n c hl hn hW => read_none W a n c _ hl hn (hU.below hW) (long_no h hm _)
  have dC : Hid (∀ W a n c, BAt W W.heap.size a n ((mgB (mgT x L)).take ((mgB (mgT x L)).length - 1)) → n ≤ 1099511627776 → Below w.heap.size w W → Calls Tryd.prog 20 #[.slice a n c] W (GotN W)) := fun W a n c hl hn hW => read_none W a n c _ hl hn (hU.below hW) (short_no h hm)
  have cP := fun z W => plain_any z W
  have LM := Lib.hid (mgB_max h hm)
  have LP := Lib.hid (mgB_pos (mgT x L))
  have EU := Lib.hid (u8_back kk hkk)
  have HU := Lib.hid hU
  clear hm h hU fx
  generalize mgB (mgT x L) = l at *
  go_enter Tryd.func5, Tryd.ntmps5
  go_upto_region 3 with (first | (go_at_call 8; ((with_reducible refine (cA _ H0.out.bel).mono ?_); rintro e w1 ⟨rfl, hb1⟩; have H1 := Lib.hid (H0.out.below hb1); clear x0; have x0 := (H1.out.get 0 _ _ _ rfl).ldG)) | (go_at_call 9; ((with_reducible refine (cW _ H1.out.bel).mono ?_); rintro e w2 ⟨rfl, hb2⟩; have H2 := Lib.hid (H1.out.below hb2); clear x0; have x0 := (H2.out.get 0 _ _ _ rfl).ldG)) | (go_at_call 10; ((with_reducible refine (cF _ H2.out.bel).mono ?_); rintro e w3 ⟨rfl, hb3⟩; have H3 := Lib.hid (H2.out.below hb3); clear x0)))
  clear H0 H1 H2 cA cW cF
  have x3 := (H3.out.get 0 _ _ _ rfl).ldG
  go_upto_region 4 with (go_at_call 17; ((with_reducible refine (dG _ H3.out.bel).mono ?_); rintro e w5 ⟨a5, n5, c5, rfl, ho5, hb5⟩; have H5 := Lib.hid (H3.out.below hb5); have O5 := Lib.hid ho5; clear ho5 hb5))
  obtain ⟨p, rfl⟩ : ∃ p, n5 = p + 1 := ⟨n5 - 1, by have h1 := own_len O5.out; have h2 := LP.out; omega⟩
  obtain ⟨bb, off, rfl, _⟩ := (BAt.of_own O5.out).addr (by omega)
  obtain ⟨_, _, e5, hc5, hm5, _⟩ := own_form O5.out
  injection e5 with e51 e52 e53
  subst e53
  have CC := Lib.hid hc5
  have CM := Lib.hid hm5
  have PM : Hid (p + 1 ≤ 9100001) := by have h1 := own_len O5.out; have h2 := LM.out; unfold Hid; omega
  clear e51 e52 hc5 hm5
  have cR := dR.out _ _ (p + 1) c5 _ O5.out H5.out.bel
  clear x3 dG H3 dR
  go_upto_region 5 with (first | (go_at_call 20; ((with_reducible refine cR.mono ?_); rintro e w6 ⟨y, L2, rfl, hM, hF, hE, hb6⟩; have H6 := Lib.hid (H5.out.below hb6); have O6 := Lib.hid (own_below O5.out hb6); have M6 := Lib.hid hM; have F6 := Lib.hid hF; have E6 := Lib.hid hE; have HZ : Hid (BoxC (w6.alloc (.cells (zeroGV 0) 39)) w6.heap.size (mgV (zeroG 0)) 39) := BoxC.new w6 (zeroGV 0) 39; clear hM hF hE hb6)) | (refine wpList_store_box rfl _ _ rfl w6.heap.size y rfl rfl (zeroG 0) HZ.out ?_))
  have H7 := Lib.hid (H6.out.made (zeroGV 0) (mgV y) 39)
  have BM := below_made w6 (zeroGV 0) (mgV y) 39
  have O7 := Lib.hid (own_below O6.out BM)
  have M7 := Lib.hid (M6.out.later BM)
  clear H5 H6 HZ cR O5 O6 M6 BM
  generalize (w6.alloc (.cells (zeroGV 0) 39)).setRow w6.heap.size (mgV y) = W7 at *
  generalize w6.heap.size = P at *
  have Z0 := Lib.hid H7.out.drew
  have B0 : Below W7.heap.size W7 W7.drew := below_drewN 1 (Below.refl _ _)
  have O8 := Lib.hid (own_below O7.out B0)
  have M8 := Lib.hid (M7.out.later B0)
  have s0 : ((ldG (.pointer (some ⟨w.heap.size, 0, none⟩))).run Tryd.prog W7.drew = .ok (.agg (mgV x)) W7.drew ∧ (ldG (.pointer (some ⟨P, 0, none⟩))).run Tryd.prog W7.drew = .ok (.agg (mgV y)) W7.drew) := ⟨(Z0.out.get 1 _ _ _ rfl).ldG, (Z0.out.get 0 _ _ _ rfl).ldG⟩
  have hl0 : (((p + 1 : Nat) : Int) == 0) = false := by simp only [beq_eq_false_iff_ne, ne_eq]; omega
  clear H7 O7 M7 B0
  go_region_held3 (fun W => ((ldG (.pointer (some ⟨w.heap.size, 0, none⟩))).run Tryd.prog W = .ok (.agg (mgV x)) W ∧ (ldG (.pointer (some ⟨P, 0, none⟩))).run Tryd.prog W = .ok (.agg (mgV y)) W)) (first | (with_reducible exact s0) | (with_reducible exact s1) | (with_reducible exact s2) | (with_reducible exact s3))
    (first | (go_at_call 12; ((with_reducible refine (cP x _).mono ?_); rintro e v1 ⟨rfl, hv1⟩; have Z1 := Lib.hid (Z0.out.below hv1); have O9 := Lib.hid (own_below O8.out hv1); have M9 := Lib.hid (M8.out.later hv1); have s1 : ((ldG (.pointer (some ⟨w.heap.size, 0, none⟩))).run Tryd.prog v1 = .ok (.agg (mgV x)) v1 ∧ (ldG (.pointer (some ⟨P, 0, none⟩))).run Tryd.prog v1 = .ok (.agg (mgV y)) v1) := ⟨(Z1.out.get 1 _ _ _ rfl).ldG, (Z1.out.get 0 _ _ _ rfl).ldG⟩)) | (go_at_call 12; ((with_reducible refine (cP y _).mono ?_); rintro e v2 ⟨rfl, hv2⟩; have Z2 := Lib.hid (Z1.out.below hv2); have O10 := Lib.hid (own_below O9.out hv2); have M10 := Lib.hid (M9.out.later hv2); have s2 : ((ldG (.pointer (some ⟨w.heap.size, 0, none⟩))).run Tryd.prog v2 = .ok (.agg (mgV x)) v2 ∧ (ldG (.pointer (some ⟨P, 0, none⟩))).run Tryd.prog v2 = .ok (.agg (mgV y)) v2) := ⟨(Z2.out.get 1 _ _ _ rfl).ldG, (Z2.out.get 0 _ _ _ rfl).ldG⟩)) | (go_at_call 16; ((with_reducible refine (dS.out y L2 _ M10.out F6.out E6.out Z2.out.bel).mono ?_); rintro e v3 ⟨rfl, hv3⟩; have Z3 := Lib.hid (Z2.out.below hv3); have O11 := Lib.hid (own_below O10.out hv3); have s3 : ((ldG (.pointer (some ⟨w.heap.size, 0, none⟩))).run Tryd.prog v3 = .ok (.agg (mgV x)) v3 ∧ (ldG (.pointer (some ⟨P, 0, none⟩))).run Tryd.prog v3 = .ok (.agg (mgV y)) v3) := ⟨(Z3.out.get 1 _ _ _ rfl).ldG, (Z3.out.get 0 _ _ _ rfl).ldG⟩)))
  go_upto_region 8 with (fail)
  have b8 := Lib.hid (BAt.of_own O11.out)
  have pm := PM.out
  clear Z0 Z1 Z2 O8 O9 O10 M8 M9 M10 F6 E6 dS cP s0 hl0
  go_upto_region 9 with (at_builtin; (refine wpList_append_bytes _ rfl _ _ 37 rfl v3.heap.size 5 i0 Tryd.underlying37 hi hz0 hz1 hz2 _ 0 [] rfl (World.ownsRow_nil _ _ _ _) v3.heap.size (some ⟨bb, off, none⟩) (p + 1) l c5 rfl b8.out (by omega) (Nat.le_refl _) ?_; intro v8 w8 ho8 hg8; rw [Nat.zero_add, List.nil_append] at ho8; have P8 : Hid (PutIn v3 w8 v8 (p + 1) l) := ⟨ho8, (Below.refl _ _).grown hg8 (Nat.le_refl _) (by intro j hj; cases hj)⟩; clear ho8 hg8))
  go_upto_region 10 with (at_builtin; (refine wpList_append_bytes _ rfl _ _ 37 rfl v3.heap.size 5 i0 Tryd.underlying37 hi hz0 hz1 hz2 _ (p + 1) l rfl (P8.out.own.alloc _) (w8.heap.size + 1) (some ⟨w8.heap.size, 0, none⟩) 1 [UInt8.ofNat kk] 1 rfl (BAt.one _ _ _ _ EU.out) (by omega) (by have := P8.out.bel.size; simp; omega) ?_; intro v9 w9 ho9 hg9; have P9 := Lib.hid (P8.out.next ho9 hg9); clear ho9 hg9))
  obtain ⟨a9, c9, rfl⟩ := P9.out.form
  have B9 : Hid (Below w.heap.size w w9) := Z3.out.bel.trans (P9.out.bel.mono Z3.out.bel.size)
  have OB := Lib.hid (own_below O11.out P9.out.bel)
  have cN := dN.out w9 a9 (p + 1 + 1) c9 P9.out.bat (by omega) B9.out
  clear dN P8 b8 O11 Z3
  go_upto_region 11 with (first | (go_at_call 20; ((with_reducible refine cN.mono ?_); rintro e w10 ⟨rfl, hb10⟩; have B10 := Lib.hid (B9.out.trans (hb10.mono B9.out.size)); have OC := Lib.hid (own_below OB.out hb10); have HZ : Hid (BoxC (w10.alloc (.cells (zeroGV 0) 39)) w10.heap.size (mgV (zeroG 0)) 39) := BoxC.new w10 (zeroGV 0) 39; clear hb10)) | (refine wpList_store_box rfl _ _ rfl w10.heap.size (zeroG 0) rfl rfl (zeroG 0) HZ.out ?_))
  have BM := below_made w10 (zeroGV 0) (mgV (zeroG 0)) 39
  have B11 := Lib.hid (B10.out.trans (BM.mono B10.out.size))
  have OD := Lib.hid (own_below OC.out BM)
  clear cN HZ BM B9 B10 OB OC P9
  generalize (w10.alloc (.cells (zeroGV 0) 39)).setRow w10.heap.size (mgV (zeroG 0)) = W11 at *
  have hll : l.length = p + 1 := own_len OD.out
  have cS := dC.out W11 (some ⟨bb, off, none⟩) p c5 (by rw [hll]; exact (BAt.of_own OD.out).take (by omega)) (by omega) B11.out
  have c5m := CC.out
  have c5x := CM.out
  have ep : ((p + 1 : Nat) : Int) - 1 = ((p : Nat) : Int) := by omega
  unfold maxLen at c5x
  clear hll dC OD LM LP PM CC CM
  go_wp2_with (first | (go_at_call 20; ((with_reducible refine cS.mono ?_); rintro e w12 ⟨rfl, hb12⟩; have B12 := Lib.hid (B11.out.trans (hb12.mono B11.out.size)); have HZ : Hid (BoxC (w12.alloc (.cells (zeroGV 0) 39)) w12.heap.size (mgV (zeroG 0)) 39) := BoxC.new w12 (zeroGV 0) 39; clear hb12)) | (refine wpList_store_box rfl _ _ rfl w12.heap.size (zeroG 0) rfl rfl (zeroG 0) HZ.out ?_))
  go_ret
  exact ⟨rfl, B12.out.trans ((below_made w12 (zeroGV 0) (mgV (zeroG 0)) 39).mono B12.out.size)⟩
end Go.Proofs.YtcgfhjkdgpgheaaDoor
