/- The walk of the statement ConfigGroups. Conditions: the configuration's lists and the keys lie in memory; the number fits. -/
import Derived.Test.YtnplheagemglnaaConfigKeysWalk

import Derived.Test.YtnplheagemglnaaConfigTwos

namespace Go.Proofs.Ytnplheagemglnaa

open Go.RowKit

set_option maxHeartbeats 4000000 in
theorem groups7_walk (a : Option Addr) (n c : Nat) (b : Option Addr) (m d : Nat) (R : List Int) (Bs : List ByteArray) (e : Option Addr) (p f : Nat) (Ks : List ByteArray) (y : Nat) (w : World) (h : CfgAt w a n b m R Bs) (hK : StrsAt w w.heap.size e p Ks) (hy : y < 256) :
    Calls Try.prog 7 #[.agg #[.slice a n c, .slice b m d], .slice e p f, .int .u8 y] w (Says w true) := by
  have H0 := Lib.hid ((Boxs.start w).more #[.slice a n c, .slice b m d] 25)
  have HK := Lib.hid hK
  have hKl := hK.1
  have hR := h.lenR
  have cW := fun W (hW : Below w.heap.size w W) => rFew_any a n c b m d R Bs W (h.later hW)
  have cV := fun W (hW : Below w.heap.size w W) => few7_any e p f _ Ks W (hK.later hW)
  have cF := fun W (hW : Below w.heap.size w W) => cFormed_any a n c b m d R Bs W (h.later hW)
  have cH := fun q W (hW : Below w.heap.size w W) => cHome_any a n c b m d R Bs q W (h.later hW)
  have HG := Lib.hid (fun e1 p1 f1 Ms W (hW : Below w.heap.size w W) (hK1 : StrsAt W W.heap.size e1 p1 Ms) (hp : p1 ≤ maxLen) => cGroups_any a n c b m d R Bs e1 p1 f1 Ms W (h.later hW) hK1 hp)
  clear h hK
  cases hf : fewC n Bs
  · rw [hf] at cW
    clear hf
    go_enter Try.func7, Try.ntmps7
    go_upto_region 2 with (first | (go_at_call 8; ((with_reducible refine (awake7_any _).mono ?_); rintro e w1 ⟨rfl, hb1⟩; have H1 := Lib.hid (H0.out.below hb1); obtain ⟨x0, x1⟩ := (H1.out.get 0 _ _ _ rfl).two)) | (go_at_call 9; ((with_reducible refine (cW _ H1.out.bel).mono ?_); rintro e w2 ⟨rfl, hb2⟩; have H2 := Lib.hid (H1.out.below hb2))))
    go_wp2_with (go_at_call 8; ((with_reducible refine (awake7_any _).mono ?_); rintro e w3 ⟨rfl, hb3⟩; have H3 := Lib.hid (H2.out.below hb3)))
    go_ret
    exact ⟨rfl, H3.out.bel⟩
  rw [hf] at cW
  clear hf
  cases hf : fewK Ks
  · rw [hf] at cV
    clear hf
    go_enter Try.func7, Try.ntmps7
    go_upto_region 2 with (first | (go_at_call 8; ((with_reducible refine (awake7_any _).mono ?_); rintro e w1 ⟨rfl, hb1⟩; have H1 := Lib.hid (H0.out.below hb1); obtain ⟨x0, x1⟩ := (H1.out.get 0 _ _ _ rfl).two)) | (go_at_call 9; ((with_reducible refine (cW _ H1.out.bel).mono ?_); rintro e w2 ⟨rfl, hb2⟩; have H2 := Lib.hid (H1.out.below hb2))) | (go_at_call 10; ((with_reducible refine (cV _ H2.out.bel).mono ?_); rintro e w3 ⟨rfl, rfl⟩)))
    go_wp2_with (go_at_call 8; ((with_reducible refine (awake7_any _).mono ?_); rintro e w3 ⟨rfl, hb3⟩; have H3 := Lib.hid (H2.out.below hb3)))
    go_ret
    exact ⟨rfl, H3.out.bel⟩
  rw [hf] at cV
  have hp50 : p ≤ 50 := by have h1 := fewK_yes hf; omega
  clear hf
  cases hf : formedC R (txt Bs)
  · rw [hf] at cF
    clear hf
    go_enter Try.func7, Try.ntmps7
    go_upto_region 2 with (first | (go_at_call 8; ((with_reducible refine (awake7_any _).mono ?_); rintro e w1 ⟨rfl, hb1⟩; have H1 := Lib.hid (H0.out.below hb1); obtain ⟨x0, x1⟩ := (H1.out.get 0 _ _ _ rfl).two)) | (go_at_call 9; ((with_reducible refine (cW _ H1.out.bel).mono ?_); rintro e w2 ⟨rfl, hb2⟩; have H2 := Lib.hid (H1.out.below hb2); clear x0 x1; obtain ⟨x0, x1⟩ := (H2.out.get 0 _ _ _ rfl).two)) | (go_at_call 10; ((with_reducible refine (cV _ H2.out.bel).mono ?_); rintro e w3 ⟨rfl, rfl⟩)) | (go_at_call 13; ((with_reducible refine (cF _ H2.out.bel).mono ?_); rintro e w3 ⟨rfl, hb3⟩; have H3 := Lib.hid (H2.out.below hb3))))
    go_wp2_with (go_at_call 8; ((with_reducible refine (awake7_any _).mono ?_); rintro e w4 ⟨rfl, hb4⟩; have H4 := Lib.hid (H3.out.below hb4)))
    go_ret
    exact ⟨rfl, H4.out.bel⟩
  rw [hf] at cF
  have HF := Lib.hid (formed_yes hf)
  have hn4 : n ≤ 4 := by have h1 := HF.out.hi; omega
  have cH' : ∀ q W, Below w.heap.size w W → Calls Try.prog 11 #[.agg #[.slice a n c, .slice b m d], .string q] W (SaysI W (homeC (txt Bs) q.data.toList : Nat)) := fun q W hW => by
    have h1 := cH q W hW; rwa [home_of hf] at h1
  have HN := Lib.hid (fun k => HF.out.home k)
  have HA := Lib.hid (groups_same hf Ks (Ks ++ Ks) (fun x => by simp))
  have HT := Lib.hid (groups_same hf Ks (turnK Ks y Ks.length) (turnK_mem Ks y))
  clear hf cH
  obtain ⟨iS, hi, hz0, hz1, hz2⟩ := info_parts Try.sInfo9
  obtain ⟨i0, gi, gz0, gz1, gz2⟩ := info_parts Try.qInfo3
  go_enter Try.func7, Try.ntmps7
  go_upto_region 6 with (first | (go_at_call 8; ((with_reducible refine (awake7_any _).mono ?_); rintro e w1 ⟨rfl, hb1⟩; have H1 := Lib.hid (H0.out.below hb1); obtain ⟨x0, x1⟩ := (H1.out.get 0 _ _ _ rfl).two)) | (go_at_call 9; ((with_reducible refine (cW _ H1.out.bel).mono ?_); rintro e w2 ⟨rfl, hb2⟩; have H2 := Lib.hid (H1.out.below hb2); clear x0 x1; obtain ⟨x0, x1⟩ := (H2.out.get 0 _ _ _ rfl).two)) | (go_at_call 10; ((with_reducible refine (cV _ H2.out.bel).mono ?_); rintro e w3 ⟨rfl, rfl⟩)) | (go_at_call 13; ((with_reducible refine (cF _ H2.out.bel).mono ?_); rintro e w3 ⟨rfl, hb3⟩; have H3 := Lib.hid (H2.out.below hb3))))
  have hg3 : w.heap.size < w3.heap.size := (H3.out.get 0 _ _ _ rfl).lt
  have H4 : Hid (Twos w (w3.heap.size + 1) (w3.alloc (.cells (arrB []) 41)) (.slice none 0 0) (.slice none 0 0) [] [] [(w3.heap.size, arrB [], 41), (w.heap.size, #[.slice a n c, .slice b m d], 25)]) :=
    ⟨H3.out.more (arrB []) 41, by simp; omega, by omega, by simp, World.ownsRow_nil _ _ _ _, World.ownsRow_nil _ _ _ _, fun j hj => by cases hj⟩
  clear x0 x1 hb1 hb2 hb3 H0 H1 H2 H3 cW cV cF
  generalize w3.heap.size = g3 at *
  go_loopw [7, 8, 10] (fun v u i wr => ∃ (k : Nat) (v' u' : Value), k ≤ p ∧ i = .int .i64 k ∧ v' = v ∧ u' = u ∧ Twos w (g3 + 1) wr v' u' (Ks.take k) (turnK Ks y k) [(g3, arrB (homesL (txt Bs) (Ks.take k)), 41), (w.heap.size, #[.slice a n c, .slice b m d], 25)]) (fun _ _ i _ => p - (intOf i).toNat)
  case atStart => exact ⟨0, _, _, Nat.zero_le _, rfl, rfl, rfl, H4.out⟩
  case round =>
    obtain ⟨k, v, u, hk, rfl, rfl, rfl, hX⟩ := hrel
    have HX := Lib.hid hX
    clear hX H4
    by_cases hlt : k < p
    · have hl : k < Ks.length := by omega
      have hr : (k + y) % p < p := Nat.mod_lt _ (by omega)
      have hr' : (k + y) % Ks.length < Ks.length := by rw [hKl]; exact hr
      have HQ := Lib.hid (homes_snoc (txt Bs) Ks k hl)
      have HS := Lib.hid (turnK_snoc Ks y k hr')
      have HP : Hid (Ks.take (k + 1) = Ks.take k ++ [Ks[k]]) := List.take_succ_eq_append_getElem hl
      obtain ⟨b0, off, rfl, hb0, hc0⟩ := HK.out.at_ hl
      obtain ⟨b1, off1, e1, _, hd0⟩ := HK.out.at_ hr'
      injection e1 with e1
      injection e1 with e1 e2
      subst e1; subst e2
      have cA := cH' Ks[k]
      have hq := HN.out Ks[k].data.toList
      rw [hR] at hq
      have hl1 : (Ks.take k).length ≤ 50 := by simp; omega
      have hl2 : (turnK Ks y k).length ≤ 50 := by rw [turnK_len]; omega
      generalize Ks[k] = z at *
      generalize Ks[(k + y) % Ks.length]'hr' = x at *
      generalize homeC (txt Bs) z.data.toList = q at *
      rw [hKl] at hd0
      have er : ((k : Int) + (y : Int)) % (p : Int) = (((k + y) % p : Nat) : Int) := by rw [← Int.natCast_add, Int.natCast_emod]
      generalize (k + y) % p = r at *
      generalize Ks.take k = l1 at *
      generalize turnK Ks y k = l2 at *
      generalize homesL (txt Bs) l1 = hs at *
      have HCz : Hid (∀ W, Below w.heap.size w W → W.cell? ⟨b0, off + k, none⟩ = some (.string z)) := fun W hW => (hW.cell (p := ⟨b0, off + k, none⟩) hb0).trans hc0
      have HCx : Hid (∀ W, Below w.heap.size w W → W.cell? ⟨b0, off + r, none⟩ = some (.string x)) := fun W hW => (hW.cell (p := ⟨b0, off + r, none⟩) hb0).trans hd0
      have hc1 := HCz.out _ HX.out.boxs.bel
      have ne : ¬ (p : Int) = 0 := by omega
      clear hc0 hd0
      go_upto_region 9 with (at_builtin; refine wpList_append_rowk _ rfl _ _ 23 rfl (g3 + 1) 9 iS _ 1 16 Try.underlying23 hi hz0 hz1 hz2 rfl (by omega) _ l1.length (l1.map Value.string) rfl (HX.out.alloc _).ownV (wr.heap.size + 1) (some ⟨wr.heap.size, 0, none⟩) 1 1 ([z].map Value.string) rfl (RowAt.oneS wr z _) (strs_one _) (by unfold maxLen; omega) (by omega) ((HX.out.alloc _).size) ?_; intro v2 w2 ho2 hg2 hat2; have H2 := Lib.hid ((HX.out.alloc _).pushV (y := [z]) ho2 hg2 hat2); clear ho2 hg2 hat2)
      clear hc1
      have hd1 := HCx.out _ H2.out.boxs.bel
      go_upto_region 10 with (at_builtin; refine wpList_append_rowk _ rfl _ _ 23 rfl (g3 + 1) 9 iS _ 1 16 Try.underlying23 hi hz0 hz1 hz2 rfl (by omega) _ l2.length (l2.map Value.string) rfl (H2.out.alloc _).ownU (w2.heap.size + 1) (some ⟨w2.heap.size, 0, none⟩) 1 1 ([x].map Value.string) rfl (RowAt.oneS w2 x _) (strs_one _) (by unfold maxLen; omega) (by omega) ((H2.out.alloc _).size) ?_; intro v3 w3' ho3 hg3' hat3; have H3 := Lib.hid ((H2.out.alloc _).pushU (y := [x]) ho3 hg3' hat3); clear ho3 hg3' hat3)
      clear hd1 er
      have HTb : Hid (∀ W, Boxs w W [(g3, arrB hs, 41), (w.heap.size, #[.slice a n c, .slice b m d], 25)] → W.cell? ⟨w.heap.size, 0, none⟩ = some (.slice a n c) ∧ W.cell? ⟨w.heap.size, 1, none⟩ = some (.slice b m d) ∧ W.cell? ⟨b0, off + k, none⟩ = some (.string z)) := fun W hW =>
        ⟨(hW.get 1 _ _ _ rfl).two.1, (hW.get 1 _ _ _ rfl).two.2, HCz.out W hW.bel⟩
      have s0 := HTb.out _ H3.out.boxs
      have HD := Lib.hid H3.out.drew
      go_region_held3 (fun w' => w'.cell? ⟨w.heap.size, 0, none⟩ = some (.slice a n c) ∧ w'.cell? ⟨w.heap.size, 1, none⟩ = some (.slice b m d) ∧ w'.cell? ⟨b0, off + k, none⟩ = some (.string z)) (first | exact s0 | exact s1)
        ((go_at_call 11; ((with_reducible refine (cA _ HD.out.boxs.bel).mono ?_); rintro e w4 ⟨rfl, hb4⟩; have H5 := Lib.hid (HD.out.below hb4); have s1 := HTb.out _ H5.out.boxs)))
      obtain ⟨x0, x1, _⟩ := s1
      have hcell := (H5.out.boxs.get 0 _ _ _ rfl).cell q _ (arr_get _ q (by omega))
      have hfr := (H5.out.boxs.get 0 _ _ _ rfl).frozen q
      have q4 : (q : Int) < 4 := by omega
      have R1 := Lib.hid (H5.out.set q (.bool true) (by omega) (by simp; omega))
      rw [arr_set _ q (by omega), ← HQ.out, ← HP.out, ← HS.out] at R1
      have q0 : decide ((q : Int) < 0) = false := decide_eq_false (by omega)
      have q1 : decide ((n : Int) ≤ (q : Int)) = false := decide_eq_false (by omega)
      by_cases hn1 : n = 1
      · have q2 : ((n : Int) == 1) = true := by simp; omega
        have q3 : ((q : Int) != 0) = false := by simp; omega
        clear hn1
        go_wp2
        go_roundw
        case rel => exact ⟨k + 1, _, _, by omega, by go_num, rfl, rfl, R1.out⟩
        case measure => simp [intOf]; omega
      · have q2 : ((n : Int) == 1) = false := by simp; omega
        clear hn1
        go_wp2
        go_roundw
        case rel => exact ⟨k + 1, _, _, by omega, by go_num, rfl, rfl, R1.out⟩
        case measure => simp [intOf]; omega
    · obtain rfl : k = p := by omega
      have hT1 : Ks.take k = Ks := List.take_of_length_le (by omega)
      rw [hT1] at HX
      rw [hKl] at HT
      have hl2 : (turnK Ks y k).length = k := turnK_len _ _ _
      have HKw := Lib.hid (HK.out.later HX.out.boxs.bel)
      go_upto_region 17 with (at_builtin; refine wpList_append_rowk _ rfl _ _ 23 rfl (g3 + 1) 9 iS _ 1 16 Try.underlying23 hi hz0 hz1 hz2 rfl (by omega) _ Ks.length (Ks.map Value.string) rfl HX.out.ownV wr.heap.size e k f (Ks.map Value.string) rfl HKw.out.2 (strs_one _) (by unfold maxLen; omega) (by omega) HX.out.size ?_; intro v2 w2 ho2 hg2 hat2; have H2 := Lib.hid (HX.out.pushV (y := Ks) (by rw [hKl]; rw [hKl] at ho2; exact ho2) hg2 hat2); clear ho2 hg2 hat2)
      have hv := H2.out.ownV
      have hu := H2.out.ownU
      rw [List.length_append, hKl] at hv
      rw [hl2] at hu
      obtain ⟨e1, f1, rfl, _, _⟩ := ownk_form hv
      obtain ⟨e2, f2, rfl, _, _⟩ := ownk_form hu
      have K1 : Hid (StrsAt w2 w2.heap.size e1 (k + k) (Ks ++ Ks)) := ⟨by rw [List.length_append, hKl], RowAt.of_own hv⟩
      have K2 : Hid (StrsAt w2 w2.heap.size e2 k (turnK Ks y k)) := ⟨hl2, RowAt.of_own hu⟩
      have cG1 := fun W (hW : Below w2.heap.size w2 W) => HG.out e1 _ f1 _ W ((H2.out.boxs.below hW).bel) (K1.out.later hW) (by unfold maxLen; omega)
      have cG2 := fun W (hW : Below w2.heap.size w2 W) => HG.out e2 _ f2 _ W ((H2.out.boxs.below hW).bel) (K2.out.later hW) (by unfold maxLen; omega)
      rw [HA.out] at cG1
      rw [HT.out] at cG2
      have HB := Lib.hid H2.out.boxs
      clear hv hu K1 K2 HX HKw HG HA HT H2 HK
      have HSn := Lib.hid (fun j => groupsC_snoc j (homesL (txt Bs) Ks))
      have HLn := Lib.hid (fun j => groupsC_len j (homesL (txt Bs) Ks))
      generalize homesL (txt Bs) Ks = hs at *
      go_loopw [12, 13] (fun v i wr => ∃ (j : Nat), j ≤ 4 ∧ i = .int .i64 j ∧ MadeN w2 wr v (groupsC j hs)) (fun _ i _ => 4 - (intOf i).toNat)
      case atStart => exact ⟨0, by omega, rfl, MadeN.start w2⟩
      case round =>
        obtain ⟨j, hj, rfl, hM⟩ := hrel
        have HY := Lib.hid (HB.out.below hM.bel)
        by_cases hlt4 : j < 4
        · have hll : (groupsC j hs).length ≤ 4 := by have h1 := HLn.out j; omega
          have HJ := Lib.hid (HSn.out j)
          have hown := hM.own
          have hsz := hM.bel.size
          have hcell := (HY.out.get 0 _ _ _ rfl).cell j _ (arr_get _ j hlt4)
          have j4 : (j : Int) < 4 := by omega
          clear HSn HLn cG1 cG2
          generalize groupsC j hs = l at *
          by_cases hmem : j ∈ hs
          · rw [if_pos hmem] at HJ
            rw [decide_eq_true hmem] at hcell
            clear hmem
            go_wp2_with (at_builtin; refine wpList_append_own _ rfl _ _ 22 rfl w2.heap.size 3 i0 (.int .i64 0) 1 8 Try.underlying22 gi gz0 gz1 gz2 rfl (by decide) _ _ _ rfl (hown.alloc _) ⟨wr.heap.size, 0, none⟩ 1 1 [.int .i64 j] rfl rfl (cell_one_new _ _ _) (by intro u hu; simp at hu; subst hu; rfl) (by unfold maxLen; omega) (by omega) (by simp; omega) ?_; intro v' w1 hown' hgrow _; have R := Lib.hid (hM.next hown' hgrow); clear hown' hgrow)
            go_roundw
            case rel => exact ⟨j + 1, by omega, by go_num, by rw [HJ.out]; exact R.out⟩
            case measure => simp [intOf]; omega
          · rw [if_neg hmem, List.append_nil] at HJ
            rw [decide_eq_false hmem] at hcell
            clear hmem
            go_wp2
            go_roundw
            case rel => exact ⟨j + 1, by omega, by go_num, by rw [HJ.out]; exact hM⟩
            case measure => simp [intOf]; omega
        · obtain rfl : j = 4 := by omega
          have hl64 : (groupsC 4 hs).length ≤ 64 := by have h1 := HLn.out 4; omega
          obtain ⟨a1, cap, rfl, hN⟩ := hM.lies
          have HM := Lib.hid hM.bel
          have HNN := Lib.hid hN
          clear hM hN HSn HLn
          generalize groupsC 4 hs = G at *
          obtain ⟨x0, x1⟩ := (HY.out.get 1 _ _ _ rfl).two
          go_wp2_with (first | (go_at_call 16; ((with_reducible refine (cG1 _ HM.out).mono ?_); rintro e w5 ⟨a5, c5, rfl, hN5, hb5⟩; have N5 := Lib.hid hN5; have M5 := Lib.hid (HNN.out.later hb5); have B5 := Lib.hid (HM.out.trans (hb5.mono HM.out.size)); have X5 := Lib.hid (HY.out.below hb5); clear hN5)) | (go_at_call 15; ((with_reducible refine (rInts_same a5 a1 c5 cap G _ N5.out M5.out hl64).mono ?_); rintro e w6 ⟨rfl, hb6⟩; have M6 := Lib.hid (M5.out.later hb6); have B6 := Lib.hid (B5.out.trans (hb6.mono B5.out.size)); have X6 := Lib.hid (X5.out.below hb6); clear x0 x1; obtain ⟨x0, x1⟩ := (X6.out.get 1 _ _ _ rfl).two)) | (go_at_call 16; ((with_reducible refine (cG2 _ B6.out).mono ?_); rintro e w7 ⟨a7, c7, rfl, hN7, hb7⟩; have N7 := Lib.hid hN7; have M7 := Lib.hid (M6.out.later hb7); have X7 := Lib.hid (X6.out.below hb7); clear hN7)) | (go_at_call 15; ((with_reducible refine (rInts_same a7 a1 c7 cap G _ N7.out M7.out hl64).mono ?_); rintro e w8 ⟨rfl, hb8⟩; have X8 := Lib.hid (X7.out.below hb8))))
          go_ret
          exact ⟨rfl, X8.out.bel⟩
end Go.Proofs.Ytnplheagemglnaa
