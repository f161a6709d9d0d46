/- The walk of the statement ConfigKeys. Conditions: the configuration's lists and the keys lie in memory. -/
import Derived.Test.YtnplheagemglnaaConfigRefGroups

import Derived.Test.YtnplheagemglnaaQuorumRef

namespace Go.Proofs.Ytnplheagemglnaa

open Go.RowKit

theorem Try.sInfo9 : (Try.prog.info? 9).map (fun i => (i.zero, i.size, i.bytes)) = some (some (.string ⟨#[]⟩), 1, 16) := by kernel_rfl
theorem strs_one (l : List ByteArray) : ∀ u ∈ l.map Value.string, u.oneCell' = true := by
  intro u hu
  obtain ⟨x, _, rfl⟩ := List.mem_map.1 hu
  rfl
theorem grown_below {W W' : World} (h : W.grownBy W' none) : Below W.heap.size W W' := by
  have h0 : Below W.heap.size W W := Below.refl _ _
  exact h0.grown h (Nat.le_refl _) (fun j hj => by cases hj)
theorem StrsAt.of_own {w W : World} {e a : Option Addr} {n p c B : Nat} {l : List ByteArray} (h : StrsAt w B e p l) (ho : W.ownsRow n 9 1 (.slice a p c) p (l.map Value.string)) : StrsAt W W.heap.size a p l := ⟨h.1, RowAt.of_own ho⟩
theorem StrsAt.later {w W : World} {a : Option Addr} {n : Nat} {l : List ByteArray} (h : StrsAt w w.heap.size a n l) (hb : Below w.heap.size w W) : StrsAt W W.heap.size a n l := (h.below hb (Nat.le_refl _)).more hb.size

set_option maxHeartbeats 2000000 in
theorem keys7_walk (a : Option Addr) (n c : Nat) (b : Option Addr) (m d : Nat) (R : List Int) (Bs : List ByteArray) (e : Option Addr) (p f : Nat) (Ks : List ByteArray) (w : World) (h : CfgAt w a n b m R Bs) (hK : StrsAt w w.heap.size e p Ks) :
    Calls Try.prog 3 #[.agg #[.slice a n c, .slice b m d], .slice e p f] w (Says w true) := by
  have H0 := Lib.hid ((Boxs.start w).more #[.slice a n c, .slice b m d] 25)
  have HK := Lib.hid hK
  have hKl := hK.1
  have cW := fun W (hW : Below w.heap.size w W) => rFew_any a n c b m d R Bs W (h.later hW)
  have cV := fun W (hW : Below w.heap.size w W) => few7_any e p f _ Ks W (hK.later hW)
  have cF := fun W (hW : Below w.heap.size w W) => cFormed_any a n c b m d R Bs W (h.later hW)
  have cF' := fun W (hW : Below w.heap.size w W) => rFormed_any a n c b m d R Bs W (h.later hW)
  have cH := fun q W (hW : Below w.heap.size w W) => cHome_any a n c b m d R Bs q W (h.later hW)
  have cH' := fun q W (hW : Below w.heap.size w W) => rHome_any a n c b m d R Bs q W (h.later hW)
  have HG := Lib.hid (fun e1 f1 W (hW : Below w.heap.size w W) (hp : p ≤ maxLen) (hK1 : StrsAt W W.heap.size e1 p Ks) => cGroups_any a n c b m d R Bs e1 p f1 Ks W (h.later hW) hK1 hp)
  have cG' := fun (hp : p ≤ maxLen) W (hW : Below w.heap.size w W) => rGroups_any a n c b m d R Bs e p f Ks W (h.later hW) (hK.later hW) hp
  have hgl := groups_le R (txt Bs) (txt Ks)
  clear h hK
  cases hf : fewC n Bs
  · rw [hf] at cW
    clear hf
    go_enter Try.func3, Try.ntmps3
    go_upto_region 2 with (first | (go_at_call 8; ((with_reducible refine (awake7_any _).mono ?_); rintro e w1 ⟨rfl, hb1⟩; have H1 := Lib.hid (H0.out.below hb1); obtain ⟨x0, x1⟩ := (H1.out.get 0 _ _ _ rfl).two)) | (go_at_call 9; ((with_reducible refine (cW _ H1.out.bel).mono ?_); rintro e w2 ⟨rfl, hb2⟩; have H2 := Lib.hid (H1.out.below hb2))))
    go_wp2_with (go_at_call 8; ((with_reducible refine (awake7_any _).mono ?_); rintro e w3 ⟨rfl, hb3⟩; have H3 := Lib.hid (H2.out.below hb3)))
    go_ret
    exact ⟨rfl, H3.out.bel⟩
  rw [hf] at cW
  clear hf
  cases hf : fewK Ks
  · rw [hf] at cV
    clear hf
    go_enter Try.func3, Try.ntmps3
    go_upto_region 2 with (first | (go_at_call 8; ((with_reducible refine (awake7_any _).mono ?_); rintro e w1 ⟨rfl, hb1⟩; have H1 := Lib.hid (H0.out.below hb1); obtain ⟨x0, x1⟩ := (H1.out.get 0 _ _ _ rfl).two)) | (go_at_call 9; ((with_reducible refine (cW _ H1.out.bel).mono ?_); rintro e w2 ⟨rfl, hb2⟩; have H2 := Lib.hid (H1.out.below hb2))) | (go_at_call 10; ((with_reducible refine (cV _ H2.out.bel).mono ?_); rintro e w3 ⟨rfl, rfl⟩)))
    go_wp2_with (go_at_call 8; ((with_reducible refine (awake7_any _).mono ?_); rintro e w3 ⟨rfl, hb3⟩; have H3 := Lib.hid (H2.out.below hb3)))
    go_ret
    exact ⟨rfl, H3.out.bel⟩
  rw [hf] at cV
  have hp50 : p ≤ 50 := by have h1 := fewK_yes hf; omega
  have hpm : p ≤ maxLen := by unfold maxLen; omega
  have cG := cG' hpm
  clear hf cG'
  obtain ⟨iS, hi, hz0, hz1, hz2⟩ := info_parts Try.sInfo9
  go_enter Try.func3, Try.ntmps3
  go_upto_region 4 with (first | (go_at_call 8; ((with_reducible refine (awake7_any _).mono ?_); rintro e w1 ⟨rfl, hb1⟩; have H1 := Lib.hid (H0.out.below hb1); obtain ⟨x0, x1⟩ := (H1.out.get 0 _ _ _ rfl).two)) | (go_at_call 9; ((with_reducible refine (cW _ H1.out.bel).mono ?_); rintro e w2 ⟨rfl, hb2⟩; have H2 := Lib.hid (H1.out.below hb2))) | (go_at_call 10; ((with_reducible refine (cV _ H2.out.bel).mono ?_); rintro e w3 ⟨rfl, rfl⟩)))
  clear x0 x1
  go_loopw [5] (fun i wr => ∃ j : Nat, j ≤ p ∧ i = .int .i64 j ∧ Boxs w wr [(w.heap.size, #[.slice a n c, .slice b m d], 25)]) (fun i _ => p - (intOf i).toNat)
  case atStart => exact ⟨0, Nat.zero_le _, rfl, H2.out⟩
  case round =>
    obtain ⟨j, hj, rfl, hX⟩ := hrel
    have HX := Lib.hid hX
    clear hX hb1 hb2 H0 H1 H2
    by_cases hlt : j < p
    · have hl : j < Ks.length := by omega
      obtain ⟨b0, off, rfl, hb0, hc0⟩ := HK.out.at_ hl
      have cA := cH Ks[j]
      have cA' := cH' Ks[j]
      generalize Ks[j] = z at *
      generalize homeI R (txt Bs) z.data.toList = q at *
      have HS : Hid (∀ W, Boxs w W [(w.heap.size, #[.slice a n c, .slice b m d], 25)] → W.cell? ⟨w.heap.size, 0, none⟩ = some (.slice a n c) ∧ W.cell? ⟨w.heap.size, 1, none⟩ = some (.slice b m d) ∧ W.cell? ⟨b0, off + j, none⟩ = some (.string z)) := fun W hW =>
        ⟨(hW.get 0 _ _ _ rfl).two.1, (hW.get 0 _ _ _ rfl).two.2, (hW.bel.cell (p := ⟨b0, off + j, none⟩) hb0).trans hc0⟩
      have s0 := HS.out _ HX.out
      have HD := Lib.hid HX.out.drew
      go_upto_region 6 with (fail)
      go_region_held3 (fun w' => w'.cell? ⟨w.heap.size, 0, none⟩ = some (.slice a n c) ∧ w'.cell? ⟨w.heap.size, 1, none⟩ = some (.slice b m d) ∧ w'.cell? ⟨b0, off + j, none⟩ = some (.string z)) (first | exact s0 | exact s1 | exact s2)
        (first | (go_at_call 11; ((with_reducible refine (cA _ HD.out.bel).mono ?_); rintro e v1 ⟨rfl, hb1⟩; have HY := Lib.hid (HD.out.below hb1); have s1 := HS.out _ HY.out)) | (go_at_call 12; ((with_reducible refine (cA' _ HY.out.bel).mono ?_); rintro e v2 ⟨rfl, hb2⟩; have HZ := Lib.hid (HY.out.below hb2); have s2 := HS.out _ HZ.out)))
      go_wp2
      go_roundw
      case rel => exact ⟨j + 1, by omega, by go_num, HZ.out⟩
      case measure => simp [intOf]; omega
    · have HKw := Lib.hid (HK.out.later HX.out.bel)
      go_upto_region 10 with (at_builtin; refine wpList_append_rowk _ rfl _ _ 23 rfl wr.heap.size 9 iS _ 1 16 Try.underlying23 hi hz0 hz1 hz2 rfl (by omega) _ 0 [] rfl (World.ownsRow_nil _ _ _ _) wr.heap.size e p f (Ks.map Value.string) rfl HKw.out.2 (strs_one _) (by unfold maxLen; omega) (by omega) (Nat.le_refl _) ?_; intro v5 w5 ho5 hg5 _; have R5 := Lib.hid (HX.out.below (grown_below hg5)); have O5 := Lib.hid ho5; clear ho5 hg5)
      have ho := O5.out
      rw [Nat.zero_add, List.nil_append] at ho
      obtain ⟨e1, f1, rfl, _, _⟩ := ownk_form ho
      have HK5 := Lib.hid (HK.out.of_own ho)
      have cG1 := fun W (hW : Below w5.heap.size w5 W) => HG.out e1 f1 W ((R5.out.below hW).bel) hpm (HK5.out.later hW)
      clear ho O5 HX HKw
      generalize groupsI R (txt Bs) (txt Ks) = l at *
      generalize formedC R (txt Bs) = fb at *
      have s0 := (R5.out.get 0 _ _ _ rfl).two
      have HD := Lib.hid R5.out.drew
      have HE : Hid (Below w5.heap.size w5 w5.drew) := below_drewN 1 (Below.refl _ _)
      have hl64 : l.length ≤ 64 := by omega
      go_region_held3 (fun w' => w'.cell? ⟨w.heap.size, 0, none⟩ = some (.slice a n c) ∧ w'.cell? ⟨w.heap.size, 1, none⟩ = some (.slice b m d)) (first | exact s0 | exact s1 | exact s2 | exact s3 | exact s4 | exact s5)
        (first | (go_at_call 13; ((with_reducible refine (cF _ HD.out.bel).mono ?_); rintro e v1 ⟨rfl, hb1⟩; have X1 := Lib.hid (HD.out.below hb1); have E1 := Lib.hid (HE.out.trans (hb1.mono HE.out.size)); have s1 := (X1.out.get 0 _ _ _ rfl).two)) | (go_at_call 14; ((with_reducible refine (cF' _ X1.out.bel).mono ?_); rintro e v2 ⟨rfl, hb2⟩; have X2 := Lib.hid (X1.out.below hb2); have E2 := Lib.hid (E1.out.trans (hb2.mono E1.out.size)); have s2 := (X2.out.get 0 _ _ _ rfl).two)) | (go_at_call 16; ((with_reducible refine (cG1 _ E2.out).mono ?_); rintro e v3 ⟨a3, c3, rfl, hN3, hb3⟩; have X3 := Lib.hid (X2.out.below hb3); have s3 := (X3.out.get 0 _ _ _ rfl).two)) | (go_at_call 17; ((with_reducible refine (cG _ X3.out.bel).mono ?_); rintro e v4 ⟨a4, c4, rfl, hN4, hb4⟩; have X4 := Lib.hid (X3.out.below hb4); have M3 := Lib.hid (hN3.later hb4); have M4 := Lib.hid hN4; have s4 := (X4.out.get 0 _ _ _ rfl).two)) | (go_at_call 15; ((with_reducible refine (rInts_same a3 a4 c3 c4 l _ M3.out M4.out hl64).mono ?_); rintro e v5 ⟨rfl, hb5⟩; have X5 := Lib.hid (X4.out.below hb5); have s5 := (X5.out.get 0 _ _ _ rfl).two)))
      go_wp2
      go_ret
      exact ⟨rfl, X5.out.bel⟩
end Go.Proofs.Ytnplheagemglnaa
