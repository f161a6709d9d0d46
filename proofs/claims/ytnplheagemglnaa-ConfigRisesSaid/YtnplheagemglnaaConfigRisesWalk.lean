/- The walk of the statement ConfigRises. Conditions: the configuration's lists lie in memory; the texts' lengths fit. -/
import Derived.Test.YtnplheagemglnaaConfigRef

import Derived.Deep.RegionHeld3

namespace Go.Proofs.Ytnplheagemglnaa

open Go.RowKit

theorem home_formed {R : List Int} {L : List (List UInt8)} (h : formedC R L = true) (k : List UInt8) : homeI R L k = (homeC L k : Nat) := by unfold homeI; rw [if_pos h]

set_option maxHeartbeats 2000000 in
theorem rises7_walk (a : Option Addr) (n c : Nat) (b : Option Addr) (m d : Nat) (R : List Int) (Bs : List ByteArray) (s t : ByteArray) (w : World) (h : CfgAt w a n b m R Bs) :
    Calls Try.prog 6 #[.agg #[.slice a n c, .slice b m d], .string s, .string t] w (Says w true) := by
  have H0 := Lib.hid ((Boxs.start w).more #[.slice a n c, .slice b m d] 25)
  have HC := Lib.hid h
  have hR := h.lenR
  have hB := h.lenB
  have hT := h.lenT
  have cW := fun W (hW : Below w.heap.size w W) => rFew_any a n c b m d R Bs W (h.later hW)
  have cF := fun W (hW : Below w.heap.size w W) => cFormed_any a n c b m d R Bs W (h.later hW)
  have cH := fun q W (hW : Below w.heap.size w W) => cHome_any a n c b m d R Bs q W (h.later hW)
  clear h
  cases hf : fewC n Bs
  · rw [hf] at cW
    clear hf
    go_enter Try.func6, Try.ntmps6
    go_upto_region 2 with (first | (go_at_call 8; ((with_reducible refine (awake7_any _).mono ?_); rintro e w1 ⟨rfl, hb1⟩; have H1 := Lib.hid (H0.out.below hb1); obtain ⟨x0, x1⟩ := (H1.out.get 0 _ _ _ rfl).two)) | (go_at_call 9; ((with_reducible refine (cW _ H1.out.bel).mono ?_); rintro e w2 ⟨rfl, hb2⟩; have H2 := Lib.hid (H1.out.below hb2))))
    go_wp2_with (go_at_call 8; ((with_reducible refine (awake7_any _).mono ?_); rintro e w3 ⟨rfl, hb3⟩; have H3 := Lib.hid (H2.out.below hb3)))
    go_ret
    exact ⟨rfl, H3.out.bel⟩
  rw [hf] at cW
  clear hf
  by_cases hs : s.size ≤ 1000
  case neg =>
    have d1 : decide ((1000 : Int) < (s.size : Int)) = true := decide_eq_true (by omega)
    go_enter Try.func6, Try.ntmps6
    go_upto_region 2 with (first | (go_at_call 8; ((with_reducible refine (awake7_any _).mono ?_); rintro e w1 ⟨rfl, hb1⟩; have H1 := Lib.hid (H0.out.below hb1); obtain ⟨x0, x1⟩ := (H1.out.get 0 _ _ _ rfl).two)) | (go_at_call 9; ((with_reducible refine (cW _ H1.out.bel).mono ?_); rintro e w2 ⟨rfl, hb2⟩; have H2 := Lib.hid (H1.out.below hb2))))
    go_wp2_with (go_at_call 8; ((with_reducible refine (awake7_any _).mono ?_); rintro e w3 ⟨rfl, hb3⟩; have H3 := Lib.hid (H2.out.below hb3)))
    go_ret
    exact ⟨rfl, H3.out.bel⟩
  have d1 : decide ((1000 : Int) < (s.size : Int)) = false := decide_eq_false (by omega)
  by_cases ht : t.size ≤ 1000
  case neg =>
    have d2 : decide ((1000 : Int) < (t.size : Int)) = true := decide_eq_true (by omega)
    go_enter Try.func6, Try.ntmps6
    go_upto_region 2 with (first | (go_at_call 8; ((with_reducible refine (awake7_any _).mono ?_); rintro e w1 ⟨rfl, hb1⟩; have H1 := Lib.hid (H0.out.below hb1); obtain ⟨x0, x1⟩ := (H1.out.get 0 _ _ _ rfl).two)) | (go_at_call 9; ((with_reducible refine (cW _ H1.out.bel).mono ?_); rintro e w2 ⟨rfl, hb2⟩; have H2 := Lib.hid (H1.out.below hb2))))
    go_wp2_with (go_at_call 8; ((with_reducible refine (awake7_any _).mono ?_); rintro e w3 ⟨rfl, hb3⟩; have H3 := Lib.hid (H2.out.below hb3)))
    go_ret
    exact ⟨rfl, H3.out.bel⟩
  have d2 : decide ((1000 : Int) < (t.size : Int)) = false := decide_eq_false (by omega)
  cases hf : formedC R (txt Bs)
  · rw [hf] at cF
    clear hf
    go_enter Try.func6, Try.ntmps6
    go_upto_region 2 with (first | (go_at_call 8; ((with_reducible refine (awake7_any _).mono ?_); rintro e w1 ⟨rfl, hb1⟩; have H1 := Lib.hid (H0.out.below hb1); obtain ⟨x0, x1⟩ := (H1.out.get 0 _ _ _ rfl).two)) | (go_at_call 9; ((with_reducible refine (cW _ H1.out.bel).mono ?_); rintro e w2 ⟨rfl, hb2⟩; have H2 := Lib.hid (H1.out.below hb2); clear x0 x1; obtain ⟨x0, x1⟩ := (H2.out.get 0 _ _ _ rfl).two)) | (go_at_call 13; ((with_reducible refine (cF _ H2.out.bel).mono ?_); rintro e w3 ⟨rfl, hb3⟩; have H3 := Lib.hid (H2.out.below hb3))))
    go_wp2_with (go_at_call 8; ((with_reducible refine (awake7_any _).mono ?_); rintro e w4 ⟨rfl, hb4⟩; have H4 := Lib.hid (H3.out.below hb4)))
    go_ret
    exact ⟨rfl, H4.out.bel⟩
  rw [hf] at cF
  have HF := Lib.hid (formed_yes hf)
  have cH' : ∀ q W, Below w.heap.size w W → Calls Try.prog 11 #[.agg #[.slice a n c, .slice b m d], .string q] W (SaysI W (homeC (txt Bs) q.data.toList : Nat)) := fun q W hW => by
    have := cH q W hW; rwa [home_formed hf] at this
  have HB : Hid (∀ i (hi : i < Bs.length), homeC (txt Bs) Bs[i].data.toList = i + 1) := fun i hi => by
    have := homeC_bound (txt Bs) HF.out.rises i (by rw [txt_len]; exact hi)
    rwa [txt_get Bs i hi] at this
  have HE : Hid (homeC (txt Bs) (⟨#[]⟩ : ByteArray).data.toList = 0) := homeC_empty (txt Bs) HF.out.full
  have hm4 : m ≤ 4 := by have h1 := HF.out.hi; have h2 := HF.out.len; omega
  have hs4 := homeC_le (txt Bs) s.data.toList
  have ht4 := homeC_le (txt Bs) t.data.toList
  have hn : m < n := by have h2 := HF.out.len; omega
  rw [hT] at hs4 ht4
  have cE := fun W hW => cH' ⟨#[]⟩ W hW
  rw [HE.out] at cE
  have cS := cH' s
  have cU := cH' t
  have HM : Hid (leB s.data.toList t.data.toList = true → homeC (txt Bs) s.data.toList ≤ homeC (txt Bs) t.data.toList) := fun e => homeC_mono _ e
  clear hf cH
  generalize homeC (txt Bs) s.data.toList = p1 at *
  generalize homeC (txt Bs) t.data.toList = p2 at *
  go_enter Try.func6, Try.ntmps6
  go_upto_region 4 with (first | (go_at_call 8; ((with_reducible refine (awake7_any _).mono ?_); rintro e w1 ⟨rfl, hb1⟩; have H1 := Lib.hid (H0.out.below hb1); obtain ⟨x0, x1⟩ := (H1.out.get 0 _ _ _ rfl).two)) | (go_at_call 9; ((with_reducible refine (cW _ H1.out.bel).mono ?_); rintro e w2 ⟨rfl, hb2⟩; have H2 := Lib.hid (H1.out.below hb2); clear x0 x1; obtain ⟨x0, x1⟩ := (H2.out.get 0 _ _ _ rfl).two)) | (go_at_call 13; ((with_reducible refine (cF _ H2.out.bel).mono ?_); rintro e w3 ⟨rfl, hb3⟩; have H3 := Lib.hid (H2.out.below hb3))))
  clear x0 x1
  go_loopw [7] (fun i wr => ∃ j : Nat, j ≤ m ∧ i = .int .i64 j ∧ Boxs w wr [(w.heap.size, #[.slice a n c, .slice b m d], 25)]) (fun i _ => m - (intOf i).toNat)
  case atStart => exact ⟨0, Nat.zero_le _, rfl, H3.out⟩
  case round =>
    obtain ⟨j, hj, rfl, hX⟩ := hrel
    have HX := Lib.hid hX
    clear hX hb1 hb2 hb3 H0 H1 H2 H3
    by_cases hlt : j < m
    · have hl : j < Bs.length := by omega
      have cB := fun W hW => cH' Bs[j] W hW
      rw [HB.out j hl] at cB
      obtain ⟨b0, off, rfl, hb0, hc0⟩ := HC.out.strs.at_ hl
      generalize Bs[j] = z at *
      have HS : Hid (∀ W, Boxs w W [(w.heap.size, #[.slice a n c, .slice (some ⟨b0, off, none⟩) m d], 25)] → W.cell? ⟨w.heap.size, 0, none⟩ = some (.slice a n c) ∧ W.cell? ⟨w.heap.size, 1, none⟩ = some (.slice (some ⟨b0, off, none⟩) m d) ∧ W.cell? ⟨b0, off + j, none⟩ = some (.string z)) := fun W hW =>
        ⟨(hW.get 0 _ _ _ rfl).two.1, (hW.get 0 _ _ _ rfl).two.2, (hW.bel.cell (p := ⟨b0, off + j, none⟩) hb0).trans hc0⟩
      have s0 := HS.out _ HX.out
      have x1 := s0.2.1
      have HD := Lib.hid HX.out.drew
      have w1' : IntKind.i64.wrap ((j : Int) + 1) = (j : Int) + 1 := by rw [IntKind.wrap_i64]; omega
      go_upto_region 6 with (fail)
      go_region_held3 (fun w' => w'.cell? ⟨w.heap.size, 0, none⟩ = some (.slice a n c) ∧ w'.cell? ⟨w.heap.size, 1, none⟩ = some (.slice (some ⟨b0, off, none⟩) m d) ∧ w'.cell? ⟨b0, off + j, none⟩ = some (.string z)) (first | exact s0 | exact s1)
        ((go_at_call 11; ((with_reducible refine (cB _ HD.out.bel).mono ?_); rintro e v1 ⟨rfl, hb1⟩; have HY := Lib.hid (HD.out.below hb1); have s1 := HS.out _ HY.out)))
      go_wp2
      go_roundw
      case rel => exact ⟨j + 1, by omega, by go_num, HY.out⟩
      case measure => simp [intOf]; omega
    · have s0 := (HX.out.get 0 _ _ _ rfl).two
      have x1 := s0.2
      have HD := Lib.hid HX.out.drew
      have i1 : decide ((0 : Int) ≤ (p1 : Int)) = true := decide_eq_true (by omega)
      have i2 : decide ((p1 : Int) < (n : Int)) = true := decide_eq_true (by omega)
      go_upto_region 8 with (fail)
      go_region_held3 (fun w' => w'.cell? ⟨w.heap.size, 0, none⟩ = some (.slice a n c) ∧ w'.cell? ⟨w.heap.size, 1, none⟩ = some (.slice b m d)) (first | exact s0 | exact s1 | exact s2)
        (first | (go_at_call 11; ((with_reducible refine (cS _ HD.out.bel).mono ?_); rintro e v1 ⟨rfl, hb1⟩; have HY := Lib.hid (HD.out.below hb1); have s1 := (HY.out.get 0 _ _ _ rfl).two)) | (go_at_call 11; ((with_reducible refine (cU _ HY.out.bel).mono ?_); rintro e v2 ⟨rfl, hb2⟩; have HZ := Lib.hid (HY.out.below hb2); have s2 := (HZ.out.get 0 _ _ _ rfl).two)))
      obtain ⟨x0, x1⟩ := s2
      have hG : (!Op.bytesLess s.toList t.toList && !(s.toList == t.toList)) = !leB s.data.toList t.data.toList := by rw [← leS s t, Bool.not_or]
      cases hz : leB s.data.toList t.data.toList
      · rw [hz, Bool.not_false] at hG
        clear hz
        go_wp2_with (go_at_call 11; ((with_reducible refine (cE _ HZ.out.bel).mono ?_); rintro e v3 ⟨rfl, hb3⟩; have HQ := Lib.hid (HZ.out.below hb3)))
        go_ret
        exact ⟨rfl, HQ.out.bel⟩
      · have hle : p1 ≤ p2 := HM.out hz
        have hle' : (p1 : Int) ≤ (p2 : Int) := by omega
        rw [hz, Bool.not_true] at hG
        clear hz
        go_wp2_with (go_at_call 11; ((with_reducible refine (cE _ HZ.out.bel).mono ?_); rintro e v3 ⟨rfl, hb3⟩; have HQ := Lib.hid (HZ.out.below hb3)))
        go_ret
        exact ⟨rfl, HQ.out.bel⟩
end Go.Proofs.Ytnplheagemglnaa
