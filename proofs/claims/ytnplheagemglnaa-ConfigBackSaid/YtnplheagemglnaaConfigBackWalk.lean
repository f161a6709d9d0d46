/- The walk of the statement ConfigBack. Conditions: the configuration's lists lie in memory; the number fits. -/
import Derived.Test.YtnplheagemglnaaConfigPlaces

import Derived.Test.YtnplheagemglnaaConfigRef

namespace Go.Proofs.Ytnplheagemglnaa

open Go.RowKit

theorem at_low (R : List Int) (L : List (List UInt8)) (p : Int) : (atI R L p).1 ≤ 9223372036854775807 ∧ (atI R L p).2 ≤ 9223372036854775807 ∨ 20 ≤ p := by
  by_cases hp : 20 ≤ p
  · exact .inr hp
  · left
    by_cases h : 0 ≤ p ∧ p < (totalI R L : Int)
    · obtain ⟨i, rfl⟩ := Int.eq_ofNat_of_zero_le h.1
      have hf := total_formed (show i < totalI R L by omega)
      have hs := total_sum hf
      obtain ⟨⟨x, y⟩, hx⟩ := (atL_some (natR R) i).2 (by omega)
      rw [atI_some R L i hf _ hx]
      have h1 := (atL_iff (natR R) i x y).1 hx
      rw [placeL_eq] at h1
      split at h1
      · rename_i hl
        rw [natR_len] at hl
        have h4 := (formed_yes hf).hi
        split at h1
        · injection h1 with h1; exact ⟨by show (x : Int) ≤ _; omega, by show (y : Int) ≤ _; omega⟩
        · cases h1
      · cases h1
    · rw [atI_none R L p h]; exact ⟨by show (-1 : Int) ≤ _; omega, by show (-1 : Int) ≤ _; omega⟩

set_option maxHeartbeats 2000000 in
theorem back7_walk (a : Option Addr) (n c : Nat) (b : Option Addr) (m d : Nat) (R : List Int) (Bs : List ByteArray) (p : Int) (w : World) (h : CfgAt w a n b m R Bs) (hnc : n ≤ c) :
    Calls Try.prog 5 #[.agg #[.slice a n c, .slice b m d], .int .i64 p] w (Says w true) := by
  have H0 := Lib.hid ((Boxs.start w).more #[.slice a n c, .slice b m d] 25)
  have cW := fun W (hW : Below w.heap.size w W) => rFew_any a n c b m d R Bs W (h.later hW)
  have cT := fun W (hW : Below w.heap.size w W) => cTotal_any a n c b m d R Bs W (h.later hW)
  have cA := fun q W (hW : Below w.heap.size w W) => cAt_any a n c b m d R Bs q W (h.later hW)
  have HP := Lib.hid (fun g k W (hW : Below w.heap.size w W) hk => cPlace_any a n c b m d R Bs g k W (h.later hW) hnc hk)
  have hT := total_le R (txt Bs)
  clear h
  cases hf : fewC n Bs
  · rw [hf] at cW
    clear hf
    go_enter Try.func5, Try.ntmps5
    go_upto_region 2 with (first | (go_at_call 8; ((with_reducible refine (awake7_any _).mono ?_); rintro e w1 ⟨rfl, hb1⟩; have H1 := Lib.hid (H0.out.below hb1); obtain ⟨x0, x1⟩ := (H1.out.get 0 _ _ _ rfl).two)) | (go_at_call 9; ((with_reducible refine (cW _ H1.out.bel).mono ?_); rintro e w2 ⟨rfl, hb2⟩; have H2 := Lib.hid (H1.out.below hb2))))
    go_wp2_with (go_at_call 8; ((with_reducible refine (awake7_any _).mono ?_); rintro e w3 ⟨rfl, hb3⟩; have H3 := Lib.hid (H2.out.below hb3)))
    go_ret
    exact ⟨rfl, H3.out.bel⟩
  · rw [hf] at cW
    clear hf
    have HG := Lib.hid (at_place R (txt Bs))
    have HL := Lib.hid (at_low R (txt Bs))
    have HN := Lib.hid (atI_none R (txt Bs) p)
    have HM := Lib.hid (placeI_far R (txt Bs) (-1) (-1) (by omega))
    generalize totalI R (txt Bs) = T at *
    go_enter Try.func5, Try.ntmps5
    go_upto_region 5 with (first | (go_at_call 8; ((with_reducible refine (awake7_any _).mono ?_); rintro e w1 ⟨rfl, hb1⟩; have H1 := Lib.hid (H0.out.below hb1); obtain ⟨x0, x1⟩ := (H1.out.get 0 _ _ _ rfl).two)) | (go_at_call 9; ((with_reducible refine (cW _ H1.out.bel).mono ?_); rintro e w2 ⟨rfl, hb2⟩; have H2 := Lib.hid (H1.out.below hb2); clear x0 x1; obtain ⟨x0, x1⟩ := (H2.out.get 0 _ _ _ rfl).two)) | (go_at_call 20; ((with_reducible refine (cT _ H2.out.bel).mono ?_); rintro e w3 ⟨rfl, hb3⟩; have H3 := Lib.hid (H2.out.below hb3))))
    clear x0 x1
    go_loopw [6] (fun i wr => ∃ j : Nat, j ≤ T ∧ i = .int .i64 j ∧ Boxs w wr [(w.heap.size, #[.slice a n c, .slice b m d], 25)]) (fun i _ => T - (intOf i).toNat)
    case atStart => exact ⟨0, Nat.zero_le _, rfl, H3.out⟩
    case round =>
      obtain ⟨j, hj, rfl, hX⟩ := hrel
      have HX := Lib.hid hX
      clear hX hb1 hb2 hb3 H0 H1 H2 H3
      obtain ⟨x0, x1⟩ := (HX.out.get 0 _ _ _ rfl).two
      by_cases hlt : j < T
      · have HJ := Lib.hid (HG.out j hlt)
        have cA' := cA (j : Int)
        have HQ := Lib.hid (HL.out (j : Int))
        generalize atI R (txt Bs) (j : Int) = Y at *
        obtain ⟨y1, y2⟩ := Y
        have HI := Lib.hid (HJ.out y1 y2 rfl)
        have cP := fun W (hW : Below w.heap.size w W) => HP.out y1 y2 W hW (by have h1 := HQ.out; simp only at h1; omega)
        rw [HI.out] at cP
        clear HQ HJ HG HL
        go_wp2_with (first | (go_at_call 18; ((with_reducible refine (cA' _ HX.out.bel).mono ?_); rintro e w4 ⟨rfl, hb4⟩; have HY := Lib.hid (HX.out.below hb4); clear x0 x1; obtain ⟨x0, x1⟩ := (HY.out.get 0 _ _ _ rfl).two)) | (go_at_call 22; ((with_reducible refine (cP _ HY.out.bel).mono ?_); rintro e w5 ⟨rfl, hb5⟩; have HZ := Lib.hid (HY.out.below hb5))))
        go_roundw
        case rel => exact ⟨j + 1, by omega, by go_num, HZ.out⟩
        case measure => simp [intOf]; omega
      · have cA' := cA p
        clear HG HL
        by_cases hp : 0 ≤ p ∧ p < (T : Int)
        · have d1 : decide ((0 : Int) ≤ p) = true := decide_eq_true hp.1
          have d2 : decide (p < (T : Int)) = true := decide_eq_true hp.2
          generalize atI R (txt Bs) p = Y at *
          obtain ⟨y1, y2⟩ := Y
          go_wp2_with (go_at_call 18; ((with_reducible refine (cA' _ HX.out.bel).mono ?_); rintro e w4 ⟨rfl, hb4⟩; have HY := Lib.hid (HX.out.below hb4)))
          go_ret
          exact ⟨rfl, HY.out.bel⟩
        · have HE := Lib.hid (HN.out hp)
          rw [HE.out] at cA'
          have cP := fun W (hW : Below w.heap.size w W) => HP.out (-1) (-1) W hW (by omega)
          rw [HM.out] at cP
          by_cases h0 : 0 ≤ p
          · have d1 : decide ((0 : Int) ≤ p) = true := decide_eq_true h0
            have d2 : decide (p < (T : Int)) = false := decide_eq_false (by omega)
            go_wp2_with (first | (go_at_call 18; ((with_reducible refine (cA' _ HX.out.bel).mono ?_); rintro e w4 ⟨rfl, hb4⟩; have HY := Lib.hid (HX.out.below hb4); clear x0 x1; obtain ⟨x0, x1⟩ := (HY.out.get 0 _ _ _ rfl).two)) | (go_at_call 22; ((with_reducible refine (cP _ HY.out.bel).mono ?_); rintro e w5 ⟨rfl, hb5⟩; have HZ := Lib.hid (HY.out.below hb5))))
            go_ret
            exact ⟨rfl, HZ.out.bel⟩
          · have d1 : decide ((0 : Int) ≤ p) = false := decide_eq_false h0
            go_wp2_with (first | (go_at_call 18; ((with_reducible refine (cA' _ HX.out.bel).mono ?_); rintro e w4 ⟨rfl, hb4⟩; have HY := Lib.hid (HX.out.below hb4); clear x0 x1; obtain ⟨x0, x1⟩ := (HY.out.get 0 _ _ _ rfl).two)) | (go_at_call 22; ((with_reducible refine (cP _ HY.out.bel).mono ?_); rintro e w5 ⟨rfl, hb5⟩; have HZ := Lib.hid (HY.out.below hb5))))
            go_ret
            exact ⟨rfl, HZ.out.bel⟩
end Go.Proofs.Ytnplheagemglnaa
