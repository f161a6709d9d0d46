/- The walk of the statement ConfigPlaces. Conditions: the configuration's lists lie in memory; the numbers fit. -/
import Derived.Test.YtnplheagemglnaaConfigPlaces

import Derived.Test.YtnplheagemglnaaConfigRefPlaces

import Derived.Deep.RegionHeld3

namespace Go.Proofs.Ytnplheagemglnaa

open Go.RowKit

set_option maxHeartbeats 2000000 in
theorem places7_walk (a : Option Addr) (n c : Nat) (b : Option Addr) (m d : Nat) (R : List Int) (Bs : List ByteArray) (g k : Int) (w : World) (h : CfgAt w a n b m R Bs) (hnc : n ≤ c) (hk : k ≤ 9223372036854775807) :
    Calls Try.prog 4 #[.agg #[.slice a n c, .slice b m d], .int .i64 g, .int .i64 k] w (Says w true) := by
  have H0 := Lib.hid ((Boxs.start w).more #[.slice a n c, .slice b m d] 25)
  have cW := fun W (hW : Below w.heap.size w W) => rFew_any a n c b m d R Bs W (h.later hW)
  have cT := fun W (hW : Below w.heap.size w W) => cTotal_any a n c b m d R Bs W (h.later hW)
  have cT' := fun W (hW : Below w.heap.size w W) => rTotal_any a n c b m d R Bs W (h.later hW)
  have cA := fun W (hW : Below w.heap.size w W) => cAt_any a n c b m d R Bs k W (h.later hW)
  have cA' := fun W (hW : Below w.heap.size w W) => rAt_any a n c b m d R Bs k W (h.later hW)
  have cP := fun W (hW : Below w.heap.size w W) => cPlace_any a n c b m d R Bs g k W (h.later hW) hnc hk
  have cP' := fun W (hW : Below w.heap.size w W) => rPlace_any a n c b m d R Bs g k W (h.later hW)
  clear h
  cases hf : fewC n Bs
  · rw [hf] at cW
    clear hf
    go_enter Try.func4, Try.ntmps4
    go_upto_region 2 with (first | (go_at_call 8; ((with_reducible refine (awake7_any _).mono ?_); rintro e w1 ⟨rfl, hb1⟩; have H1 := Lib.hid (H0.out.below hb1); obtain ⟨x0, x1⟩ := (H1.out.get 0 _ _ _ rfl).two)) | (go_at_call 9; ((with_reducible refine (cW _ H1.out.bel).mono ?_); rintro e w2 ⟨rfl, hb2⟩; have H2 := Lib.hid (H1.out.below hb2))))
    go_wp2_with (go_at_call 8; ((with_reducible refine (awake7_any _).mono ?_); rintro e w3 ⟨rfl, hb3⟩; have H3 := Lib.hid (H2.out.below hb3)))
    go_ret
    exact ⟨rfl, H3.out.bel⟩
  · rw [hf] at cW
    clear hf
    generalize totalI R (txt Bs) = T at *
    generalize atI R (txt Bs) k = A at *
    generalize placeI R (txt Bs) g k = P at *
    obtain ⟨A1, A2⟩ := A
    go_enter Try.func4, Try.ntmps4
    go_upto_region 5 with (first | (go_at_call 8; ((with_reducible refine (awake7_any _).mono ?_); rintro e w1 ⟨rfl, hb1⟩; have H1 := Lib.hid (H0.out.below hb1); obtain ⟨x0, x1⟩ := (H1.out.get 0 _ _ _ rfl).two)) | (go_at_call 9; ((with_reducible refine (cW _ H1.out.bel).mono ?_); rintro e w2 ⟨rfl, hb2⟩; have H2 := Lib.hid (H1.out.below hb2); clear x0 x1; obtain ⟨x0, x1⟩ := (H2.out.get 0 _ _ _ rfl).two)) | (go_at_call 18; ((with_reducible refine (cA _ H2.out.bel).mono ?_); rintro e w3 ⟨rfl, hb3⟩; have H3 := Lib.hid (H2.out.below hb3); clear x0 x1; obtain ⟨x0, x1⟩ := (H3.out.get 0 _ _ _ rfl).two)) | (go_at_call 19; ((with_reducible refine (cA' _ H3.out.bel).mono ?_); rintro e w4 ⟨rfl, hb4⟩; have H4 := Lib.hid (H3.out.below hb4); clear x0 x1; obtain ⟨x0, x1⟩ := (H4.out.get 0 _ _ _ rfl).two)))
    clear hb1 hb2 hb3 hb4 H0 H1 H2 H3 x0 x1
    have s0 := (H4.out.get 0 _ _ _ rfl).two
    have HD := Lib.hid H4.out.drew
    go_region_held3 (fun w' => w'.cell? ⟨w.heap.size, 0, none⟩ = some (.slice a n c) ∧ w'.cell? ⟨w.heap.size, 1, none⟩ = some (.slice b m d)) (first | exact s0 | exact s1 | exact s2 | exact s3 | exact s4)
      (first | (go_at_call 20; ((with_reducible refine (cT _ HD.out.bel).mono ?_); rintro e v1 ⟨rfl, hb1⟩; have X1 := Lib.hid (HD.out.below hb1); have s1 := (X1.out.get 0 _ _ _ rfl).two)) | (go_at_call 21; ((with_reducible refine (cT' _ X1.out.bel).mono ?_); rintro e v2 ⟨rfl, hb2⟩; have X2 := Lib.hid (X1.out.below hb2); have s2 := (X2.out.get 0 _ _ _ rfl).two)) | (go_at_call 22; ((with_reducible refine (cP _ X2.out.bel).mono ?_); rintro e v3 ⟨rfl, hb3⟩; have X3 := Lib.hid (X2.out.below hb3); have s3 := (X3.out.get 0 _ _ _ rfl).two)) | (go_at_call 23; ((with_reducible refine (cP' _ X3.out.bel).mono ?_); rintro e v4 ⟨rfl, hb4⟩; have X4 := Lib.hid (X3.out.below hb4); have s4 := (X4.out.get 0 _ _ _ rfl).two)))
    go_wp2
    go_ret
    exact ⟨rfl, X4.out.bel⟩
end Go.Proofs.Ytnplheagemglnaa
