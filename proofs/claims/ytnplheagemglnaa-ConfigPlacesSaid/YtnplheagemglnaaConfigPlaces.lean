/- Contracts of config.Place and At. Conditions: the lists lie in memory. -/
import Derived.Test.YtnplheagemglnaaConfigCalls

namespace Go.Proofs.Ytnplheagemglnaa

open Go.RowKit

theorem IntsAt.take {w : World} {B n : Nat} {a : Option Addr} {l : List Int} (h : IntsAt w B a n l) (k : Nat) (hk : k ≤ n) : IntsAt w B a k (l.take k) := by
  refine ⟨by rw [List.length_take, h.1]; omega, by rw [List.length_map, List.length_take, h.1]; omega, ?_⟩
  rcases h.2.2 with h0 | ⟨b, off, ha, hb, hc⟩
  · exact .inl (by omega)
  · refine .inr ⟨b, off, ha, hb, fun j u hu => hc j u ?_⟩
    rw [List.map_take, List.getElem?_take] at hu
    split at hu
    · exact hu
    · cases hu

set_option maxHeartbeats 1000000 in
theorem cPlace_any (a : Option Addr) (n c : Nat) (b : Option Addr) (m d : Nat) (R : List Int) (Bs : List ByteArray) (g k : Int) (w : World) (h : CfgAt w a n b m R Bs) (hnc : n ≤ c) (hk : k ≤ 9223372036854775807) :
    Calls Try.prog 22 #[.agg #[.slice a n c, .slice b m d], .int .i64 g, .int .i64 k] w (SaysI w (placeI R (txt Bs) g k)) := by
  have H0 := Lib.hid ((Boxs.start w).more #[.slice a n c, .slice b m d] 25)
  have HC := Lib.hid h
  have cF := cFormed_any a n c b m d R Bs _ (h.later H0.out.bel)
  have hR := h.lenR
  clear h
  cases hf : formedC R (txt Bs)
  · rw [hf] at cF
    rw [placeI_not R (txt Bs) g k hf]
    clear hf
    go_enter Try.func22, Try.ntmps22
    go_wp2_with (go_at_call 13; ((with_reducible refine cF.mono ?_); rintro e w1 ⟨rfl, hb1⟩))
    go_ret
    exact ⟨rfl, (H0.out.below hb1).bel⟩
  · rw [hf] at cF
    have HF := Lib.hid (formed_yes hf)
    have hn4 : n ≤ 4 := by have h1 := HF.out.hi; omega
    have hn1 : 1 ≤ n := by have h1 := HF.out.lo; omega
    have cG := fun W => cBelow_any g (n : Int) W
    by_cases hg : 0 ≤ g ∧ g < (n : Int)
    · obtain ⟨q, rfl⟩ := Int.eq_ofNat_of_zero_le hg.1
      have hq : q < n := by omega
      have hqR : q < R.length := by omega
      have hz := HF.out.small _ (List.getElem_mem hqR)
      have hs := sum_le R HF.out.small q
      have e1 : (decide ((0 : Int) ≤ (q : Int)) && decide ((q : Int) < (n : Int))) = true := by simp; omega
      rw [e1] at cG
      clear e1 hg
      have cK := fun W => cBelow_any k R[q] W
      obtain ⟨b0, off, ea, _, hc0⟩ := HC.out.ints.at_ hqR
      subst ea
      have hbw := block_lt hc0
      by_cases hkk : 0 ≤ k ∧ k < R[q]
      · obtain ⟨p, rfl⟩ := Int.eq_ofNat_of_zero_le hkk.1
        have HP := Lib.hid (placeI_yes R (txt Bs) q p hf hqR hkk.2)
        have e1 : (decide ((0 : Int) ≤ (p : Int)) && decide ((p : Int) < R[q])) = true := by simp; omega
        rw [e1] at cK
        have HS := Lib.hid (fun W (hW : IntsAt W w.heap.size (some ⟨b0, off, none⟩) n R) => cSum_any (some ⟨b0, off, none⟩) q c _ (R.take q) W (hW.take q (by omega)) (by omega) (fun z hz => HF.out.small z (List.mem_of_mem_take hz)))
        have hp5 : p < 5 := by omega
        clear e1 hkk hf
        generalize R[q] = z at *
        generalize (R.take q).sum = S at *
        have hqc : (q : Int) ≤ (c : Int) := by omega
        go_enter Try.func22, Try.ntmps22
        go_wp2_with (first | (go_at_call 13; ((with_reducible refine cF.mono ?_); rintro e w1 ⟨rfl, hb1⟩; have H1 := Lib.hid (H0.out.below hb1); have cS := HS.out w1 (HC.out.ints.below H1.out.bel (Nat.le_refl _)); obtain ⟨x0, x1⟩ := (H1.out.get 0 _ _ _ rfl).two; have hc1 := (H1.out.bel.cell (p := ⟨b0, off + q, none⟩) hbw).trans hc0)) | (go_at_call 29; ((with_reducible refine (cG _).mono ?_); rintro e w2 ⟨rfl, rfl⟩)) | (go_at_call 29; ((with_reducible refine (cK _).mono ?_); rintro e w2 ⟨rfl, rfl⟩)) | (go_at_call 30; ((with_reducible refine cS.mono ?_); rintro e w2 ⟨rfl, rfl⟩)))
        go_ret
        exact ⟨by rw [HP.out]; go_num, H1.out.bel⟩
      · have HP := Lib.hid (placeI_off R (txt Bs) q k hqR hkk)
        have e1 : (decide ((0 : Int) ≤ k) && decide (k < R[q])) = false := by simp; omega
        rw [e1] at cK
        clear e1 hkk hf
        generalize R[q] = z at *
        go_enter Try.func22, Try.ntmps22
        go_wp2_with (first | (go_at_call 13; ((with_reducible refine cF.mono ?_); rintro e w1 ⟨rfl, hb1⟩; have H1 := Lib.hid (H0.out.below hb1); obtain ⟨x0, x1⟩ := (H1.out.get 0 _ _ _ rfl).two; have hc1 := (H1.out.bel.cell (p := ⟨b0, off + q, none⟩) hbw).trans hc0)) | (go_at_call 29; ((with_reducible refine (cG _).mono ?_); rintro e w2 ⟨rfl, rfl⟩)) | (go_at_call 29; ((with_reducible refine (cK _).mono ?_); rintro e w2 ⟨rfl, rfl⟩)))
        go_ret
        exact ⟨by rw [HP.out]; rfl, H1.out.bel⟩
    · have HP := Lib.hid (placeI_far R (txt Bs) g k (by rw [hR]; exact hg))
      have e1 : (decide ((0 : Int) ≤ g) && decide (g < (n : Int))) = false := by simp; omega
      rw [e1] at cG
      clear e1 hg hf
      go_enter Try.func22, Try.ntmps22
      go_wp2_with (first | (go_at_call 13; ((with_reducible refine cF.mono ?_); rintro e w1 ⟨rfl, hb1⟩; have H1 := Lib.hid (H0.out.below hb1); obtain ⟨x0, x1⟩ := (H1.out.get 0 _ _ _ rfl).two)) | (go_at_call 29; ((with_reducible refine (cG _).mono ?_); rintro e w2 ⟨rfl, rfl⟩)))
      go_ret
      exact ⟨by rw [HP.out]; rfl, H1.out.bel⟩

set_option maxHeartbeats 1000000 in
theorem cAt_any (a : Option Addr) (n c : Nat) (b : Option Addr) (m d : Nat) (R : List Int) (Bs : List ByteArray) (p : Int) (w : World) (h : CfgAt w a n b m R Bs) :
    Calls Try.prog 18 #[.agg #[.slice a n c, .slice b m d], .int .i64 p] w (SaysP w (atI R (txt Bs) p)) := by
  have H0 := Lib.hid ((Boxs.start w).more #[.slice a n c, .slice b m d] 25)
  have HC := Lib.hid h
  have cT := cTotal_any a n c b m d R Bs _ (h.later H0.out.bel)
  have hR := h.lenR
  clear h
  have cB := fun W => cBelow_any p ((totalI R (txt Bs) : Nat) : Int) W
  by_cases hp : 0 ≤ p ∧ p < ((totalI R (txt Bs) : Nat) : Int)
  · have e1 : (decide ((0 : Int) ≤ p) && decide (p < ((totalI R (txt Bs) : Nat) : Int))) = true := by simp; omega
    rw [e1] at cB
    obtain ⟨q, rfl⟩ := Int.eq_ofNat_of_zero_le hp.1
    have hf : formedC R (txt Bs) = true := by
      cases hf : formedC R (txt Bs)
      · unfold totalI at hp; rw [hf] at hp; simp at hp; omega
      · rfl
    have HF := Lib.hid (formed_yes hf)
    have hq20 : q < 20 := by
      have h1 := hp.2
      unfold totalI at h1; rw [if_pos hf] at h1
      have h2 := HF.out.sum_le; omega
    obtain ⟨⟨X, Y⟩, hXY⟩ := (atL_some (natR R) q).2 (by have h1 := hp.2; unfold totalI at h1; rw [if_pos hf] at h1; omega)
    have HA := Lib.hid (atI_some R (txt Bs) q hf _ hXY)
    have HX := Lib.hid hXY
    have hn4 : n ≤ 4 := by have h1 := HF.out.hi; omega
    clear hXY hf hp e1
    generalize totalI R (txt Bs) = T at *
    go_enter Try.func18, Try.ntmps18
    go_upto_region 4 with (first | (go_at_call 20; ((with_reducible refine cT.mono ?_); rintro e w1 ⟨rfl, hb1⟩; have H1 := Lib.hid (H0.out.below hb1); obtain ⟨x0, x1⟩ := (H1.out.get 0 _ _ _ rfl).two)) | (go_at_call 29; ((with_reducible refine (cB _).mono ?_); rintro e w2 ⟨rfl, rfl⟩)))
    clear cB cT
    go_loop [6, 7] (fun gv nv => ∃ j v x : Nat, gv = .int .i64 j ∧ nv = .int .i64 v ∧ j + x = X ∧ v ≤ q ∧ Hid (atL ((natR R).drop j) v = some (x, Y))) (fun gv _ => 5 - (intOf gv).toNat)
    case atStart => exact ⟨0, q, X, rfl, rfl, by omega, Nat.le_refl _, HX⟩
    case round =>
      obtain ⟨j, v, x, rfl, rfl, hjx, hvq, HV⟩ := hrel
      obtain ⟨hj, hlo, hhi⟩ := at_step (natR R) j v x Y HV.out
      have hjR : j < R.length := by rw [natR_len] at hj; exact hj
      have hz := HF.out.small _ (List.getElem_mem hjR)
      rw [natR_get R j hjR] at hlo hhi
      obtain ⟨b0, off, ea, _, hc0⟩ := HC.out.ints.at_ hjR
      subst ea
      have hc1 := (H1.out.bel.cell (p := ⟨b0, off + j, none⟩) (block_lt hc0)).trans hc0
      have hjn : j < n := by omega
      generalize R[j] = z at *
      by_cases hvz : (v : Int) < z
      · obtain ⟨rfl, rfl⟩ := hlo (by omega)
        obtain rfl : j = X := by omega
        clear hlo hhi
        go_wp2
        go_ret2
        exact ⟨by rw [HA.out]; rfl, H1.out.bel⟩
      · obtain ⟨x', rfl, hx'⟩ := hhi (by omega)
        have HX' := Lib.hid hx'
        clear hlo hhi hx'
        have ez : (v : Int) - z = ((v - z.toNat : Nat) : Int) := by omega
        go_wp2
        go_round
        case rel => exact ⟨j + 1, v - z.toNat, x', by go_num, by go_num, by omega, by omega, HX'⟩
        case measure => simp [intOf]; omega
  · have HP := Lib.hid (atI_none R (txt Bs) p hp)
    have e1 : (decide ((0 : Int) ≤ p) && decide (p < ((totalI R (txt Bs) : Nat) : Int))) = false := by simp; omega
    rw [e1] at cB
    clear e1 hp
    generalize totalI R (txt Bs) = T at *
    go_enter Try.func18, Try.ntmps18
    go_wp2_with (first | (go_at_call 20; ((with_reducible refine cT.mono ?_); rintro e w1 ⟨rfl, hb1⟩; have H1 := Lib.hid (H0.out.below hb1))) | (go_at_call 29; ((with_reducible refine (cB _).mono ?_); rintro e w2 ⟨rfl, rfl⟩)))
    go_ret2
    exact ⟨by rw [HP.out]; rfl, H1.out.bel⟩
end Go.Proofs.Ytnplheagemglnaa
