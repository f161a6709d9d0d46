/- Contracts of the document's own Total, At and Place of layer config. Conditions: the configuration's lists lie in memory. -/
import Derived.Test.YtnplheagemglnaaConfigRef

namespace Go.Proofs.Ytnplheagemglnaa

open Go.RowKit

set_option maxHeartbeats 1000000 in
theorem rTotal_any (a : Option Addr) (n c : Nat) (b : Option Addr) (m d : Nat) (R : List Int) (Bs : List ByteArray) (w : World) (h : CfgAt w a n b m R Bs) :
    Calls Try.prog 21 #[.agg #[.slice a n c, .slice b m d]] w (SaysI w (totalI R (txt Bs) : Nat)) := by
  have H0 := Lib.hid ((Boxs.start w).more #[.slice a n c, .slice b m d] 25)
  have HC := Lib.hid h
  have hR := h.lenR
  have cF := fun W (hW : Below w.heap.size w W) => rFormed_any a n c b m d R Bs W (h.later hW)
  clear h
  unfold totalI
  cases hf : formedC R (txt Bs)
  · rw [hf] at cF
    clear hf
    go_enter Try.func21, Try.ntmps21
    go_wp2
    go_loopw [3, 4] (fun v i wr => v = .int .i64 0 ∧ i = .int .i64 0 ∧ Boxs w wr [(w.heap.size, #[.slice a n c, .slice b m d], 25)]) (fun _ _ _ => 0)
    case atStart => exact ⟨rfl, rfl, H0.out⟩
    case round =>
      obtain ⟨rfl, rfl, hX⟩ := hrel
      have HX := Lib.hid hX
      clear hX
      obtain ⟨x0, x1⟩ := (HX.out.get 0 _ _ _ rfl).two
      by_cases hn : n = 0
      · subst hn
        go_wp2
        go_ret
        exact ⟨rfl, HX.out.bel⟩
      · have d1 : decide ((0 : Int) < (n : Int)) = true := decide_eq_true (by omega)
        go_wp2_with (go_at_call 14; ((with_reducible refine (cF _ HX.out.bel).mono ?_); rintro e w1 ⟨rfl, hb1⟩; have HY := Lib.hid (HX.out.below hb1)))
        go_ret
        exact ⟨rfl, HY.out.bel⟩
  · rw [hf] at cF
    have HF := Lib.hid (formed_yes hf)
    have HS := Lib.hid (natR_sum R HF.out.small)
    have hn4 : n ≤ 4 := by have h1 := HF.out.hi; omega
    clear hf
    go_enter Try.func21, Try.ntmps21
    go_wp2
    go_loopw [3, 4] (fun v i wr => ∃ k : Nat, k ≤ n ∧ i = .int .i64 k ∧ v = .int .i64 (R.take k).sum ∧ Boxs w wr [(w.heap.size, #[.slice a n c, .slice b m d], 25)]) (fun _ i _ => n - (intOf i).toNat)
    case atStart => exact ⟨0, Nat.zero_le _, rfl, rfl, H0.out⟩
    case round =>
      obtain ⟨k, hk, rfl, rfl, hX⟩ := hrel
      have HX := Lib.hid hX
      clear hX
      obtain ⟨x0, x1⟩ := (HX.out.get 0 _ _ _ rfl).two
      have hle := sum_le R HF.out.small k
      by_cases hlt : k < n
      · have hl : k < R.length := by omega
        have HQ := Lib.hid (sum_snoc R k hl)
        obtain ⟨b0, off, rfl, hb0, hc0⟩ := HC.out.ints.at_ hl
        have hz := HF.out.small _ (List.getElem_mem hl)
        generalize R[k] = z at *
        generalize (R.take k).sum = q at *
        go_wp2_with (go_at_call 14; ((with_reducible refine (cF _ HX.out.bel).mono ?_); rintro e w1 ⟨rfl, hb1⟩; have HY := Lib.hid (HX.out.below hb1); obtain ⟨y0, y1⟩ := (HY.out.get 0 _ _ _ rfl).two; have hc1 := (HY.out.bel.cell (p := ⟨b0, off + k, none⟩) hb0).trans hc0))
        go_roundw
        case rel => exact ⟨k + 1, by omega, by go_num, by rw [HQ.out], HY.out⟩
        case measure => simp [intOf]; omega
      · have HQ : Hid (R.take k = R) := List.take_of_length_le (by omega)
        rw [HQ.out]
        go_wp2
        go_ret
        exact ⟨by rw [HS.out]; rfl, HX.out.bel⟩

set_option maxHeartbeats 1000000 in
theorem rAt_any (a : Option Addr) (n c : Nat) (b : Option Addr) (m d : Nat) (R : List Int) (Bs : List ByteArray) (p : Int) (w : World) (h : CfgAt w a n b m R Bs) :
    Calls Try.prog 19 #[.agg #[.slice a n c, .slice b m d], .int .i64 p] w (SaysP w (atI R (txt Bs) p)) := by
  have H0 := Lib.hid ((Boxs.start w).more #[.slice a n c, .slice b m d] 25)
  have HC := Lib.hid h
  have hR := h.lenR
  have cF := fun W (hW : Below w.heap.size w W) => rFormed_any a n c b m d R Bs W (h.later hW)
  clear h
  cases hf : formedC R (txt Bs)
  · rw [hf] at cF
    have HP := Lib.hid (atI_none R (txt Bs) p (by unfold totalI; rw [hf]; simp))
    clear hf
    go_enter Try.func19, Try.ntmps19
    go_wp2
    go_loopw [7] (fun i wr => i = .int .i64 0 ∧ Boxs w wr [(w.heap.size, #[.slice a n c, .slice b m d], 25)]) (fun _ _ => 0)
    case atStart => exact ⟨rfl, H0.out⟩
    case round =>
      obtain ⟨rfl, hX⟩ := hrel
      have HX := Lib.hid hX
      clear hX
      obtain ⟨x0, x1⟩ := (HX.out.get 0 _ _ _ rfl).two
      by_cases hn : n = 0
      · subst hn
        go_wp2
        go_ret2
        exact ⟨by rw [HP.out]; rfl, HX.out.bel⟩
      · have d1 : decide ((0 : Int) < (n : Int)) = true := decide_eq_true (by omega)
        go_wp2_with (go_at_call 14; ((with_reducible refine (cF _ HX.out.bel).mono ?_); rintro e w1 ⟨rfl, hb1⟩; have HY := Lib.hid (HX.out.below hb1)))
        go_ret2
        exact ⟨by rw [HP.out]; rfl, HY.out.bel⟩
  · rw [hf] at cF
    have HF := Lib.hid (formed_yes hf)
    have HV := Lib.hid hf
    have hn4 : n ≤ 4 := by have h1 := HF.out.hi; omega
    clear hf
    go_enter Try.func19, Try.ntmps19
    go_wp2
    go_loopw [6, 7] (fun v i wr => ∃ j : Nat, j ≤ n ∧ i = .int .i64 j ∧ v = .int .i64 (((natR R).take j).sum : Nat) ∧ Boxs w wr [(w.heap.size, #[.slice a n c, .slice b m d], 25)] ∧ Hid (¬ (0 ≤ p ∧ p < (((natR R).take j).sum : Nat)))) (fun _ i _ => n - (intOf i).toNat)
    case atStart => exact ⟨0, Nat.zero_le _, rfl, rfl, H0.out, by unfold Hid; simp⟩
    case round =>
      obtain ⟨j, hj, rfl, rfl, hX, HN⟩ := hrel
      have HX := Lib.hid hX
      clear hX
      obtain ⟨x0, x1⟩ := (HX.out.get 0 _ _ _ rfl).two
      have hle := nat_le R HF.out.small j
      by_cases hlt : j < n
      · have hl : j < R.length := by omega
        have HQ := Lib.hid (nat_snoc R j hl)
        have HH := Lib.hid (fun k => at_hit R (txt Bs) HV.out j k hl)
        obtain ⟨b0, off, rfl, hb0, hc0⟩ := HC.out.ints.at_ hl
        have hz := HF.out.small _ (List.getElem_mem hl)
        generalize R[j] = z at *
        generalize ((natR R).take j).sum = q at *
        go_upto_region 6 with (go_at_call 14; ((with_reducible refine (cF _ HX.out.bel).mono ?_); rintro e w1 ⟨rfl, hb1⟩; have HY := Lib.hid (HX.out.below hb1); obtain ⟨y0, y1⟩ := (HY.out.get 0 _ _ _ rfl).two; have hc1 := (HY.out.bel.cell (p := ⟨b0, off + j, none⟩) hb0).trans hc0))
        go_loop [6, 8] (fun v i => ∃ k : Nat, (k : Int) ≤ z ∧ i = .int .i64 k ∧ v = .int .i64 ((q + k : Nat) : Int) ∧ Hid (¬ (0 ≤ p ∧ p < ((q + k : Nat) : Int)))) (fun _ i => 5 - (intOf i).toNat)
        case atStart => exact ⟨0, by omega, rfl, rfl, HN⟩
        case round =>
          obtain ⟨k, hk, rfl, rfl, HK⟩ := hrel
          by_cases hkz : (k : Int) < z
          · by_cases hp : ((q + k : Nat) : Int) = p
            · subst hp
              have HA : Hid (atI R (txt Bs) ((q : Int) + (k : Int)) = ((j : Int), (k : Int))) := by have h1 := HH.out k hkz; rwa [Int.natCast_add] at h1
              clear HH HK HN HQ
              go_wp2
              go_ret2
              exact ⟨by rw [HA.out]; rfl, HY.out.bel⟩
            · have e1 : (((q + k : Nat) : Int) == p) = false := by simpa using hp
              have e2 : ((q : Int) + (k : Int) == p) = false := by simpa using hp
              have HK' : Hid (¬ (0 ≤ p ∧ p < ((q + (k + 1) : Nat) : Int))) := by have := HK.out; unfold Hid; omega
              clear hp HK HN HH
              go_wp2
              go_round
              case rel => exact ⟨k + 1, by omega, by go_num, by go_num, HK'⟩
              case measure => simp [intOf]; omega
          · have HK' : Hid (¬ (0 ≤ p ∧ p < ((((natR R).take (j + 1)).sum : Nat) : Int))) := by have := HK.out; unfold Hid; rw [HQ.out]; omega
            have eq : q + k = ((natR R).take (j + 1)).sum := by rw [HQ.out]; omega
            clear HH HN
            go_wp2
            go_roundw
            case rel => exact ⟨j + 1, by omega, by go_num, by rw [← eq]; try go_num, HY.out, HK'⟩
            case measure => simp [intOf]; omega
      · have HT : Hid ((natR R).take j = natR R) := List.take_of_length_le (by rw [natR_len]; omega)
        rw [HT.out] at HN
        rw [HT.out]
        have HP := Lib.hid (atI_none R (txt Bs) p (by rw [total_sum HV.out]; exact HN.out))
        go_wp2
        go_ret2
        exact ⟨by rw [HP.out]; rfl, HX.out.bel⟩

set_option maxHeartbeats 1000000 in
theorem rPlace_any (a : Option Addr) (n c : Nat) (b : Option Addr) (m d : Nat) (R : List Int) (Bs : List ByteArray) (g k : Int) (w : World) (h : CfgAt w a n b m R Bs) :
    Calls Try.prog 23 #[.agg #[.slice a n c, .slice b m d], .int .i64 g, .int .i64 k] w (SaysI w (placeI R (txt Bs) g k)) := by
  have H0 := Lib.hid ((Boxs.start w).more #[.slice a n c, .slice b m d] 25)
  have HC := Lib.hid h
  have cT := fun W (hW : Below w.heap.size w W) => rTotal_any a n c b m d R Bs W (h.later hW)
  have cA := fun p W (hW : Below w.heap.size w W) => rAt_any a n c b m d R Bs p W (h.later hW)
  have HP := Lib.hid (fun i hi => at_place R (txt Bs) i hi g k)
  have HZ := Lib.hid (place_none R (txt Bs) g k)
  have h20 := total_le R (txt Bs)
  clear h
  generalize totalI R (txt Bs) = T at *
  go_enter Try.func23, Try.ntmps23
  go_wp2
  go_loopw [7] (fun i wr => ∃ j : Nat, j ≤ T ∧ i = .int .i64 j ∧ Boxs w wr [(w.heap.size, #[.slice a n c, .slice b m d], 25)] ∧ Hid (∀ q : Nat, q < j → atI R (txt Bs) q ≠ (g, k))) (fun i _ => T - (intOf i).toNat)
  case atStart => exact ⟨0, Nat.zero_le _, rfl, H0.out, fun q hq => by omega⟩
  case round =>
    obtain ⟨j, hj, rfl, hX, HN⟩ := hrel
    have HX := Lib.hid hX
    clear hX
    obtain ⟨x0, x1⟩ := (HX.out.get 0 _ _ _ rfl).two
    by_cases hlt : j < T
    · have HJ := Lib.hid (HP.out j hlt)
      have HE : Hid (∀ q : Nat, q < j + 1 → atI R (txt Bs) q = (g, k) → q = j) := fun q hq e => by
        by_cases e' : q = j
        · exact e'
        · exact absurd e (HN.out q (by omega))
      have cA' := cA (j : Int)
      generalize hY : atI R (txt Bs) (j : Int) = Y at *
      obtain ⟨y1, y2⟩ := Y
      by_cases hg : y1 = g
      · by_cases hk : y2 = k
        · subst hg; subst hk
          have HI := Lib.hid (HJ.out rfl)
          clear hY
          go_wp2_with (first | (go_at_call 21; ((with_reducible refine (cT _ HX.out.bel).mono ?_); rintro e w1 ⟨rfl, hb1⟩; have HY := Lib.hid (HX.out.below hb1); obtain ⟨y0, y1⟩ := (HY.out.get 0 _ _ _ rfl).two)) | (go_at_call 19; ((with_reducible refine (cA' _ HY.out.bel).mono ?_); rintro e w2 ⟨rfl, hb2⟩; have HW := Lib.hid (HY.out.below hb2))))
          go_ret
          exact ⟨by rw [HI.out]; rfl, HW.out.bel⟩
        · have e2 : (y2 == k) = false := by simpa using hk
          have HN' : Hid (∀ q : Nat, q < j + 1 → atI R (txt Bs) q ≠ (g, k)) := fun q hq e => by
            have := HE.out q hq e; subst this
            rw [hY] at e; injection e with _ e; exact hk e
          subst hg
          clear hY hk
          go_wp2_with (first | (go_at_call 21; ((with_reducible refine (cT _ HX.out.bel).mono ?_); rintro e w1 ⟨rfl, hb1⟩; have HY := Lib.hid (HX.out.below hb1); obtain ⟨y0, y1⟩ := (HY.out.get 0 _ _ _ rfl).two)) | (go_at_call 19; ((with_reducible refine (cA' _ HY.out.bel).mono ?_); rintro e w2 ⟨rfl, hb2⟩; have HW := Lib.hid (HY.out.below hb2))))
          go_roundw
          case rel => exact ⟨j + 1, by omega, by go_num, HW.out, HN'⟩
          case measure => simp [intOf]; omega
      · have e1 : (y1 == g) = false := by simpa using hg
        have HN' : Hid (∀ q : Nat, q < j + 1 → atI R (txt Bs) q ≠ (g, k)) := fun q hq e => by
          have := HE.out q hq e; subst this
          rw [hY] at e; injection e with e _; exact hg e
        clear hY hg
        go_wp2_with (first | (go_at_call 21; ((with_reducible refine (cT _ HX.out.bel).mono ?_); rintro e w1 ⟨rfl, hb1⟩; have HY := Lib.hid (HX.out.below hb1); obtain ⟨y0, y1⟩ := (HY.out.get 0 _ _ _ rfl).two)) | (go_at_call 19; ((with_reducible refine (cA' _ HY.out.bel).mono ?_); rintro e w2 ⟨rfl, hb2⟩; have HW := Lib.hid (HY.out.below hb2))))
        go_roundw
        case rel => exact ⟨j + 1, by omega, by go_num, HW.out, HN'⟩
        case measure => simp [intOf]; omega
    · have HI := Lib.hid (HZ.out fun i hi => HN.out i (by omega))
      go_wp2_with (go_at_call 21; ((with_reducible refine (cT _ HX.out.bel).mono ?_); rintro e w1 ⟨rfl, hb1⟩; have HY := Lib.hid (HX.out.below hb1)))
      go_ret
      exact ⟨by rw [HI.out]; rfl, HY.out.bel⟩
end Go.Proofs.Ytnplheagemglnaa
