/- The walk of the statement WalCompacts. Conditions: the records lie in memory; the tables of utf8 lie there. -/
import Derived.Test.YtcfmifongbapkaaGreatDoorQZO
/- WalCompactsWalk -/
namespace Go.Proofs.YtcfmifongbapkaaGreatDoor

open Go.RowKit

set_option linter.unusedVariables false
set_option linter.unusedSimpArgs false

theorem rep_dk {f : Int} {la l : List UInt8} (hs : l.length ≤ 1000000) (hf : 0 < f) : repE (dkF f la []) l = 0 ∧ repD (dkF f la []) l = dkF (f - 1) l [] := by
  have e : fullR (dkF f la []) l = false := by
    unfold fullR
    refine decide_eq_false ?_
    show ¬ (1000000 : Int) < (l.length : Int)
    omega
  have e2 : goesB (dkF f la []) = false := decide_eq_false (by show ¬ f = 0; omega)
  have e3 : goesD (dkF f la []) = dkF (f - 1) la [] := by
    unfold goesD
    rw [if_neg (by show ¬ f = 0; omega), if_pos (show 0 < f from hf)]
  unfold repE repD
  rw [e, e2, e3]
  exact ⟨rfl, rfl⟩
/-- The power goes within the Replace. -/
abbrev dkH (la l : List UInt8) : Dk := ⟨1000000, la, [], 0, true, true, l⟩
theorem rep_torn {la l : List UInt8} (hs : l.length ≤ 1000000) : repE (dkF 0 la []) l = 8 ∧ repD (dkF 0 la []) l = dkH la l := by
  have e : fullR (dkF 0 la []) l = false := by
    unfold fullR
    refine decide_eq_false ?_
    show ¬ (1000000 : Int) < (l.length : Int)
    omega
  unfold repE repD
  rw [e]
  exact ⟨rfl, rfl⟩
theorem cut_half (la l : List UInt8) (k : Nat) : cutD (dkH la l) (k : Int) = dkA (if 0 < k then l else la) [] := by
  unfold cutD behD
  show (⟨1000000, if (0 : Int) < (k : Int) then l else la, [], -1, false, false, []⟩ : Dk) = _
  by_cases h : 0 < k
  · rw [if_pos h, if_pos (by omega)]
  · rw [if_neg h, if_neg (by omega)]
theorem rcC_one (z : RE) : ∀ u ∈ rcC z, u.oneCell' = true := by
  intro u hu
  simp [rcC] at hu
  rcases hu with rfl | rfl | rfl | rfl | rfl | rfl | rfl | rfl | rfl | rfl | rfl | rfl | rfl | rfl | rfl <;> rfl
theorem flat_one (L : List RE) : ∀ u ∈ L.flatMap rcC, u.oneCell' = true := by
  intro u hu
  obtain ⟨z, _, hz⟩ := List.mem_flatMap.1 hu
  exact rcC_one z u hz
theorem nil_grown {W W' : World} {n c : Nat} (h : W.grownBy W' (Value.slice none n c).ownBlock) : Below W.heap.size W W' := ⟨h.os, h.tape, h.output, h.size, fun b hb => h.block b hb (fun e => by cases e)⟩
/-- A row of the call's own that holds records that came in. -/
theorem own_recs {w V V' : World} {a a1 : Option Addr} {n c1 B : Nat} {L : List RE} (h : RcsAt w a n L) (hb : Below w.heap.size w V) (ho : V'.ownsRow B 36 15 (.slice a1 n c1) n (L.flatMap rcC)) (hg : V.grownBy V' (Value.slice none 0 0).ownBlock) : RcsAt V' a1 n L := by
  exact ⟨h.len, RowAt.of_own ho, fun z hz => ⟨(h.all z hz).1.later (hb.trans ((nil_grown hg).mono hb.size)), (h.all z hz).2⟩⟩
theorem tell_whole {xs : List Rc} (h : Good xs) : tellB (catR xs) = xs ∧ tellN (catR xs) = (catR xs).length := tell_all xs h
set_option maxRecDepth 100000 in
set_option maxHeartbeats 16000000 in
theorem compacts_walk (a : Option Addr) (n c : Nat) (L : List RE) (a' : Option Addr) (n' c' : Nat) (L' : List RE) (p q : Nat) (w : World) (h : RcsRaw w a n L) (hnc : n ≤ c) (hcm : c ≤ maxLen) (h' : RcsRaw w a' n' L') (hnc' : n' ≤ c') (hcm' : c' ≤ maxLen) (hp : p < 256) (hq : q < 256) (hU : Tabs w) :
    Calls Tryz.prog 7 #[.slice a n c, .slice a' n' c', .agg #[.int .u8 ((p : Nat) : Int), .int .u8 ((q : Nat) : Int)]] w (Says w true) := by
  obtain ⟨iR, hiR, hzR0, hzR1, hzR2⟩ := info_parts Tryz.kInfo36
  have H0 := Lib.hid ((Boxs.start w).more #[.int .u8 ((p : Nat) : Int), .int .u8 ((q : Nat) : Int)] 85)
  have TU : Hid (∀ W, Below w.heap.size w W → Tabs W) := fun W hW => hU.below hW
  have cA := fun W (hW : Below w.heap.size w W) => awake13_any W (TU.out W hW)
  have cF1 := fun W (hW : Below w.heap.size w W) => few_any a n c L 30 W (h.later hW) hnc hcm
  have cF2 := fun W (hW : Below w.heap.size w W) => few_any a' n' c' L' 30 W (h'.later hW) hnc' hcm'
  cases f1 : fewL L 30
  · rw [f1] at cF1
    clear cF2
    go_enter Tryz.func7, Tryz.ntmps7
    go_wp2_with (first | (go_at_call 8; ((with_reducible refine (cA _ H0.out.bel).mono ?_); rintro e w1 ⟨rfl, hb1⟩; have H1 := Lib.hid (H0.out.below hb1))) | (go_at_call 9; ((with_reducible refine (cF1 _ H1.out.bel).mono ?_); rintro e w2 ⟨rfl, hb2⟩; have H2 := Lib.hid (H1.out.below hb2))) | (go_at_call 8; ((with_reducible refine (cA _ H2.out.bel).mono ?_); rintro e w3 ⟨rfl, hb3⟩; have H3 := Lib.hid (H2.out.below hb3))))
    go_ret
    exact ⟨rfl, H3.out.bel⟩
  rw [f1] at cF1
  cases f2 : fewL L' 30
  · rw [f2] at cF2
    go_enter Tryz.func7, Tryz.ntmps7
    go_wp2_with (first | (go_at_call 8; ((with_reducible refine (cA _ H0.out.bel).mono ?_); rintro e w1 ⟨rfl, hb1⟩; have H1 := Lib.hid (H0.out.below hb1))) | (go_at_call 9; ((with_reducible refine (cF1 _ H1.out.bel).mono ?_); rintro e w2 ⟨rfl, hb2⟩; have H2 := Lib.hid (H1.out.below hb2))) | (go_at_call 9; ((with_reducible refine (cF2 _ H2.out.bel).mono ?_); rintro e w3 ⟨rfl, hb3⟩; have H3 := Lib.hid (H2.out.below hb3))) | (go_at_call 8; ((with_reducible refine (cA _ H3.out.bel).mono ?_); rintro e w4 ⟨rfl, hb4⟩; have H4 := Lib.hid (H3.out.below hb4))))
    go_ret
    exact ⟨rfl, H4.out.bel⟩
  rw [f2] at cF2
  obtain ⟨hL, hl30, hsum⟩ := fewL_all h (by omega) f1
  obtain ⟨hL', hl30', hsum'⟩ := fewL_all h' (by omega) f2
  have hln := h.len
  have hln' := h'.len
  have HL := Lib.hid hL
  have HL' := Lib.hid hL'
  have HLN := Lib.hid hln
  have HLN' := Lib.hid hln'
  have HS : Hid (L.length ≤ 30 ∧ (L.map fun z => z.1.dn).sum ≤ 200000) := ⟨by omega, hsum⟩
  have HS' : Hid (L'.length ≤ 30 ∧ (L'.map fun z => z.1.dn).sum ≤ 200000) := ⟨by omega, hsum'⟩
  have hcw := hcm
  have hcw' := hcm'
  unfold maxLen at hcw hcw'
  clear f1 f2 hL hl30 hsum h hL' hl30' hsum' h' hU hln hln'
  go_enter Tryz.func7, Tryz.ntmps7
  go_upto_region 4 with (first | (go_at_call 8; ((with_reducible refine (cA _ H0.out.bel).mono ?_); rintro e w1 ⟨rfl, hb1⟩; have H1 := Lib.hid (H0.out.below hb1))) | (go_at_call 9; ((with_reducible refine (cF1 _ H1.out.bel).mono ?_); rintro e w2 ⟨rfl, hb2⟩; have H2 := Lib.hid (H1.out.below hb2))) | (go_at_call 9; ((with_reducible refine (cF2 _ H2.out.bel).mono ?_); rintro e w3 ⟨rfl, hb3⟩; have H3 := Lib.hid (H2.out.below hb3))) | (go_at_call 20; ((with_reducible refine (new_k 1000000 (by omega) (Below.refl _ w3)).mono ?_); rintro e w4 ⟨rfl, h4⟩; have K4 : Hid (LawK w3 w4 w3.heap.size (dkA [] []) (fun _ => True)) := h4; clear h4)))
  have B3 := Lib.hid H3.out.bel
  have X3 : Hid (BoxC w3 w.heap.size #[.int .u8 ((p : Nat) : Int), .int .u8 ((q : Nat) : Int)] 85) := H3.out.get 0 _ _ _ rfl
  clear H0 H1 H2 H3 cF1 cF2 cA
  generalize w3.heap.size = g at K4 ⊢
  go_upto_region 5 with (fail)
  go_loopw [8] (fun y wr => ∃ i : Nat, y = .int .i64 i ∧ i ≤ n ∧ (∀ z ∈ L.take i, formR (rcT z.1 z.2) = true) ∧ LawK w3 wr g (dkA [] (catR ((rcS L).take i))) (fun _ => True)) (fun y _ => n - (intOf y).toNat)
  case atStart => exact ⟨0, rfl, Nat.zero_le _, (fun z hz => by simp at hz), K4.out⟩
  case round =>
    obtain ⟨i, rfl, hi, hF, hK⟩ := hrel
    have KR := Lib.hid hK
    have FR := Lib.hid hF
    have BR : Hid (Below w.heap.size w wr) := B3.out.trans (hK.bel.mono B3.out.size)
    clear hK hF K4
    by_cases h1 : i < n
    · have i1 : (i : Int) < (n : Int) := by omega
      have hiL : i < L.length := by rw [HLN.out]; exact h1
      obtain ⟨b0, off, rfl, hb0, LD0⟩ := HL.out.raw.at_ hiL
      have LD := Lib.hid LD0
      have ld := (LD.out _ BR.out).1
      have hZ := HL.out.all _ (List.getElem_mem hiL)
      have eG := rcS_get L i hiL
      have eN := catR_next (rcS L) i (by rw [rcS_len]; exact hiL)
      rw [eG] at eN
      have hmem : ∀ z ∈ L.take (i + 1), z ∈ L.take i ∨ z = L[i] := fun z hz => by
        rw [List.take_succ_eq_append_getElem hiL] at hz
        exact (List.mem_append.1 hz).imp id List.mem_singleton.1
      have hsz : formR (rcT L[i].1 L[i].2) = true → (0 : Nat) + (catR ((rcS L).take i)).length + (frameB (rcB (rcT L[i].1 L[i].2))).length ≤ 1000000 := fun hf => by
        have hg : Good ((rcS L).take (i + 1)) := fun y hy => by
          rw [← rcS_take] at hy
          obtain ⟨z, hz, rfl⟩ := List.mem_map.1 hy
          refine ⟨(formR_iff _).1 ?_, (HL.out.all z (List.mem_of_mem_take hz)).1.ok⟩
          rcases hmem z hz with h2 | h2
          · exact FR.out z h2
          · rw [h2]; exact hf
        have h5 : (((rcS L).take (i + 1)).map fun x => x.da.length).sum ≤ 200000 := by
          have h6 := HS.out.2
          rw [← HL.out.sum] at h6
          have h7 : ((rcS L).map fun x => x.da.length) = (((rcS L).take (i + 1)).map fun x => x.da.length) ++ (((rcS L).drop (i + 1)).map fun x => x.da.length) := by rw [← List.map_append, List.take_append_drop]
          rw [h7, List.sum_append] at h6; omega
        have h8 := catR_max _ hg 200000 h5
        rw [eN, List.length_append] at h8
        have h9 : ((rcS L).take (i + 1)).length ≤ 30 := by rw [List.length_take, rcS_len]; have := HS.out.1; omega
        omega
      have cFi := fun W (hW : Below w.heap.size w W) => wFormed_any L[i].1 L[i].2 W (hZ.1.later hW) hZ.2 (TU.out W hW)
      have cAi := fun W K (hK : LawK w3 W g (dkA [] (catR ((rcS L).take i))) K) (hb : 0 + (catR ((rcS L).take i)).length ≤ 1099511627776) => add_k (x := L[i].1) (L := L[i].2) hK (by show (-1 : Int) < _; omega) (dk_bnd hb) (hZ.1.later (B3.out.trans (hK.bel.mono B3.out.size))) hZ.2 (TU.out W (B3.out.trans (hK.bel.mono B3.out.size)))
      have FN : Hid (formR (rcT L[i].1 L[i].2) = true → ∀ z ∈ L.take (i + 1), formR (rcT z.1 z.2) = true) := fun hf z hz => (hmem z hz).elim (FR.out z) fun e => by rw [e]; exact hf
      have HSZ := Lib.hid hsz
      have EN := Lib.hid eN
      clear LD0 hZ eG eN hmem hsz
      generalize L[i] = z at *
      cases hf : formR (rcT z.1 z.2)
      · rw [hf] at cFi
        clear hf
        go_wp2_with ((go_at_call 15; ((with_reducible refine (cFi _ BR.out).mono ?_); rintro e w6 ⟨rfl, hb6⟩; have B6 := Lib.hid (BR.out.trans (hb6.mono BR.out.size)))))
        go_ret
        exact ⟨rfl, B6.out⟩
      · rw [hf] at cFi
        obtain ⟨m1, m2⟩ := add_dk (la := []) (re := catR ((rcS L).take i)) hf (HSZ.out hf)
        have hb : 0 + (catR ((rcS L).take i)).length ≤ 1099511627776 := by have := HSZ.out hf; omega
        have cAj : ∀ W K, LawK w3 W g (dkA [] (catR ((rcS L).take i))) K → Calls Tryz.prog 27 #[.pointer (some ⟨g, 0, none⟩), .agg (rcV z.1)] W fun e w' => e = .returned (.int .i64 0) ∧ LawK w3 w' g (dkA [] (catR ((rcS L).take (i + 1)))) K := fun W K hK => by
          have h2 := cAi W K hK hb
          rw [m1, m2, ← EN.out] at h2; exact h2
        have F4 := Lib.hid (FN.out hf)
        clear hf cAi m1 m2 hb HSZ EN FN
        go_wp2_with (first | (go_at_call 15; ((with_reducible refine (cFi _ BR.out).mono ?_); rintro e w6 ⟨rfl, hb6⟩; have K6 := Lib.hid (KR.out.later hb6); have B6 := Lib.hid (BR.out.trans (hb6.mono BR.out.size)); clear ld; have ld := (LD.out _ B6.out).1; clear hb6)) | (go_at_call 27; ((with_reducible refine (cAj _ _ K6.out).mono ?_); rintro e w7 ⟨rfl, h7⟩; have K7 := Lib.hid h7; clear h7)))
        go_roundw
        case rel => exact ⟨i + 1, by go_num, h1, F4.out, K7.out⟩
        case measure => simp [intOf]; omega
    · have i1 : ¬ (i : Int) < (n : Int) := by omega
      obtain rfl : i = n := by omega
      have eT : (rcS L).take i = rcS L := List.take_of_length_le (by rw [rcS_len, HLN.out]; exact Nat.le_refl _)
      have eT2 : L.take i = L := List.take_of_length_le (by rw [HLN.out]; exact Nat.le_refl _)
      have FA := FR.out
      rw [eT2] at FA
      have GD := Lib.hid (HL.out.good FA)
      have K0 : Hid (LawK w3 wr g (dkA [] (catR (rcS L))) (fun _ => True)) := by have := KR.out; rw [eT] at this; exact this
      clear FA eT eT2 KR FR
      have BR3 : Hid (Below w.heap.size w wr) := BR
      clear BR i1
      obtain ⟨V, hV⟩ : ∃ V, V = wr := ⟨_, rfl⟩
      subst hV
      go_upto_region 11 with (fail)
      go_loopw [9] (fun y wr => ∃ j : Nat, y = .int .i64 j ∧ j ≤ n' ∧ (∀ z ∈ L'.take j, formR (rcT z.1 z.2) = true) ∧ LawK w3 wr g (dkA [] (catR (rcS L))) (fun _ => True)) (fun y _ => n' - (intOf y).toNat)
      case atStart => exact ⟨0, rfl, Nat.zero_le _, (fun z hz => by simp at hz), K0.out⟩
      case round =>
        obtain ⟨j, rfl, hj, hF, hK⟩ := hrel
        have KR := Lib.hid hK
        have FR := Lib.hid hF
        have BR : Hid (Below w.heap.size w wr) := B3.out.trans (hK.bel.mono B3.out.size)
        clear hK hF K0
        by_cases h1 : j < n'
        · have i1 : (j : Int) < (n' : Int) := by omega
          have hiL : j < L'.length := by rw [HLN'.out]; exact h1
          obtain ⟨b0, off, rfl, hb0, LD0⟩ := HL'.out.raw.at_ hiL
          have ld := (LD0 _ BR.out).1
          have hZ := HL'.out.all _ (List.getElem_mem hiL)
          have hmem : ∀ z ∈ L'.take (j + 1), z ∈ L'.take j ∨ z = L'[j] := fun z hz => by
            rw [List.take_succ_eq_append_getElem hiL] at hz
            exact (List.mem_append.1 hz).imp id List.mem_singleton.1
          have cFi := fun W (hW : Below w.heap.size w W) => wFormed_any L'[j].1 L'[j].2 W (hZ.1.later hW) hZ.2 (TU.out W hW)
          have FN : Hid (formR (rcT L'[j].1 L'[j].2) = true → ∀ z ∈ L'.take (j + 1), formR (rcT z.1 z.2) = true) := fun hf z hz => (hmem z hz).elim (FR.out z) fun e => by rw [e]; exact hf
          clear LD0 hZ hmem
          generalize L'[j] = z at *
          cases hf : formR (rcT z.1 z.2)
          · rw [hf] at cFi
            clear hf
            go_wp2_with ((go_at_call 15; ((with_reducible refine (cFi _ BR.out).mono ?_); rintro e w6 ⟨rfl, hb6⟩; have B6 := Lib.hid (BR.out.trans (hb6.mono BR.out.size)))))
            go_ret
            exact ⟨rfl, B6.out⟩
          · rw [hf] at cFi
            have F4 := Lib.hid (FN.out hf)
            clear hf FN
            go_wp2_with ((go_at_call 15; ((with_reducible refine (cFi _ BR.out).mono ?_); rintro e w6 ⟨rfl, hb6⟩; have K6 := Lib.hid (KR.out.later hb6); clear hb6)))
            go_roundw
            case rel => exact ⟨j + 1, by go_num, h1, F4.out, K6.out⟩
            case measure => simp [intOf]; omega
        · have i1 : ¬ (j : Int) < (n' : Int) := by omega
          obtain rfl : j = n' := by omega
          have eT2 : L'.take j = L' := List.take_of_length_le (by rw [HLN'.out]; exact Nat.le_refl _)
          have FA := FR.out
          rw [eT2] at FA
          have GD' := Lib.hid (HL'.out.good FA)
          have FF := Lib.hid FA
          clear FA eT2 FR
          have hP : (catR (rcS L)).length ≤ 503240 := by
            have h8 := catR_max _ GD.out 200000 (by rw [HL.out.sum]; exact HS.out.2)
            have h9 := HS.out.1
            rw [rcS_len] at h8; omega
          have hQ : (catR (rcS L')).length ≤ 503240 := by
            have h8 := catR_max _ GD'.out 200000 (by rw [HL'.out.sum]; exact HS'.out.2)
            have h9 := HS'.out.1
            rw [rcS_len] at h8; omega
          have T0 := Lib.hid (tell_whole GD.out)
          have T1 := Lib.hid (tell_whole GD'.out)
          have hn30 : j ≤ 1000 := by have := HS'.out.1; have := HLN'.out; omega
          have hX4 := X3.out
          -- the row of the law's own
          have eB : j * 168 ≤ 140737488355328 := by omega
          have cSy : ∀ V K, LawK w3 V g (dkA [] (catR (rcS L))) K → Calls Tryz.prog 26 #[.pointer (some ⟨g, 0, none⟩)] V fun e w' => e = .returned (.int .i64 0) ∧ LawK w3 w' g (dkA (catR (rcS L)) []) K := fun V K hK => sync_k hK (by show (-1 : Int) < _; omega)
          have cFu : ∀ (f : Nat) V K, LawK w3 V g (dkA (catR (rcS L)) []) K → Calls Tryz.prog 31 #[.pointer (some ⟨g, 0, none⟩), .int .i64 ((f : Nat) : Int)] V fun e w' => e = .returned (.tuple #[]) ∧ LawK w3 w' g (dkF ((f : Nat) : Int) (catR (rcS L)) []) K := fun f V K hK => by
            have h2 := fuse_k ((f : Nat) : Int) hK
            have e : fusD (dkA (catR (rcS L)) []) ((f : Nat) : Int) = dkF ((f : Nat) : Int) (catR (rcS L)) [] := by
              show (⟨1000000, _, _, max ((f : Nat) : Int) (-1), _, _, _⟩ : Dk) = _
              rw [show max ((f : Nat) : Int) (-1) = ((f : Nat) : Int) by omega]
            rw [e] at h2; exact h2
          have cCo : ∀ f V a1 c1, LawK w3 V g (dkF f (catR (rcS L)) []) (fun _ => True) → f < 9223372036854775808 → RcsAt V a1 j L' → j ≤ c1 → c1 ≤ maxLen → Calls Tryz.prog 32 #[.pointer (some ⟨g, 0, none⟩), .slice a1 j c1] V fun e w' => e = .returned (.int .i64 (repE (dkF f (catR (rcS L)) []) (catR (rcS L')))) ∧ LawK w3 w' g (repD (dkF f (catR (rcS L)) []) (catR (rcS L'))) (fun _ => True) := fun f V a1 c1 hK hf hR h1 h2 =>
            compact_yes _ V hR FF.out hn30 h1 h2 (TU.out V (B3.out.trans (hK.bel.mono B3.out.size))) fun W b m d hW hb hm => replace_k (hK.later hW) hf hb hm
          have cCu : ∀ d B (k : Nat) V, LawK w3 V g d (fun _ => True) → BndD d 1099511627776 → k ≤ 1000 → cutD d ((k : Nat) : Int) = dkA B [] → Calls Tryz.prog 28 #[.pointer (some ⟨g, 0, none⟩), .int .i64 ((k : Nat) : Int)] V fun e w' => ∃ g', e = .returned (.pointer (some ⟨g', 0, none⟩)) ∧ LawK w3 w' g' (dkA B []) (fun _ => True) := fun d B k V hK hM hk he => by
            have h2 := cut_k ((k : Nat) : Int) hK hM (by omega) (by omega)
            rw [he] at h2; exact h2
          have cOp : ∀ V g' xs, LawK w3 V g' (dkA (catR xs) []) (fun _ => True) → (catR xs).length ≤ 503240 → tellB (catR xs) = xs ∧ tellN (catR xs) = (catR xs).length → Calls Tryz.prog 29 #[.pointer (some ⟨g', 0, none⟩)] V fun e w' => ∃ a n c D, e = .returned (.tuple #[.slice a n c, .int .i64 0]) ∧ Below w3.heap.size w3 w' ∧ RcsAt w' a n D ∧ rcS D = xs ∧ n ≤ c ∧ c ≤ maxLen := fun V g' xs hK hl ht => by
            obtain ⟨o1, o2, o3⟩ := opn_dk (B := catR xs) (by omega)
            have h2 := open_k hK (by show (-1 : Int) < _; omega) (dk_bnd (by show (catR xs).length + 0 ≤ _; omega)) (TU.out V (B3.out.trans (hK.bel.mono B3.out.size)))
            rw [o1, o2, o3, ht.1] at h2
            exact h2.mono fun e w' ⟨a, n, c, D, he, hk, hD, h3, h4⟩ => ⟨a, n, c, D, he, hk.bel, hk.get.2, hD, h3, h4⟩
          have cFr : ∀ W a1 n1 c1 D a2 n2 c2 M, RcsAt W a1 n1 D → RcsAt W a2 n2 M → rcS D = rcS M → n1 ≤ c1 → c1 ≤ maxLen → n2 ≤ c2 → c2 ≤ maxLen → Calls Tryz.prog 30 #[.slice a1 n1 c1, .slice a2 n2 c2, .int .i64 ((n2 : Nat) : Int)] W (Says W true) := fun W a1 n1 c1 D a2 n2 c2 M hD hM he h1 h2 h3 h4 => by
            have e1 : D.length = M.length := by have := congrArg List.length he; rwa [rcS_len, rcS_len] at this
            have h5 := front_any a1 a2 n1 n2 c1 c2 D M ((n2 : Nat) : Int) W hD hM h1 h2 h3 h4
            rw [front_yes (by rw [e1, hM.len]; exact Int.le_refl _) (by rw [e1]; exact Nat.le_refl _) (by rw [he, e1, List.take_of_length_le (by rw [rcS_len]; exact Nat.le_refl _)])] at h5
            exact h5
          have hcs : (p % 2 = 0 ∧ q % 2 = 0) ∨ (p % 2 = 0 ∧ q % 2 = 1) ∨ (p % 2 = 1 ∧ q % 2 = 0) ∨ (p % 2 = 1 ∧ q % 2 = 1) := by omega
          rcases hcs with ⟨e0, e1⟩ | ⟨e0, e1⟩ | ⟨e0, e1⟩ | ⟨e0, e1⟩
          · have ep : ((p : Nat) : Int) % 2 = 0 := by omega
            have eq : ((q : Nat) : Int) % 2 = 0 := by omega
            have ep2 : ((p : Nat) : Int).tmod 2 = 0 := by rw [Int.tmod_eq_emod_of_nonneg (by omega)]; exact ep
            have eq2 : ((q : Nat) : Int).tmod 2 = 0 := by rw [Int.tmod_eq_emod_of_nonneg (by omega)]; exact eq
            obtain ⟨r1, r2⟩ := rep_torn (la := catR (rcS L)) (l := catR (rcS L')) (by omega)
            have hcut := cut_half (catR (rcS L)) (catR (rcS L')) 0
            have hB1 : BndD (dkH (catR (rcS L)) (catR (rcS L'))) 1099511627776 := ⟨by show (catR (rcS L)).length + 0 ≤ _; omega, by show (catR (rcS L')).length ≤ _; omega⟩
            have cFu1 : ∀ V, LawK w3 V g (dkA (catR (rcS L)) []) (fun _ => True) → Calls Tryz.prog 31 #[.pointer (some ⟨g, 0, none⟩), .int .i64 0] V fun e w' => e = .returned (.tuple #[]) ∧ LawK w3 w' g (dkF 0 (catR (rcS L)) []) (fun _ => True) := fun V hK => cFu 0 V _ hK
            have cCo1 : ∀ V a1 c1, LawK w3 V g (dkF 0 (catR (rcS L)) []) (fun _ => True) → RcsAt V a1 j L' → j ≤ c1 → c1 ≤ maxLen → Calls Tryz.prog 32 #[.pointer (some ⟨g, 0, none⟩), .slice a1 j c1] V fun e w' => e = .returned (.int .i64 8) ∧ LawK w3 w' g (dkH (catR (rcS L)) (catR (rcS L'))) (fun _ => True) := fun V a1 c1 hK hR h1 h2 => by
              have h3 := cCo 0 V a1 c1 hK (by omega) hR h1 h2
              rw [r1, r2] at h3; exact h3
            have cCu1 : ∀ V, LawK w3 V g (dkH (catR (rcS L)) (catR (rcS L'))) (fun _ => True) → Calls Tryz.prog 28 #[.pointer (some ⟨g, 0, none⟩), .int .i64 0] V fun e w' => ∃ g', e = .returned (.pointer (some ⟨g', 0, none⟩)) ∧ LawK w3 w' g' (dkA (catR (rcS L)) []) (fun _ => True) := fun V hK => cCu (dkH (catR (rcS L)) (catR (rcS L'))) _ 0 V hK hB1 (by omega) hcut
            have cOp1 : ∀ V g', LawK w3 V g' (dkA (catR (rcS L)) []) (fun _ => True) → Calls Tryz.prog 29 #[.pointer (some ⟨g', 0, none⟩)] V fun e w' => ∃ a n c D, e = .returned (.tuple #[.slice a n c, .int .i64 0]) ∧ Below w3.heap.size w3 w' ∧ RcsAt w' a n D ∧ rcS D = (rcS L) ∧ n ≤ c ∧ c ≤ maxLen := fun V g' hK => cOp V g' _ hK hP T0.out
            clear r1 r2 hcut hB1 cFu cCo cCu cOp
            go_upto_region 20 with (first | (go_at_call 26; ((with_reducible refine (cSy _ _ KR.out).mono ?_); rintro e v1 ⟨rfl, h1⟩; have K1 := Lib.hid h1; clear h1; have BX := (hX4.below K1.out.bel); have bx0 := BX.cell 0 _ rfl; have bx1 := BX.cell 1 _ rfl; clear BX)) | (go_at_call 31; ((with_reducible refine (cFu1 _ K1.out).mono ?_); rintro e v2 ⟨rfl, h2⟩; have K2 := Lib.hid h2; clear h2 bx0 bx1)))
            have R2 : Hid (RowAt v2 v2.heap.size a' j 15 (L'.flatMap rcC)) := ((HL'.out.later (B3.out.trans (K2.out.bel.mono B3.out.size)))).row
            go_upto_region 22 with (first | (at_builtin; (refine wpList_append_rowk _ rfl _ _ 39 rfl v2.heap.size 36 iR (.agg zeroRV) 15 168 Tryz.underlying39 hiR hzR0 hzR1 hzR2 rfl (by omega) (.slice none 0 0) 0 [] rfl (World.ownsRow_nil _ _ _ _) v2.heap.size a' j c' (L'.flatMap rcC) rfl R2.out (flat_one L') (by unfold maxLen; omega) (by omega) (Nat.le_refl _) ?_; intro u3 v3 ho3 hg3 hat3; rw [Nat.zero_add, List.nil_append] at ho3; obtain ⟨a3, c3, rfl, hc3, hm3⟩ := ownk_form ho3; have O3 := Lib.hid (own_recs HL'.out ((B3.out.trans (K2.out.bel.mono B3.out.size))) ho3 hg3); have K3 := Lib.hid (K2.out.later (nil_grown hg3)); clear ho3 hg3 hat3)) | (go_at_call 32; ((with_reducible refine (cCo1 _ _ _ K3.out O3.out hc3 hm3).mono ?_); rintro e v4 ⟨rfl, h4⟩; have K4 := Lib.hid h4; clear h4)))
            have BX := (hX4.below K4.out.bel)
            have bx1 := BX.cell 1 _ rfl
            go_upto_region 23 with (first | (go_at_call 28; ((with_reducible refine (cCu1 _ K4.out).mono ?_); rintro e v5 ⟨g5, rfl, h5⟩; have K5 := Lib.hid h5; clear h5)) | (go_at_call 29; ((with_reducible refine (cOp1 _ _ K5.out).mono ?_); rintro e v6 ⟨a6, n6, c6, D, rfl, hb6, hD6, hS6, hc6, hm6⟩; have B6 := Lib.hid hb6; have D6 := Lib.hid hD6; have S6 := Lib.hid hS6; have bz1 := (hX4.below hb6).cell 1 _ rfl; clear hb6 hD6 hS6)))
            obtain rfl : i = n6 := by
              have e1 := D6.out.len
              have e2 := congrArg List.length S6.out
              have e3 := HLN.out
              rw [rcS_len, rcS_len] at e2
              omega
            have BW6 : Hid (Below w.heap.size w v6) := B3.out.trans (B6.out.mono B3.out.size)
            have cFr1 := cFr v6 a6 i c6 D a i c L D6.out (HL.out.later BW6.out) S6.out hc6 hm6 (by omega) (by unfold maxLen; omega)
            clear cFr bx1
            go_wp2_with (go_at_call 30; ((with_reducible refine cFr1.mono ?_); rintro e v8 ⟨rfl, hb8⟩; have B8 := Lib.hid hb8; clear hb8))
            go_ret
            exact ⟨rfl, BW6.out.trans (B8.out.mono BW6.out.size)⟩
          · have ep : ((p : Nat) : Int) % 2 = 0 := by omega
            have eq : ((q : Nat) : Int) % 2 = 1 := by omega
            have ep2 : ((p : Nat) : Int).tmod 2 = 0 := by rw [Int.tmod_eq_emod_of_nonneg (by omega)]; exact ep
            have eq2 : ((q : Nat) : Int).tmod 2 = 1 := by rw [Int.tmod_eq_emod_of_nonneg (by omega)]; exact eq
            obtain ⟨r1, r2⟩ := rep_torn (la := catR (rcS L)) (l := catR (rcS L')) (by omega)
            have hcut := cut_half (catR (rcS L)) (catR (rcS L')) 1
            have hB1 : BndD (dkH (catR (rcS L)) (catR (rcS L'))) 1099511627776 := ⟨by show (catR (rcS L)).length + 0 ≤ _; omega, by show (catR (rcS L')).length ≤ _; omega⟩
            have cFu1 : ∀ V, LawK w3 V g (dkA (catR (rcS L)) []) (fun _ => True) → Calls Tryz.prog 31 #[.pointer (some ⟨g, 0, none⟩), .int .i64 0] V fun e w' => e = .returned (.tuple #[]) ∧ LawK w3 w' g (dkF 0 (catR (rcS L)) []) (fun _ => True) := fun V hK => cFu 0 V _ hK
            have cCo1 : ∀ V a1 c1, LawK w3 V g (dkF 0 (catR (rcS L)) []) (fun _ => True) → RcsAt V a1 j L' → j ≤ c1 → c1 ≤ maxLen → Calls Tryz.prog 32 #[.pointer (some ⟨g, 0, none⟩), .slice a1 j c1] V fun e w' => e = .returned (.int .i64 8) ∧ LawK w3 w' g (dkH (catR (rcS L)) (catR (rcS L'))) (fun _ => True) := fun V a1 c1 hK hR h1 h2 => by
              have h3 := cCo 0 V a1 c1 hK (by omega) hR h1 h2
              rw [r1, r2] at h3; exact h3
            have cCu1 : ∀ V, LawK w3 V g (dkH (catR (rcS L)) (catR (rcS L'))) (fun _ => True) → Calls Tryz.prog 28 #[.pointer (some ⟨g, 0, none⟩), .int .i64 1] V fun e w' => ∃ g', e = .returned (.pointer (some ⟨g', 0, none⟩)) ∧ LawK w3 w' g' (dkA (catR (rcS L')) []) (fun _ => True) := fun V hK => cCu (dkH (catR (rcS L)) (catR (rcS L'))) _ 1 V hK hB1 (by omega) hcut
            have cOp1 : ∀ V g', LawK w3 V g' (dkA (catR (rcS L')) []) (fun _ => True) → Calls Tryz.prog 29 #[.pointer (some ⟨g', 0, none⟩)] V fun e w' => ∃ a n c D, e = .returned (.tuple #[.slice a n c, .int .i64 0]) ∧ Below w3.heap.size w3 w' ∧ RcsAt w' a n D ∧ rcS D = (rcS L') ∧ n ≤ c ∧ c ≤ maxLen := fun V g' hK => cOp V g' _ hK hQ T1.out
            clear r1 r2 hcut hB1 cFu cCo cCu cOp
            go_upto_region 20 with (first | (go_at_call 26; ((with_reducible refine (cSy _ _ KR.out).mono ?_); rintro e v1 ⟨rfl, h1⟩; have K1 := Lib.hid h1; clear h1; have BX := (hX4.below K1.out.bel); have bx0 := BX.cell 0 _ rfl; have bx1 := BX.cell 1 _ rfl; clear BX)) | (go_at_call 31; ((with_reducible refine (cFu1 _ K1.out).mono ?_); rintro e v2 ⟨rfl, h2⟩; have K2 := Lib.hid h2; clear h2 bx0 bx1)))
            have R2 : Hid (RowAt v2 v2.heap.size a' j 15 (L'.flatMap rcC)) := ((HL'.out.later (B3.out.trans (K2.out.bel.mono B3.out.size)))).row
            go_upto_region 22 with (first | (at_builtin; (refine wpList_append_rowk _ rfl _ _ 39 rfl v2.heap.size 36 iR (.agg zeroRV) 15 168 Tryz.underlying39 hiR hzR0 hzR1 hzR2 rfl (by omega) (.slice none 0 0) 0 [] rfl (World.ownsRow_nil _ _ _ _) v2.heap.size a' j c' (L'.flatMap rcC) rfl R2.out (flat_one L') (by unfold maxLen; omega) (by omega) (Nat.le_refl _) ?_; intro u3 v3 ho3 hg3 hat3; rw [Nat.zero_add, List.nil_append] at ho3; obtain ⟨a3, c3, rfl, hc3, hm3⟩ := ownk_form ho3; have O3 := Lib.hid (own_recs HL'.out ((B3.out.trans (K2.out.bel.mono B3.out.size))) ho3 hg3); have K3 := Lib.hid (K2.out.later (nil_grown hg3)); clear ho3 hg3 hat3)) | (go_at_call 32; ((with_reducible refine (cCo1 _ _ _ K3.out O3.out hc3 hm3).mono ?_); rintro e v4 ⟨rfl, h4⟩; have K4 := Lib.hid h4; clear h4)))
            have BX := (hX4.below K4.out.bel)
            have bx1 := BX.cell 1 _ rfl
            go_upto_region 23 with (first | (go_at_call 28; ((with_reducible refine (cCu1 _ K4.out).mono ?_); rintro e v5 ⟨g5, rfl, h5⟩; have K5 := Lib.hid h5; clear h5)) | (go_at_call 29; ((with_reducible refine (cOp1 _ _ K5.out).mono ?_); rintro e v6 ⟨a6, n6, c6, D, rfl, hb6, hD6, hS6, hc6, hm6⟩; have B6 := Lib.hid hb6; have D6 := Lib.hid hD6; have S6 := Lib.hid hS6; have bz1 := (hX4.below hb6).cell 1 _ rfl; clear hb6 hD6 hS6)))
            obtain rfl : j = n6 := by
              have e1 := D6.out.len
              have e2 := congrArg List.length S6.out
              have e3 := HLN'.out
              rw [rcS_len, rcS_len] at e2
              omega
            have BW6 : Hid (Below w.heap.size w v6) := B3.out.trans (B6.out.mono B3.out.size)
            have cFr1 := cFr v6 a6 j c6 D a' j c' L' D6.out (HL'.out.later BW6.out) S6.out hc6 hm6 (by omega) (by unfold maxLen; omega)
            clear cFr bx1
            go_wp2_with (go_at_call 30; ((with_reducible refine cFr1.mono ?_); rintro e v8 ⟨rfl, hb8⟩; have B8 := Lib.hid hb8; clear hb8))
            go_ret
            exact ⟨rfl, BW6.out.trans (B8.out.mono BW6.out.size)⟩
          · have ep : ((p : Nat) : Int) % 2 = 1 := by omega
            have eq : ((q : Nat) : Int) % 2 = 0 := by omega
            have ep2 : ((p : Nat) : Int).tmod 2 = 1 := by rw [Int.tmod_eq_emod_of_nonneg (by omega)]; exact ep
            have eq2 : ((q : Nat) : Int).tmod 2 = 0 := by rw [Int.tmod_eq_emod_of_nonneg (by omega)]; exact eq
            obtain ⟨r1, r2⟩ := rep_dk (f := 5) (la := catR (rcS L)) (l := catR (rcS L')) (by omega) (by omega)
            have hcut := cut_dk (dkF (5 - 1) (catR (rcS L')) []) (catR (rcS L')) [] 0 rfl rfl rfl rfl
            rw [List.take_nil, List.append_nil] at hcut
            have hB1 : BndD (dkF (5 - 1) (catR (rcS L')) []) 1099511627776 := dk_bnd (by show _ + 0 ≤ _; omega)
            have cFu1 : ∀ V, LawK w3 V g (dkA (catR (rcS L)) []) (fun _ => True) → Calls Tryz.prog 31 #[.pointer (some ⟨g, 0, none⟩), .int .i64 5] V fun e w' => e = .returned (.tuple #[]) ∧ LawK w3 w' g (dkF 5 (catR (rcS L)) []) (fun _ => True) := fun V hK => cFu 5 V _ hK
            have cCo1 : ∀ V a1 c1, LawK w3 V g (dkF 5 (catR (rcS L)) []) (fun _ => True) → RcsAt V a1 j L' → j ≤ c1 → c1 ≤ maxLen → Calls Tryz.prog 32 #[.pointer (some ⟨g, 0, none⟩), .slice a1 j c1] V fun e w' => e = .returned (.int .i64 0) ∧ LawK w3 w' g (dkF (5 - 1) (catR (rcS L')) []) (fun _ => True) := fun V a1 c1 hK hR h1 h2 => by
              have h3 := cCo 5 V a1 c1 hK (by omega) hR h1 h2
              rw [r1, r2] at h3; exact h3
            have cCu1 : ∀ V, LawK w3 V g (dkF (5 - 1) (catR (rcS L')) []) (fun _ => True) → Calls Tryz.prog 28 #[.pointer (some ⟨g, 0, none⟩), .int .i64 0] V fun e w' => ∃ g', e = .returned (.pointer (some ⟨g', 0, none⟩)) ∧ LawK w3 w' g' (dkA (catR (rcS L')) []) (fun _ => True) := fun V hK => cCu (dkF (5 - 1) (catR (rcS L')) []) _ 0 V hK hB1 (by omega) hcut
            have cOp1 : ∀ V g', LawK w3 V g' (dkA (catR (rcS L')) []) (fun _ => True) → Calls Tryz.prog 29 #[.pointer (some ⟨g', 0, none⟩)] V fun e w' => ∃ a n c D, e = .returned (.tuple #[.slice a n c, .int .i64 0]) ∧ Below w3.heap.size w3 w' ∧ RcsAt w' a n D ∧ rcS D = (rcS L') ∧ n ≤ c ∧ c ≤ maxLen := fun V g' hK => cOp V g' _ hK hQ T1.out
            clear r1 r2 hcut hB1 cFu cCo cCu cOp
            go_upto_region 20 with (first | (go_at_call 26; ((with_reducible refine (cSy _ _ KR.out).mono ?_); rintro e v1 ⟨rfl, h1⟩; have K1 := Lib.hid h1; clear h1; have BX := (hX4.below K1.out.bel); have bx0 := BX.cell 0 _ rfl; have bx1 := BX.cell 1 _ rfl; clear BX)) | (go_at_call 31; ((with_reducible refine (cFu1 _ K1.out).mono ?_); rintro e v2 ⟨rfl, h2⟩; have K2 := Lib.hid h2; clear h2 bx0 bx1)))
            have R2 : Hid (RowAt v2 v2.heap.size a' j 15 (L'.flatMap rcC)) := ((HL'.out.later (B3.out.trans (K2.out.bel.mono B3.out.size)))).row
            go_upto_region 22 with (first | (at_builtin; (refine wpList_append_rowk _ rfl _ _ 39 rfl v2.heap.size 36 iR (.agg zeroRV) 15 168 Tryz.underlying39 hiR hzR0 hzR1 hzR2 rfl (by omega) (.slice none 0 0) 0 [] rfl (World.ownsRow_nil _ _ _ _) v2.heap.size a' j c' (L'.flatMap rcC) rfl R2.out (flat_one L') (by unfold maxLen; omega) (by omega) (Nat.le_refl _) ?_; intro u3 v3 ho3 hg3 hat3; rw [Nat.zero_add, List.nil_append] at ho3; obtain ⟨a3, c3, rfl, hc3, hm3⟩ := ownk_form ho3; have O3 := Lib.hid (own_recs HL'.out ((B3.out.trans (K2.out.bel.mono B3.out.size))) ho3 hg3); have K3 := Lib.hid (K2.out.later (nil_grown hg3)); clear ho3 hg3 hat3)) | (go_at_call 32; ((with_reducible refine (cCo1 _ _ _ K3.out O3.out hc3 hm3).mono ?_); rintro e v4 ⟨rfl, h4⟩; have K4 := Lib.hid h4; clear h4)))
            have BX := (hX4.below K4.out.bel)
            have bx1 := BX.cell 1 _ rfl
            go_upto_region 23 with (first | (go_at_call 28; ((with_reducible refine (cCu1 _ K4.out).mono ?_); rintro e v5 ⟨g5, rfl, h5⟩; have K5 := Lib.hid h5; clear h5)) | (go_at_call 29; ((with_reducible refine (cOp1 _ _ K5.out).mono ?_); rintro e v6 ⟨a6, n6, c6, D, rfl, hb6, hD6, hS6, hc6, hm6⟩; have B6 := Lib.hid hb6; have D6 := Lib.hid hD6; have S6 := Lib.hid hS6; have bz1 := (hX4.below hb6).cell 1 _ rfl; clear hb6 hD6 hS6)))
            obtain rfl : j = n6 := by
              have e1 := D6.out.len
              have e2 := congrArg List.length S6.out
              have e3 := HLN'.out
              rw [rcS_len, rcS_len] at e2
              omega
            have BW6 : Hid (Below w.heap.size w v6) := B3.out.trans (B6.out.mono B3.out.size)
            have cFr1 := cFr v6 a6 j c6 D a' j c' L' D6.out (HL'.out.later BW6.out) S6.out hc6 hm6 (by omega) (by unfold maxLen; omega)
            clear cFr bx1
            go_wp2_with (go_at_call 30; ((with_reducible refine cFr1.mono ?_); rintro e v8 ⟨rfl, hb8⟩; have B8 := Lib.hid hb8; clear hb8))
            go_ret
            exact ⟨rfl, BW6.out.trans (B8.out.mono BW6.out.size)⟩
          · have ep : ((p : Nat) : Int) % 2 = 1 := by omega
            have eq : ((q : Nat) : Int) % 2 = 1 := by omega
            have ep2 : ((p : Nat) : Int).tmod 2 = 1 := by rw [Int.tmod_eq_emod_of_nonneg (by omega)]; exact ep
            have eq2 : ((q : Nat) : Int).tmod 2 = 1 := by rw [Int.tmod_eq_emod_of_nonneg (by omega)]; exact eq
            obtain ⟨r1, r2⟩ := rep_dk (f := 5) (la := catR (rcS L)) (l := catR (rcS L')) (by omega) (by omega)
            have hcut := cut_dk (dkF (5 - 1) (catR (rcS L')) []) (catR (rcS L')) [] 1 rfl rfl rfl rfl
            rw [List.take_nil, List.append_nil] at hcut
            have hB1 : BndD (dkF (5 - 1) (catR (rcS L')) []) 1099511627776 := dk_bnd (by show _ + 0 ≤ _; omega)
            have cFu1 : ∀ V, LawK w3 V g (dkA (catR (rcS L)) []) (fun _ => True) → Calls Tryz.prog 31 #[.pointer (some ⟨g, 0, none⟩), .int .i64 5] V fun e w' => e = .returned (.tuple #[]) ∧ LawK w3 w' g (dkF 5 (catR (rcS L)) []) (fun _ => True) := fun V hK => cFu 5 V _ hK
            have cCo1 : ∀ V a1 c1, LawK w3 V g (dkF 5 (catR (rcS L)) []) (fun _ => True) → RcsAt V a1 j L' → j ≤ c1 → c1 ≤ maxLen → Calls Tryz.prog 32 #[.pointer (some ⟨g, 0, none⟩), .slice a1 j c1] V fun e w' => e = .returned (.int .i64 0) ∧ LawK w3 w' g (dkF (5 - 1) (catR (rcS L')) []) (fun _ => True) := fun V a1 c1 hK hR h1 h2 => by
              have h3 := cCo 5 V a1 c1 hK (by omega) hR h1 h2
              rw [r1, r2] at h3; exact h3
            have cCu1 : ∀ V, LawK w3 V g (dkF (5 - 1) (catR (rcS L')) []) (fun _ => True) → Calls Tryz.prog 28 #[.pointer (some ⟨g, 0, none⟩), .int .i64 1] V fun e w' => ∃ g', e = .returned (.pointer (some ⟨g', 0, none⟩)) ∧ LawK w3 w' g' (dkA (catR (rcS L')) []) (fun _ => True) := fun V hK => cCu (dkF (5 - 1) (catR (rcS L')) []) _ 1 V hK hB1 (by omega) hcut
            have cOp1 : ∀ V g', LawK w3 V g' (dkA (catR (rcS L')) []) (fun _ => True) → Calls Tryz.prog 29 #[.pointer (some ⟨g', 0, none⟩)] V fun e w' => ∃ a n c D, e = .returned (.tuple #[.slice a n c, .int .i64 0]) ∧ Below w3.heap.size w3 w' ∧ RcsAt w' a n D ∧ rcS D = (rcS L') ∧ n ≤ c ∧ c ≤ maxLen := fun V g' hK => cOp V g' _ hK hQ T1.out
            clear r1 r2 hcut hB1 cFu cCo cCu cOp
            go_upto_region 20 with (first | (go_at_call 26; ((with_reducible refine (cSy _ _ KR.out).mono ?_); rintro e v1 ⟨rfl, h1⟩; have K1 := Lib.hid h1; clear h1; have BX := (hX4.below K1.out.bel); have bx0 := BX.cell 0 _ rfl; have bx1 := BX.cell 1 _ rfl; clear BX)) | (go_at_call 31; ((with_reducible refine (cFu1 _ K1.out).mono ?_); rintro e v2 ⟨rfl, h2⟩; have K2 := Lib.hid h2; clear h2 bx0 bx1)))
            have R2 : Hid (RowAt v2 v2.heap.size a' j 15 (L'.flatMap rcC)) := ((HL'.out.later (B3.out.trans (K2.out.bel.mono B3.out.size)))).row
            go_upto_region 22 with (first | (at_builtin; (refine wpList_append_rowk _ rfl _ _ 39 rfl v2.heap.size 36 iR (.agg zeroRV) 15 168 Tryz.underlying39 hiR hzR0 hzR1 hzR2 rfl (by omega) (.slice none 0 0) 0 [] rfl (World.ownsRow_nil _ _ _ _) v2.heap.size a' j c' (L'.flatMap rcC) rfl R2.out (flat_one L') (by unfold maxLen; omega) (by omega) (Nat.le_refl _) ?_; intro u3 v3 ho3 hg3 hat3; rw [Nat.zero_add, List.nil_append] at ho3; obtain ⟨a3, c3, rfl, hc3, hm3⟩ := ownk_form ho3; have O3 := Lib.hid (own_recs HL'.out ((B3.out.trans (K2.out.bel.mono B3.out.size))) ho3 hg3); have K3 := Lib.hid (K2.out.later (nil_grown hg3)); clear ho3 hg3 hat3)) | (go_at_call 32; ((with_reducible refine (cCo1 _ _ _ K3.out O3.out hc3 hm3).mono ?_); rintro e v4 ⟨rfl, h4⟩; have K4 := Lib.hid h4; clear h4)))
            have BX := (hX4.below K4.out.bel)
            have bx1 := BX.cell 1 _ rfl
            go_upto_region 23 with (first | (go_at_call 28; ((with_reducible refine (cCu1 _ K4.out).mono ?_); rintro e v5 ⟨g5, rfl, h5⟩; have K5 := Lib.hid h5; clear h5)) | (go_at_call 29; ((with_reducible refine (cOp1 _ _ K5.out).mono ?_); rintro e v6 ⟨a6, n6, c6, D, rfl, hb6, hD6, hS6, hc6, hm6⟩; have B6 := Lib.hid hb6; have D6 := Lib.hid hD6; have S6 := Lib.hid hS6; have bz1 := (hX4.below hb6).cell 1 _ rfl; clear hb6 hD6 hS6)))
            obtain rfl : j = n6 := by
              have e1 := D6.out.len
              have e2 := congrArg List.length S6.out
              have e3 := HLN'.out
              rw [rcS_len, rcS_len] at e2
              omega
            have BW6 : Hid (Below w.heap.size w v6) := B3.out.trans (B6.out.mono B3.out.size)
            have cFr1 := cFr v6 a6 j c6 D a' j c' L' D6.out (HL'.out.later BW6.out) S6.out hc6 hm6 (by omega) (by unfold maxLen; omega)
            clear cFr bx1
            go_wp2_with (go_at_call 30; ((with_reducible refine cFr1.mono ?_); rintro e v8 ⟨rfl, hb8⟩; have B8 := Lib.hid hb8; clear hb8))
            go_ret
            exact ⟨rfl, BW6.out.trans (B8.out.mono BW6.out.size)⟩
end Go.Proofs.YtcfmifongbapkaaGreatDoor
