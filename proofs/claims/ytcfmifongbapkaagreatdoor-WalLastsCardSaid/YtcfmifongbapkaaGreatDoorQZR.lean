/- The walk of the statement WalLasts. Conditions: the records lie in memory; the tables of utf8 lie there. -/
import Derived.Test.YtcfmifongbapkaaGreatDoorQZP
import Derived.Test.YtcfmifongbapkaaGreatDoorQZQ
/- WalLastsWalk -/
namespace Go.Proofs.YtcfmifongbapkaaGreatDoor

open Go.RowKit

set_option linter.unusedVariables false
set_option linter.unusedSimpArgs false

set_option maxRecDepth 100000 in
set_option maxHeartbeats 16000000 in
theorem lasts_walk (a : Option Addr) (n c : Nat) (L : List RE) (a' : Option Addr) (n' c' : Nat) (L' : List RE) (p q : Nat) (w : World) (h : RcsRaw w a n L) (hnc : n ≤ c) (hcm : c ≤ maxLen) (h' : RcsRaw w a' n' L') (hnc' : n' ≤ c') (hcm' : c' ≤ maxLen) (hp : p < 65536) (hq : q < 65536) (hU : Tabs w) :
    Calls Tryz.prog 5 #[.slice a n c, .slice a' n' c', .agg #[.int .u16 ((p : Nat) : Int), .int .u16 ((q : Nat) : Int)]] w (Says w true) := by
  obtain ⟨iR, hiR, hzR0, hzR1, hzR2⟩ := info_parts Tryz.kInfo36
  have H0 := Lib.hid ((Boxs.start w).more #[.int .u16 ((p : Nat) : Int), .int .u16 ((q : Nat) : Int)] 76)
  have TU : Hid (∀ W, Below w.heap.size w W → Tabs W) := fun W hW => hU.below hW
  have cA := fun W (hW : Below w.heap.size w W) => awake13_any W (TU.out W hW)
  have cF1 := fun W (hW : Below w.heap.size w W) => few_any a n c L 30 W (h.later hW) hnc hcm
  have cF2 := fun W (hW : Below w.heap.size w W) => few_any a' n' c' L' 30 W (h'.later hW) hnc' hcm'
  cases f1 : fewL L 30
  · rw [f1] at cF1
    clear cF2
    go_enter Tryz.func5, Tryz.ntmps5
    go_wp2_with (first | (go_at_call 8; ((with_reducible refine (cA _ H0.out.bel).mono ?_); rintro e w1 ⟨rfl, hb1⟩; have H1 := Lib.hid (H0.out.below hb1))) | (go_at_call 9; ((with_reducible refine (cF1 _ H1.out.bel).mono ?_); rintro e w2 ⟨rfl, hb2⟩; have H2 := Lib.hid (H1.out.below hb2))) | (go_at_call 8; ((with_reducible refine (cA _ H2.out.bel).mono ?_); rintro e w3 ⟨rfl, hb3⟩; have H3 := Lib.hid (H2.out.below hb3))))
    go_ret
    exact ⟨rfl, H3.out.bel⟩
  rw [f1] at cF1
  cases f2 : fewL L' 30
  · rw [f2] at cF2
    go_enter Tryz.func5, Tryz.ntmps5
    go_wp2_with (first | (go_at_call 8; ((with_reducible refine (cA _ H0.out.bel).mono ?_); rintro e w1 ⟨rfl, hb1⟩; have H1 := Lib.hid (H0.out.below hb1))) | (go_at_call 9; ((with_reducible refine (cF1 _ H1.out.bel).mono ?_); rintro e w2 ⟨rfl, hb2⟩; have H2 := Lib.hid (H1.out.below hb2))) | (go_at_call 9; ((with_reducible refine (cF2 _ H2.out.bel).mono ?_); rintro e w3 ⟨rfl, hb3⟩; have H3 := Lib.hid (H2.out.below hb3))) | (go_at_call 8; ((with_reducible refine (cA _ H3.out.bel).mono ?_); rintro e w4 ⟨rfl, hb4⟩; have H4 := Lib.hid (H3.out.below hb4))))
    go_ret
    exact ⟨rfl, H4.out.bel⟩
  rw [f2] at cF2
  obtain ⟨hL, hl30, hsum⟩ := fewL_all h (by omega) f1
  obtain ⟨hL', hl30', hsum'⟩ := fewL_all h' (by omega) f2
  have hln := h.len
  have hln' := h'.len
  have HL := Lib.hid hL
  have HL' := Lib.hid hL'
  have HLN := Lib.hid hln
  have HLN' := Lib.hid hln'
  have HS : Hid (L.length ≤ 30 ∧ (L.map fun z => z.1.dn).sum ≤ 200000) := ⟨by omega, hsum⟩
  have HS' : Hid (L'.length ≤ 30 ∧ (L'.map fun z => z.1.dn).sum ≤ 200000) := ⟨by omega, hsum'⟩
  have hcw := hcm
  have hcw' := hcm'
  unfold maxLen at hcw hcw'
  have hn30 : n ≤ 30 := by omega
  have hn30' : n' ≤ 30 := by omega
  obtain ⟨S, hS⟩ : ∃ S, S = p % (n + 1) := ⟨_, rfl⟩
  have hSn : S ≤ n := by rw [hS]; have := Nat.mod_lt p (show 0 < n + 1 by omega); omega
  have SE : Hid (S = p % (n + 1)) := hS
  clear hS
  clear f1 f2 hL hl30 hsum h hL' hl30' hsum' h' hU hln hln'
  go_enter Tryz.func5, Tryz.ntmps5
  go_upto_region 4 with (first | (go_at_call 8; ((with_reducible refine (cA _ H0.out.bel).mono ?_); rintro e w1 ⟨rfl, hb1⟩; have H1 := Lib.hid (H0.out.below hb1))) | (go_at_call 9; ((with_reducible refine (cF1 _ H1.out.bel).mono ?_); rintro e w2 ⟨rfl, hb2⟩; have H2 := Lib.hid (H1.out.below hb2))) | (go_at_call 9; ((with_reducible refine (cF2 _ H2.out.bel).mono ?_); rintro e w3 ⟨rfl, hb3⟩; have H3 := Lib.hid (H2.out.below hb3))) | (go_at_call 20; ((with_reducible refine (new_k 1000000 (by omega) (Below.refl _ w3)).mono ?_); rintro e w4 ⟨rfl, h4⟩; have K4 : Hid (LawK w3 w4 w3.heap.size (dkA [] []) (fun _ => True)) := h4; clear h4)))
  have B3 := Lib.hid H3.out.bel
  have X3 : Hid (BoxC w3 w.heap.size #[.int .u16 ((p : Nat) : Int), .int .u16 ((q : Nat) : Int)] 76) := H3.out.get 0 _ _ _ rfl
  clear H0 H1 H2 H3 cF1 cF2 cA
  generalize w3.heap.size = g at K4 ⊢
  have hX4 := X3.out
  go_upto_region 5 with (fail)
  have cc0 : Hid (∀ V, LawK w3 V g (dkA [] []) (fun _ => True) → V.cell? ⟨w.heap.size, 0, none⟩ = some (.int .u16 ((p : Nat) : Int))) := fun V hV => (hX4.below hV.bel).cell 0 _ rfl
  have bx0 := cc0.out _ K4.out
  go_cut [34] (fun b wr => ∃ B : Bool, b = .bool B ∧ Hid (B = decide (0 < n)) ∧ wr = w4)
  case first =>
    go_wp2
    go_meet
    case rel => exact ⟨_, rfl, rfl, rfl⟩
  case rest =>
  obtain ⟨B, rfl, hB, rfl⟩ := hcut
  go_upto_if 34 with (fail)
  go_cut [8] (fun s wr => s = .int .i64 ((S : Nat) : Int) ∧ LawK w3 wr g (dkA [] []) (fun _ => True))
  case first =>
    cases B
    · have S0 : Hid (S = 0) := by
        have h1 : ¬ 0 < n := of_decide_eq_false hB.out.symm
        unfold Hid; omega
      clear bx0 hX4
      go_wp2
      go_meet
      case rel => exact ⟨by rw [S0.out]; rfl, K4.out⟩
    · skip
      clear hX4
      go_wp2
      go_meet
      case rel =>
        refine ⟨?_, K4.out⟩
        rw [SE.out, Int.natCast_emod]; rfl
  case rest =>
  obtain ⟨rfl, hK5⟩ := hcut
  have K5 := Lib.hid hK5
  clear hK5 K4 hB bx0 hX4 SE
  go_upto_region 8 with (fail)
  go_loopw [9] (fun y wr => ∃ i : Nat, y = .int .i64 i ∧ i ≤ n ∧ (∀ z ∈ L.take i, formR (rcT z.1 z.2) = true) ∧ LawK w3 wr g (dkA (laS (rcS L) S i) (reS (rcS L) S i)) (fun _ => True)) (fun y _ => n - (intOf y).toNat)
  case atStart => exact ⟨0, rfl, Nat.zero_le _, (fun z hz => by simp at hz), by rw [(lasts_zero _ _).1, (lasts_zero _ _).2]; exact K5.out⟩
  case round =>
    obtain ⟨i, rfl, hi, hF, hK⟩ := hrel
    have KR := Lib.hid hK
    have FR := Lib.hid hF
    have BR : Hid (Below w.heap.size w wr) := B3.out.trans (hK.bel.mono B3.out.size)
    clear hK hF K5
    by_cases h1 : i < n
    · have i1 : (i : Int) < (n : Int) := by omega
      have hiL : i < L.length := by rw [HLN.out]; exact h1
      obtain ⟨b0, off, rfl, hb0, LD0⟩ := HL.out.raw.at_ hiL
      have LD := Lib.hid LD0
      have ld := (LD.out _ BR.out).1
      have hZ := HL.out.all _ (List.getElem_mem hiL)
      have eG := rcS_get L i hiL
      have eN := catR_next (rcS L) i (by rw [rcS_len]; exact hiL)
      rw [eG] at eN
      have eE : i = S → laS (rcS L) S i = [] ∧ reS (rcS L) S i = catR ((rcS L).take i) ∧ laS (rcS L) S (i + 1) = catR ((rcS L).take i) ∧ reS (rcS L) S (i + 1) = frameB (rcB (rcT L[i].1 L[i].2)) := fun e => by
        have h := lasts_eq (rcS L) i (by rw [rcS_len]; exact hiL)
        rw [eG] at h
        rw [← e]; exact h
      have eD : i ≠ S → laS (rcS L) S (i + 1) = laS (rcS L) S i ∧ reS (rcS L) S (i + 1) = reS (rcS L) S i ++ frameB (rcB (rcT L[i].1 L[i].2)) := fun e => by
        have h := lasts_ne (rcS L) S i (by rw [rcS_len]; exact hiL) e
        rw [eG] at h; exact h
      have hmem : ∀ z ∈ L.take (i + 1), z ∈ L.take i ∨ z = L[i] := fun z hz => by
        rw [List.take_succ_eq_append_getElem hiL] at hz
        exact (List.mem_append.1 hz).imp id List.mem_singleton.1
      have hsz : formR (rcT L[i].1 L[i].2) = true → (catR ((rcS L).take i)).length + (frameB (rcB (rcT L[i].1 L[i].2))).length ≤ 1000000 := fun hf => by
        have hg : Good ((rcS L).take (i + 1)) := fun y hy => by
          rw [← rcS_take] at hy
          obtain ⟨z, hz, rfl⟩ := List.mem_map.1 hy
          refine ⟨(formR_iff _).1 ?_, (HL.out.all z (List.mem_of_mem_take hz)).1.ok⟩
          rcases hmem z hz with h2 | h2
          · exact FR.out z h2
          · rw [h2]; exact hf
        have h5 : (((rcS L).take (i + 1)).map fun x => x.da.length).sum ≤ 200000 := by
          have h6 := HS.out.2
          rw [← HL.out.sum] at h6
          have h7 : ((rcS L).map fun x => x.da.length) = (((rcS L).take (i + 1)).map fun x => x.da.length) ++ (((rcS L).drop (i + 1)).map fun x => x.da.length) := by rw [← List.map_append, List.take_append_drop]
          rw [h7, List.sum_append] at h6; omega
        have h8 := catR_max _ hg 200000 h5
        rw [eN, List.length_append] at h8
        have h9 : ((rcS L).take (i + 1)).length ≤ 30 := by rw [List.length_take, rcS_len]; have := HS.out.1; omega
        omega
      have cFi := fun W (hW : Below w.heap.size w W) => wFormed_any L[i].1 L[i].2 W (hZ.1.later hW) hZ.2 (TU.out W hW)
      have cAi := fun W la re K (hK : LawK w3 W g (dkA la re) K) (hb : la.length + re.length ≤ 1099511627776) => add_k (x := L[i].1) (L := L[i].2) hK (by show (-1 : Int) < _; omega) (dk_bnd hb) (hZ.1.later (B3.out.trans (hK.bel.mono B3.out.size))) hZ.2 (TU.out W (B3.out.trans (hK.bel.mono B3.out.size)))
      have FN : Hid (formR (rcT L[i].1 L[i].2) = true → ∀ z ∈ L.take (i + 1), formR (rcT z.1 z.2) = true) := fun hf z hz => (hmem z hz).elim (FR.out z) fun e => by rw [e]; exact hf
      have HSZ := Lib.hid hsz
      have EE := Lib.hid eE
      have ED := Lib.hid eD
      have EL := Lib.hid (lasts_len (rcS L) S i)
      clear LD0 hZ eG eN hmem hsz eE eD
      generalize L[i] = z at *
      cases hf : formR (rcT z.1 z.2)
      · rw [hf] at cFi
        clear hf cAi
        go_wp2_with ((go_at_call 15; ((with_reducible refine (cFi _ BR.out).mono ?_); rintro e w6 ⟨rfl, hb6⟩; have B6 := Lib.hid (BR.out.trans (hb6.mono BR.out.size)))))
        go_ret
        exact ⟨rfl, B6.out⟩
      · rw [hf] at cFi
        have hsz := HSZ.out hf
        have F4 := Lib.hid (FN.out hf)
        by_cases hs : i = S
        · obtain ⟨x1, x2, x3, x4⟩ := EE.out hs
          obtain ⟨m1, m2⟩ := add_dk (la := catR ((rcS L).take i)) (re := []) hf (by rw [List.length_nil]; omega)
          have cSy : ∀ V K, LawK w3 V g (dkA (laS (rcS L) S i) (reS (rcS L) S i)) K → Calls Tryz.prog 26 #[.pointer (some ⟨g, 0, none⟩)] V fun e w' => e = .returned (.int .i64 0) ∧ LawK w3 w' g (dkA (catR ((rcS L).take i)) []) K := fun V K hK => by
            rw [x1, x2] at hK
            exact sync_k hK (by show (-1 : Int) < _; omega)
          have cAj : ∀ W K, LawK w3 W g (dkA (catR ((rcS L).take i)) []) K → Calls Tryz.prog 27 #[.pointer (some ⟨g, 0, none⟩), .agg (rcV z.1)] W fun e w' => e = .returned (.int .i64 0) ∧ LawK w3 w' g (dkA (laS (rcS L) S (i + 1)) (reS (rcS L) S (i + 1))) K := fun W K hK => by
            have h2 := cAi W _ _ K hK (by rw [List.length_nil]; omega)
            rw [m1, m2, List.nil_append] at h2
            rw [x3, x4]; exact h2
          have q1 : (((i : Nat) : Int) == ((S : Nat) : Int)) = true := by simp [hs]
          clear hf cAi m1 m2 hsz HSZ EE ED FN EL x1 x2 x3 x4 hs
          go_wp2_with (first | (go_at_call 15; ((with_reducible refine (cFi _ BR.out).mono ?_); rintro e w6 ⟨rfl, hb6⟩; have K6 := Lib.hid (KR.out.later hb6); clear ld hb6)) | (go_at_call 26; ((with_reducible refine (cSy _ _ K6.out).mono ?_); rintro e w7 ⟨rfl, h7⟩; have K7 := Lib.hid h7; have ld := (LD.out _ (B3.out.trans (h7.bel.mono B3.out.size))).1; clear h7)) | (go_at_call 27; ((with_reducible refine (cAj _ _ K7.out).mono ?_); rintro e w8 ⟨rfl, h8⟩; have K8 := Lib.hid h8; clear h8)))
          go_roundw
          case rel => exact ⟨i + 1, by go_num, h1, F4.out, K8.out⟩
          case measure => simp [intOf]; omega
        · obtain ⟨x3, x4⟩ := ED.out hs
          obtain ⟨m1, m2⟩ := add_dk (la := laS (rcS L) S i) (re := reS (rcS L) S i) hf (by rw [EL.out]; exact hsz)
          have cAj : ∀ W K, LawK w3 W g (dkA (laS (rcS L) S i) (reS (rcS L) S i)) K → Calls Tryz.prog 27 #[.pointer (some ⟨g, 0, none⟩), .agg (rcV z.1)] W fun e w' => e = .returned (.int .i64 0) ∧ LawK w3 w' g (dkA (laS (rcS L) S (i + 1)) (reS (rcS L) S (i + 1))) K := fun W K hK => by
            have h2 := cAi W _ _ K hK (by rw [EL.out]; omega)
            rw [m1, m2] at h2
            rw [x3, x4]; exact h2
          have q1 : (((i : Nat) : Int) == ((S : Nat) : Int)) = false := by simp; omega
          clear hf cAi m1 m2 hsz HSZ EE ED FN EL x3 x4 hs
          go_wp2_with (first | (go_at_call 15; ((with_reducible refine (cFi _ BR.out).mono ?_); rintro e w6 ⟨rfl, hb6⟩; have K6 := Lib.hid (KR.out.later hb6); have B6 := Lib.hid (BR.out.trans (hb6.mono BR.out.size)); clear ld; have ld := (LD.out _ B6.out).1; clear hb6)) | (go_at_call 27; ((with_reducible refine (cAj _ _ K6.out).mono ?_); rintro e w8 ⟨rfl, h8⟩; have K8 := Lib.hid h8; clear h8)))
          go_roundw
          case rel => exact ⟨i + 1, by go_num, h1, F4.out, K8.out⟩
          case measure => simp [intOf]; omega
    · have i1 : ¬ (i : Int) < (n : Int) := by omega
      obtain rfl : i = n := by omega
      have eT2 : L.take i = L := List.take_of_length_le (by rw [HLN.out]; exact Nat.le_refl _)
      have FA := FR.out
      rw [eT2] at FA
      have GD := Lib.hid (HL.out.good FA)
      have hSl : S ≤ (rcS L).length := by rw [rcS_len, HLN.out]; exact hSn
      have hli : (rcS L).length = i := by rw [rcS_len, HLN.out]
      clear FA eT2 FR
      go_upto_region 14 with (fail)
      go_cut [79] (fun c wr => c = .bool false ∧ LawK w3 wr g (dkA (catR ((rcS L).take S)) (catR ((rcS L).drop S))) (fun _ => True))
      case first =>
        by_cases hs : S = i
        · have q1 : (((S : Nat) : Int) == ((i : Nat) : Int)) = true := by simp [hs]
          have cSy : ∀ V K, LawK w3 V g (dkA (laS (rcS L) S i) (reS (rcS L) S i)) K → Calls Tryz.prog 26 #[.pointer (some ⟨g, 0, none⟩)] V fun e w' => e = .returned (.int .i64 0) ∧ LawK w3 w' g (dkA (catR ((rcS L).take S)) (catR ((rcS L).drop S))) K := fun V K hK => by
            have e1 := lasts_all (rcS L)
            have e2 := lasts_sync (rcS L)
            have e3 : S = (rcS L).length := by omega
            rw [e2.1.symm] at e1
            have e4 : i = (rcS L).length := by omega
            rw [e3, e4, e1.1, e1.2] at hK
            have h2 := sync_k hK (by show (-1 : Int) < _; omega)
            rw [e3, e2.2]; exact h2
          clear hs
          go_wp2_with (go_at_call 26; ((with_reducible refine (cSy _ _ KR.out).mono ?_); rintro e w7 ⟨rfl, h7⟩; have K7 := Lib.hid h7; clear h7))
          go_meet
          case rel => exact ⟨rfl, K7.out⟩
        · have q1 : (((S : Nat) : Int) == ((i : Nat) : Int)) = false := by simp; omega
          have K7 : Hid (LawK w3 wr g (dkA (catR ((rcS L).take S)) (catR ((rcS L).drop S))) (fun _ => True)) := by
            have e1 := lasts_end (rcS L) S (by omega)
            rw [hli] at e1
            have h := KR.out
            rw [e1.1, e1.2] at h; exact h
          clear hs
          go_wp2
          go_meet
          case rel => exact ⟨rfl, K7.out⟩
      case rest =>
      obtain ⟨rfl, hK7⟩ := hcut
      have K7 := Lib.hid hK7
      clear hK7 KR
      have hPl : (catR (rcS L)).length ≤ 242240 := by
        have h8 := catR_max _ GD.out 200000 (by rw [HL.out.sum]; exact HS.out.2)
        have h9 := HS.out.1
        rw [rcS_len] at h8; omega
      obtain ⟨t, ht1, ht2, o1, o2, o3⟩ := lasts_cut (rcS L) GD.out S q hSl (by omega)
      have GT : Hid (Good ((rcS L).take t)) := GD.out.take t
      have hw : (catR ((rcS L).take S)).length + (catR ((rcS L).drop S)).length = (catR (rcS L)).length := by
        rw [← List.length_append, ← catR_app, List.take_append_drop]
      have hTl : (catR ((rcS L).take t)).length ≤ 242240 := Nat.le_trans (catR_take_le _ _) hPl
      have cCu : ∀ V, LawK w3 V g (dkA (catR ((rcS L).take S)) (catR ((rcS L).drop S))) (fun _ => True) → Calls Tryz.prog 28 #[.pointer (some ⟨g, 0, none⟩), .int .i64 ((q : Nat) : Int)] V fun e w' => ∃ g', e = .returned (.pointer (some ⟨g', 0, none⟩)) ∧ LawK w3 w' g' (dkA (catR ((rcS L).take S) ++ (catR ((rcS L).drop S)).take q) []) (fun _ => True) := fun V hK => by
        have h2 := cut_k ((q : Nat) : Int) hK (dk_bnd (by omega)) (by omega) (by omega)
        rw [cut_dk _ (catR ((rcS L).take S)) (catR ((rcS L).drop S)) q rfl rfl rfl rfl] at h2; exact h2
      have cO1 : ∀ V g', LawK w3 V g' (dkA (catR ((rcS L).take S) ++ (catR ((rcS L).drop S)).take q) []) (fun _ => True) → Calls Tryz.prog 29 #[.pointer (some ⟨g', 0, none⟩)] V fun e w' => ∃ a n c D, e = .returned (.tuple #[.slice a n c, .int .i64 0]) ∧ LawK w3 w' g' (dkA (catR ((rcS L).take t)) []) (fun X => RcsOwn w3.heap.size X a n c D) ∧ rcS D = (rcS L).take t ∧ n ≤ c ∧ c ≤ maxLen := fun V g' hK => by
        have h2 := open_own hK (by show (-1 : Int) < _; omega) (dk_bnd (by rw [List.length_append, List.length_take, List.length_nil]; omega)) (TU.out V (B3.out.trans (hK.bel.mono B3.out.size)))
        rw [o1, o2, o3] at h2
        exact h2.mono fun e w' ⟨a, n, c, D, he, hk, hD, h3, h4⟩ => ⟨a, n, c, D, he, hk.mono fun X hX => hX.2.mono hK.bel.size, hD, h3, h4⟩
      have cO2 : ∀ V g' P, LawK w3 V g' (dkA (catR ((rcS L).take t)) []) P → Calls Tryz.prog 29 #[.pointer (some ⟨g', 0, none⟩)] V fun e w' => ∃ a n c D, e = .returned (.tuple #[.slice a n c, .int .i64 0]) ∧ LawK w3 w' g' (dkA (catR ((rcS L).take t)) []) (fun X => P X ∧ RcsAt X a n D) ∧ rcS D = (rcS L).take t ∧ n ≤ c ∧ c ≤ maxLen := fun V g' P hK => by
        obtain ⟨p1, p2, p3⟩ := opn_whole (la := catR ((rcS L).take t)) (re := []) (xs := (rcS L).take t) (ys := []) rfl rfl GT.out (fun x hx => by cases hx)
        have h2 := open_k hK (by show (-1 : Int) < _; omega) (dk_bnd (by rw [List.length_nil]; omega)) (TU.out V (B3.out.trans (hK.bel.mono B3.out.size)))
        rw [p1, p2, p3, List.append_nil] at h2; exact h2
      have cR1 : ∀ V a1 c1 D, RcsAt V a1 t D → rcS D = (rcS L).take t → t ≤ c1 → c1 ≤ maxLen → Below w.heap.size w V → Calls Tryz.prog 30 #[.slice a1 t c1, .slice a i c, .int .i64 ((S : Nat) : Int)] V (Says V true) := fun V a1 c1 D hD he h1 h2 hV => by
        have h5 := front_any a1 a t i c1 c D L ((S : Nat) : Int) V hD (HL.out.later hV) h1 h2 (by omega) (by unfold maxLen; omega)
        rw [front_yes (by rw [hD.len]; omega) (by rw [hD.len, HLN.out]; omega) (by rw [he, hD.len])] at h5
        exact h5
      have cR2 : ∀ V a1 c1 D a2 c2 D2, RcsAt V a1 t D → RcsAt V a2 t D2 → rcS D = (rcS L).take t → rcS D2 = (rcS L).take t → t ≤ c1 → c1 ≤ maxLen → t ≤ c2 → c2 ≤ maxLen → Calls Tryz.prog 30 #[.slice a2 t c2, .slice a1 t c1, .int .i64 0] V (Says V true) := fun V a1 c1 D a2 c2 D2 hD hD2 he he2 h1 h2 h3 h4 => by
        have h5 := front_any a2 a1 t t c2 c1 D2 D 0 V hD2 hD h3 h4 h1 h2
        rw [front_yes (by rw [hD2.len]; omega) (by rw [hD.len, hD2.len]; exact Nat.le_refl _) (by rw [he, he2, hD2.len, List.take_take, Nat.min_self])] at h5
        exact h5
      have bx1 := (X3.out.below K7.out.bel).cell 1 _ rfl
      have LENT : Hid (∀ D : List RE, rcS D = (rcS L).take t → D.length = t) := fun D h => by
        have := congrArg List.length h
        rw [rcS_len, List.length_take, Nat.min_eq_left ht2] at this; exact this
      clear hw o1 o2 o3 hPl
      go_upto_region 17 with (go_at_call 28; ((with_reducible refine (cCu _ K7.out).mono ?_); rintro e v1 ⟨g1, rfl, h1⟩; have K8 := Lib.hid h1; clear h1 bx1))
      clear cCu K7
      go_upto_region 19 with (first | (go_at_call 29; ((with_reducible refine (cO1 _ _ K8.out).mono ?_); rintro e v2 ⟨a2, n2, c2, D, rfl, h2, hS2, hc2, hm2⟩; have K9 := Lib.hid h2; have S2 := Lib.hid hS2; clear h2 hS2)) | (go_at_call 29; ((with_reducible refine (cO2 _ _ _ K9.out).mono ?_); rintro e v3 ⟨a3, n3, c3, D3, rfl, h3, hS3, hc3, hm3⟩; have K10 := Lib.hid h3; have S3 := Lib.hid hS3; clear h3 hS3)))
      obtain rfl : t = n2 := by
        have e1 := K9.out.get.len
        have e2 := LENT.out _ S2.out
        omega
      obtain rfl : t = n3 := by
        have e1 := K10.out.get.2.len
        have e2 := LENT.out _ S3.out
        omega
      clear cO1 cO2 K8 K9
      have BW3 : Hid (Below w.heap.size w v3) := B3.out.trans (K10.out.bel.mono B3.out.size)
      have cF1 := cR1 v3 a2 c2 D K10.out.get.1.at_ S2.out hc2 hm2 BW3.out
      have cF2 := fun V (hV : Below v3.heap.size v3 V) => cR2 V a2 c2 D a3 c3 D3 (K10.out.later hV).get.1.at_ (K10.out.later hV).get.2 S2.out S3.out hc2 hm2 hc3 hm3
      clear cR1 cR2
      go_upto_region 22 with (first | (go_at_call 30; ((with_reducible refine cF1.mono ?_); rintro e v4 ⟨rfl, hb4⟩; have B4 := Lib.hid hb4; clear hb4)) | (go_at_call 30; ((with_reducible refine (cF2 _ B4.out).mono ?_); rintro e v5 ⟨rfl, hb5⟩; have K11 := Lib.hid (K10.out.later (B4.out.trans (hb5.mono B4.out.size))); clear hb5)))
      have K12 : Hid (LawK w3 v5 g1 (dkA (catR ((rcS L).take t)) []) (fun X => RcsOwn w3.heap.size X a2 t c2 D)) := K11.out.mono fun X h => h.1
      clear cF1 cF2 K10 K11 B4 BW3
      go_loopw [15] (fun y wr => ∃ j : Nat, y = .int .i64 j ∧ j ≤ n' ∧ (∀ z ∈ L'.take j, formR (rcT z.1 z.2) = true) ∧ LawK w3 wr g1 (dkA (catR ((rcS L).take t)) (catR ((rcS L').take j))) (fun X => RcsOwn w3.heap.size X a2 t c2 D)) (fun y _ => n' - (intOf y).toNat)
      case atStart => exact ⟨0, rfl, Nat.zero_le _, (fun z hz => by simp at hz), K12.out⟩
      case round =>
        obtain ⟨j, rfl, hj, hF, hK⟩ := hrel
        have KR := Lib.hid hK
        have FR := Lib.hid hF
        have BR : Hid (Below w.heap.size w wr) := B3.out.trans (hK.bel.mono B3.out.size)
        clear hK hF K12
        by_cases h1 : j < n'
        · have i1 : (j : Int) < (n' : Int) := by omega
          have hiL : j < L'.length := by rw [HLN'.out]; exact h1
          obtain ⟨b0, off, rfl, hb0, LD0⟩ := HL'.out.raw.at_ hiL
          have LD := Lib.hid LD0
          have ld := (LD.out _ BR.out).1
          have hZ := HL'.out.all _ (List.getElem_mem hiL)
          have eG := rcS_get L' j hiL
          have eN := catR_next (rcS L') j (by rw [rcS_len]; exact hiL)
          rw [eG] at eN
          have hmem : ∀ z ∈ L'.take (j + 1), z ∈ L'.take j ∨ z = L'[j] := fun z hz => by
            rw [List.take_succ_eq_append_getElem hiL] at hz
            exact (List.mem_append.1 hz).imp id List.mem_singleton.1
          have hsz : formR (rcT L'[j].1 L'[j].2) = true → (catR ((rcS L).take t)).length + (catR ((rcS L').take j)).length + (frameB (rcB (rcT L'[j].1 L'[j].2))).length ≤ 1000000 := fun hf => by
            have hg : Good ((rcS L').take (j + 1)) := fun y hy => by
              rw [← rcS_take] at hy
              obtain ⟨z, hz, rfl⟩ := List.mem_map.1 hy
              refine ⟨(formR_iff _).1 ?_, (HL'.out.all z (List.mem_of_mem_take hz)).1.ok⟩
              rcases hmem z hz with h2 | h2
              · exact FR.out z h2
              · rw [h2]; exact hf
            have h5 : (((rcS L').take (j + 1)).map fun x => x.da.length).sum ≤ 200000 := by
              have h6 := HS'.out.2
              rw [← HL'.out.sum] at h6
              have h7 : ((rcS L').map fun x => x.da.length) = (((rcS L').take (j + 1)).map fun x => x.da.length) ++ (((rcS L').drop (j + 1)).map fun x => x.da.length) := by rw [← List.map_append, List.take_append_drop]
              rw [h7, List.sum_append] at h6; omega
            have h8 := catR_max _ hg 200000 h5
            rw [eN, List.length_append] at h8
            have h9 : ((rcS L').take (j + 1)).length ≤ 30 := by rw [List.length_take, rcS_len]; have := HS'.out.1; omega
            omega
          have cFi := fun W (hW : Below w.heap.size w W) => wFormed_any L'[j].1 L'[j].2 W (hZ.1.later hW) hZ.2 (TU.out W hW)
          have cAi := fun W K (hK : LawK w3 W g1 (dkA (catR ((rcS L).take t)) (catR ((rcS L').take j))) K) (hb : (catR ((rcS L).take t)).length + (catR ((rcS L').take j)).length ≤ 1099511627776) => add_k (x := L'[j].1) (L := L'[j].2) hK (by show (-1 : Int) < _; omega) (dk_bnd hb) (hZ.1.later (B3.out.trans (hK.bel.mono B3.out.size))) hZ.2 (TU.out W (B3.out.trans (hK.bel.mono B3.out.size)))
          have FN : Hid (formR (rcT L'[j].1 L'[j].2) = true → ∀ z ∈ L'.take (j + 1), formR (rcT z.1 z.2) = true) := fun hf z hz => (hmem z hz).elim (FR.out z) fun e => by rw [e]; exact hf
          have HSZ := Lib.hid hsz
          have EN := Lib.hid eN
          clear LD0 hZ eG eN hmem hsz
          generalize L'[j] = z at *
          cases hf : formR (rcT z.1 z.2)
          · rw [hf] at cFi
            clear hf cAi
            go_wp2_with ((go_at_call 15; ((with_reducible refine (cFi _ BR.out).mono ?_); rintro e w6 ⟨rfl, hb6⟩; have B6 := Lib.hid (BR.out.trans (hb6.mono BR.out.size)))))
            go_ret
            exact ⟨rfl, B6.out⟩
          · rw [hf] at cFi
            have hsz := HSZ.out hf
            obtain ⟨m1, m2⟩ := add_dk (la := catR ((rcS L).take t)) (re := catR ((rcS L').take j)) hf hsz
            have cAj : ∀ W K, LawK w3 W g1 (dkA (catR ((rcS L).take t)) (catR ((rcS L').take j))) K → Calls Tryz.prog 27 #[.pointer (some ⟨g1, 0, none⟩), .agg (rcV z.1)] W fun e w' => e = .returned (.int .i64 0) ∧ LawK w3 w' g1 (dkA (catR ((rcS L).take t)) (catR ((rcS L').take (j + 1)))) K := fun W K hK => by
              have h2 := cAi W K hK (by omega)
              rw [m1, m2, ← EN.out] at h2; exact h2
            have F4 := Lib.hid (FN.out hf)
            clear hf cAi m1 m2 hsz HSZ EN FN
            go_wp2_with (first | (go_at_call 15; ((with_reducible refine (cFi _ BR.out).mono ?_); rintro e w6 ⟨rfl, hb6⟩; have K6 := Lib.hid (KR.out.later hb6); have B6 := Lib.hid (BR.out.trans (hb6.mono BR.out.size)); clear ld; have ld := (LD.out _ B6.out).1; clear hb6)) | (go_at_call 27; ((with_reducible refine (cAj _ _ K6.out).mono ?_); rintro e w7 ⟨rfl, h7⟩; have K7 := Lib.hid h7; clear h7)))
            go_roundw
            case rel => exact ⟨j + 1, by go_num, h1, F4.out, K7.out⟩
            case measure => simp [intOf]; omega
        · have i1 : ¬ (j : Int) < (n' : Int) := by omega
          obtain rfl : j = n' := by omega
          have eT : (rcS L').take j = rcS L' := List.take_of_length_le (by rw [rcS_len, HLN'.out]; exact Nat.le_refl _)
          have eT2 : L'.take j = L' := List.take_of_length_le (by rw [HLN'.out]; exact Nat.le_refl _)
          have FA := FR.out
          rw [eT2] at FA
          have GD' := Lib.hid (HL'.out.good FA)
          have K12 : Hid (LawK w3 wr g1 (dkA (catR ((rcS L).take t)) (catR (rcS L'))) (fun X => RcsOwn w3.heap.size X a2 t c2 D)) := by have := KR.out; rw [eT] at this; exact this
          clear FA eT eT2 KR FR
          have hPl' : (catR (rcS L')).length ≤ 242240 := by
            have h8 := catR_max _ GD'.out 200000 (by rw [HL'.out.sum]; exact HS'.out.2)
            have h9 := HS'.out.1
            rw [rcS_len] at h8; omega
          have OO := Lib.hid K12.out.get.own
          have R2 : Hid (RowAt wr wr.heap.size a' j 15 (L'.flatMap rcC)) := (HL'.out.later BR.out).row
          have sz : Hid (w3.heap.size ≤ wr.heap.size) := K12.out.bel.size
          obtain ⟨N, hN⟩ : ∃ N, N = t + j := ⟨_, rfl⟩
          have HN := Lib.hid hN
          have hln : D.length + L'.length = N := by rw [K12.out.get.len, HLN'.out, hN]
          have HM : Hid (∀ z ∈ L', RcAt w3 z.1 z.2 ∧ RcF z.1) := fun z hz => (HL'.out.later B3.out).all z hz
          have GR : Hid (∀ a6 c6 v6, wr.grownBy v6 (Value.slice a2 t c2).ownBlock → v6.ownsRow w3.heap.size 36 15 (.slice a6 N c6) N (D.flatMap rcC ++ L'.flatMap rcC) → ((Value.slice a6 N c6).ownBlock = (Value.slice a2 t c2).ownBlock ∨ (Value.slice a6 N c6).ownBlock = some wr.heap.size) → LawK w3 v6 g1 (dkA (catR ((rcS L).take t)) (catR (rcS L'))) (fun X => RcsAt X a6 N (D ++ L'))) := fun a6 c6 v6 hg ho hat => K12.out.grow (Nat.le_refl _) (fun X h => h) hg (by rw [List.flatMap_append]; exact ho) hat hln HM.out
          have cO3 : ∀ V P, LawK w3 V g1 (dkA (catR ((rcS L).take t)) (catR (rcS L'))) P → Calls Tryz.prog 29 #[.pointer (some ⟨g1, 0, none⟩)] V fun e w' => ∃ a n c E, e = .returned (.tuple #[.slice a n c, .int .i64 0]) ∧ LawK w3 w' g1 (dkA (catR ((rcS L).take t)) (catR (rcS L'))) (fun X => P X ∧ RcsAt X a n E) ∧ rcS E = (rcS L).take t ++ rcS L' ∧ n ≤ c ∧ c ≤ maxLen := fun V P hK => by
            obtain ⟨p1, p2, p3⟩ := opn_whole (la := catR ((rcS L).take t)) (re := catR (rcS L')) (xs := (rcS L).take t) (ys := rcS L') rfl rfl GT.out GD'.out
            have h2 := open_k hK (by show (-1 : Int) < _; omega) (dk_bnd (by omega)) (TU.out V (B3.out.trans (hK.bel.mono B3.out.size)))
            rw [p1, p2, p3] at h2; exact h2
          have cR3 : ∀ V a7 c7 E a6 c6, RcsAt V a7 N E → RcsAt V a6 N (D ++ L') → rcS E = (rcS L).take t ++ rcS L' → N ≤ c7 → c7 ≤ maxLen → N ≤ c6 → c6 ≤ maxLen → Calls Tryz.prog 30 #[.slice a7 N c7, .slice a6 N c6, .int .i64 ((N : Nat) : Int)] V (Says V true) := fun V a7 c7 E a6 c6 hE hM he h1 h2 h3 h4 => by
            have h5 := front_any a7 a6 N N c7 c6 E (D ++ L') ((N : Nat) : Int) V hE hM h1 h2 h3 h4
            rw [front_yes (by rw [hE.len]; exact Int.le_refl _) (by rw [hE.len, hM.len]; exact Nat.le_refl _) (by rw [rcS_app, S2.out, ← he, hE.len, List.take_of_length_le (by rw [rcS_len, hE.len]; exact Nat.le_refl _)])] at h5
            exact h5
          clear hN hln K12 HM i1
          go_upto_region 29 with (at_builtin; (refine wpList_append_rowk _ rfl _ _ 39 rfl w3.heap.size 36 iR (.agg zeroRV) 15 168 Tryz.underlying39 hiR hzR0 hzR1 hzR2 rfl (by omega) (.slice a2 t c2) t (D.flatMap rcC) rfl OO.out wr.heap.size a' j c' (L'.flatMap rcC) rfl R2.out (flat_one L') (by unfold maxLen; omega) (by omega) sz.out ?_; intro u3 v6 ho6 hg6 hat6; rw [← HN.out] at ho6; obtain ⟨a6, c6, rfl, hc6, hm6⟩ := ownk_form ho6; have K13 := Lib.hid (GR.out _ _ _ hg6 ho6 hat6); clear ho6 hg6 hat6))
          go_upto_region 30 with (go_at_call 29; ((with_reducible refine (cO3 _ _ K13.out).mono ?_); rintro e v7 ⟨a7, n7, c7, E, rfl, h7, hS7, hc7, hm7⟩; have K14 := Lib.hid h7; have S7 := Lib.hid hS7; clear h7 hS7))
          obtain rfl : N = n7 := by
            have e1 := K14.out.get.2.len
            have e2 := congrArg List.length S7.out
            rw [rcS_len, ← S2.out, List.length_append, rcS_len, rcS_len] at e2
            have e3 := K14.out.get.1.len
            rw [List.length_append] at e3
            omega
          have cR4 := cR3 v7 a7 c7 E a6 c6 K14.out.get.2 K14.out.get.1 S7.out hc7 hm7 hc6 hm6
          have BW7 : Hid (Below w.heap.size w v7) := B3.out.trans (K14.out.bel.mono B3.out.size)
          clear cR3 cO3 GR OO R2
          go_wp2_with (go_at_call 30; ((with_reducible refine cR4.mono ?_); rintro e v8 ⟨rfl, hb8⟩; have B8 := Lib.hid hb8; clear hb8))
          go_ret
          exact ⟨rfl, BW7.out.trans (B8.out.mono BW7.out.size)⟩
end Go.Proofs.YtcfmifongbapkaaGreatDoor
