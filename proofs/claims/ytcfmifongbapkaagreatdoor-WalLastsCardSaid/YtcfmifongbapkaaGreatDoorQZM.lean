/- The walk of the statement WalTorn. Conditions: the records lie in memory; the tables of utf8 lie there. What came in, opened: a struct by value, whatever its fields; a list of elements of k cells, also as a field. No condition. What came in, opened: a struct of one-cell fields, by value. No condition. What came in, opened: a value by value. No condition. -/
import Derived.Test.YtcfmifongbapkaaGreatDoorQZL
import Derived.Test.YtcfmifongbapkaaGreatDoorQR
import Derived.Test.YtcfmifongbapkaaGreatDoorQQ
import Derived.Deep.Fields
import Derived.Deep.Slices
import Derived.Test.YtcfmifongbapkaaGreatDoorQD
/- WalTornWalk -/
namespace Go.Proofs.YtcfmifongbapkaaGreatDoor

open Go.RowKit

set_option linter.unusedVariables false
set_option linter.unusedSimpArgs false

theorem one_raw {W : World} {x : RcM} {Lx : RcL} (h : RcAt W x Lx) : RcsRaw (W.alloc (.cells (rcV x) 36)) (some ⟨W.heap.size, 0, none⟩) 1 [(x, Lx)] := by
  refine ⟨rfl, ?_, fun z hz => ?_⟩
  · have h1 := RowAt.one W (rcV x) 36
    have e : [(x, Lx)].flatMap rcC = (rcV x).toList := by simp [rcC]
    rw [e]
    have e2 : (W.alloc (.cells (rcV x) 36)).heap.size = W.heap.size + 1 := by simp
    rw [e2]; exact h1
  · rw [List.mem_singleton.1 hz]
    exact h.later ((Below.refl _ _).alloc (Nat.le_refl _) _)
set_option maxRecDepth 100000 in
set_option maxHeartbeats 8000000 in
theorem torn_walk (a : Option Addr) (n c k : Nat) (L : List RE) (x : RcM) (Lx : RcL) (w : World) (h : RcsRaw w a n L) (hnc : n ≤ c) (hcm : c ≤ maxLen) (hX : RcAt w x Lx) (hk : k < 65536) (hU : Tabs w) :
    Calls Tryz.prog 6 #[.slice a n c, .agg (rcV x), .int .u16 ((k : Nat) : Int)] w (Says w true) := by
  have H0 := Lib.hid ((Boxs.start w).more (rcV x) 36)
  have TU : Hid (∀ W, Below w.heap.size w W → Tabs W) := fun W hW => hU.below hW
  have cA := fun W (hW : Below w.heap.size w W) => awake13_any W (TU.out W hW)
  have cF1 := fun W (hW : Below w.heap.size w W) => few_any a n c L 30 W (h.later hW) hnc hcm
  have cF2 := fun W (hW : Below w.heap.size w W) => few_any (some ⟨W.heap.size, 0, none⟩) 1 1 [(x, Lx)] 1 (W.alloc (.cells (rcV x) 36)) (one_raw (hX.later hW)) (Nat.le_refl _) (by unfold maxLen; omega)
  have xK := (H0.out.get 0 _ _ _ rfl).ldK (x := x)
  cases f1 : fewL L 30
  · rw [f1] at cF1
    clear cF2
    go_enter Tryz.func6, Tryz.ntmps6
    go_wp2_with (first | (go_at_call 8; ((with_reducible refine (cA _ H0.out.bel).mono ?_); rintro e w1 ⟨rfl, hb1⟩; have H1 := Lib.hid (H0.out.below hb1))) | (go_at_call 9; ((with_reducible refine (cF1 _ H1.out.bel).mono ?_); rintro e w2 ⟨rfl, hb2⟩; have H2 := Lib.hid (H1.out.below hb2); clear xK; have xK := (H2.out.get 0 _ _ _ rfl).ldK (x := x))) | (go_at_call 8; ((with_reducible refine (cA _ H2.out.bel).mono ?_); rintro e w3 ⟨rfl, hb3⟩; have H3 := Lib.hid (H2.out.below hb3))))
    go_ret
    exact ⟨rfl, H3.out.bel⟩
  rw [f1] at cF1
  cases f2 : fewL [(x, Lx)] 1
  · rw [f2] at cF2
    go_enter Tryz.func6, Tryz.ntmps6
    go_wp2_with (first | (go_at_call 8; ((with_reducible refine (cA _ H0.out.bel).mono ?_); rintro e w1 ⟨rfl, hb1⟩; have H1 := Lib.hid (H0.out.below hb1))) | (go_at_call 9; ((with_reducible refine (cF1 _ H1.out.bel).mono ?_); rintro e w2 ⟨rfl, hb2⟩; have H2 := Lib.hid (H1.out.below hb2); clear xK; have xK := (H2.out.get 0 _ _ _ rfl).ldK (x := x))) | (go_at_call 9; ((with_reducible refine (cF2 _ H2.out.bel).mono ?_); rintro e w3 ⟨rfl, hb3⟩; have H3 := Lib.hid ((H2.out.below ((Below.refl _ _).alloc (Nat.le_refl _) _)).below hb3); clear xK; have xK := (H3.out.get 0 _ _ _ rfl).ldK (x := x))) | (go_at_call 8; ((with_reducible refine (cA _ H3.out.bel).mono ?_); rintro e w4 ⟨rfl, hb4⟩; have H4 := Lib.hid (H3.out.below hb4))))
    go_ret
    exact ⟨rfl, H4.out.bel⟩
  rw [f2] at cF2
  obtain ⟨hL, hl30, hsum⟩ := fewL_all h (by omega) f1
  have hXF : RcF x := ((fewL_all (one_raw hX) (by omega) f2).1.all _ (List.mem_singleton.2 rfl)).2
  have cFo := fun W (hW : Below w.heap.size w W) => wFormed_any x Lx W (hX.later hW) hXF (TU.out W hW)
  cases f3 : formR (rcT x Lx)
  · rw [f3] at cFo
    go_enter Tryz.func6, Tryz.ntmps6
    go_wp2_with (first | (go_at_call 8; ((with_reducible refine (cA _ H0.out.bel).mono ?_); rintro e w1 ⟨rfl, hb1⟩; have H1 := Lib.hid (H0.out.below hb1))) | (go_at_call 9; ((with_reducible refine (cF1 _ H1.out.bel).mono ?_); rintro e w2 ⟨rfl, hb2⟩; have H2 := Lib.hid (H1.out.below hb2); clear xK; have xK := (H2.out.get 0 _ _ _ rfl).ldK (x := x))) | (go_at_call 9; ((with_reducible refine (cF2 _ H2.out.bel).mono ?_); rintro e w3 ⟨rfl, hb3⟩; have H3 := Lib.hid ((H2.out.below ((Below.refl _ _).alloc (Nat.le_refl _) _)).below hb3); clear xK; have xK := (H3.out.get 0 _ _ _ rfl).ldK (x := x))) | (go_at_call 15; ((with_reducible refine (cFo _ H3.out.bel).mono ?_); rintro e w4 ⟨rfl, hb4⟩; have H4 := Lib.hid (H3.out.below hb4))) | (go_at_call 8; ((with_reducible refine (cA _ H4.out.bel).mono ?_); rintro e w5 ⟨rfl, hb5⟩; have H5 := Lib.hid (H4.out.below hb5))))
    go_ret
    exact ⟨rfl, H5.out.bel⟩
  rw [f3] at cFo
  have hln := h.len
  have HL := Lib.hid hL
  have F3 := Lib.hid f3
  have HX := Lib.hid hX
  have HXF := Lib.hid hXF
  have HLN := Lib.hid hln
  have HS : Hid (L.length ≤ 30 ∧ (L.map fun z => z.1.dn).sum ≤ 200000) := ⟨by omega, hsum⟩
  have hcm' := hcm
  unfold maxLen at hcm'
  clear f1 f2 f3 hL hl30 hsum h hX hXF hU hln
  go_enter Tryz.func6, Tryz.ntmps6
  go_upto_region 4 with (first | (go_at_call 8; ((with_reducible refine (cA _ H0.out.bel).mono ?_); rintro e w1 ⟨rfl, hb1⟩; have H1 := Lib.hid (H0.out.below hb1))) | (go_at_call 9; ((with_reducible refine (cF1 _ H1.out.bel).mono ?_); rintro e w2 ⟨rfl, hb2⟩; have H2 := Lib.hid (H1.out.below hb2); clear xK; have xK := (H2.out.get 0 _ _ _ rfl).ldK (x := x))) | (go_at_call 9; ((with_reducible refine (cF2 _ H2.out.bel).mono ?_); rintro e w3 ⟨rfl, hb3⟩; have H3 := Lib.hid ((H2.out.below ((Below.refl _ _).alloc (Nat.le_refl _) _)).below hb3); clear xK; have xK := (H3.out.get 0 _ _ _ rfl).ldK (x := x))) | (go_at_call 15; ((with_reducible refine (cFo _ H3.out.bel).mono ?_); rintro e w4 ⟨rfl, hb4⟩; have H4 := Lib.hid (H3.out.below hb4))) | (go_at_call 20; ((with_reducible refine (new_k 1000000 (by omega) (Below.refl _ w4)).mono ?_); rintro e w5 ⟨rfl, h5⟩; have K5 : Hid (LawK w4 w5 w4.heap.size (dkA [] []) (fun _ => True)) := h5; clear h5)))
  have B4 := Lib.hid H4.out.bel
  have X4 : Hid (BoxC w4 w.heap.size (rcV x) 36) := H4.out.get 0 _ _ _ rfl
  clear H0 H1 H2 H3 H4 xK cF1 cF2 cA cFo
  generalize w4.heap.size = g at K5 ⊢
  go_upto_region 5 with (fail)
  go_loopw [8] (fun y wr => ∃ i : Nat, y = .int .i64 i ∧ i ≤ n ∧ (∀ z ∈ L.take i, formR (rcT z.1 z.2) = true) ∧ LawK w4 wr g (dkA [] (catR ((rcS L).take i))) (fun _ => True)) (fun y _ => n - (intOf y).toNat)
  case atStart => exact ⟨0, rfl, Nat.zero_le _, (fun z hz => by simp at hz), K5.out⟩
  case round =>
    obtain ⟨i, rfl, hi, hF, hK⟩ := hrel
    have KR := Lib.hid hK
    have FR := Lib.hid hF
    have BR : Hid (Below w.heap.size w wr) := B4.out.trans (hK.bel.mono B4.out.size)
    clear hK hF K5
    by_cases h1 : i < n
    · have i1 : (i : Int) < (n : Int) := by omega
      have hiL : i < L.length := by rw [HLN.out]; exact h1
      obtain ⟨b0, off, rfl, hb0, LD0⟩ := HL.out.raw.at_ hiL
      have LD := Lib.hid LD0
      have ld := (LD.out _ BR.out).1
      have hZ := HL.out.all _ (List.getElem_mem hiL)
      have eG := rcS_get L i hiL
      have eN := catR_next (rcS L) i (by rw [rcS_len]; exact hiL)
      rw [eG] at eN
      have hmem : ∀ z ∈ L.take (i + 1), z ∈ L.take i ∨ z = L[i] := fun z hz => by
        rw [List.take_succ_eq_append_getElem hiL] at hz
        exact (List.mem_append.1 hz).imp id List.mem_singleton.1
      have hsz : formR (rcT L[i].1 L[i].2) = true → (0 : Nat) + (catR ((rcS L).take i)).length + (frameB (rcB (rcT L[i].1 L[i].2))).length ≤ 1000000 := fun hf => by
        have hg : Good ((rcS L).take (i + 1)) := fun y hy => by
          rw [← rcS_take] at hy
          obtain ⟨z, hz, rfl⟩ := List.mem_map.1 hy
          refine ⟨(formR_iff _).1 ?_, (HL.out.all z (List.mem_of_mem_take hz)).1.ok⟩
          rcases hmem z hz with h2 | h2
          · exact FR.out z h2
          · rw [h2]; exact hf
        have h5 : (((rcS L).take (i + 1)).map fun x => x.da.length).sum ≤ 200000 := by
          have h6 := HS.out.2
          rw [← HL.out.sum] at h6
          have h7 : ((rcS L).map fun x => x.da.length) = (((rcS L).take (i + 1)).map fun x => x.da.length) ++ (((rcS L).drop (i + 1)).map fun x => x.da.length) := by rw [← List.map_append, List.take_append_drop]
          rw [h7, List.sum_append] at h6; omega
        have h8 := catR_max _ hg 200000 h5
        rw [eN, List.length_append] at h8
        have h9 : ((rcS L).take (i + 1)).length ≤ 30 := by rw [List.length_take, rcS_len]; have := HS.out.1; omega
        omega
      have cFi := fun W (hW : Below w.heap.size w W) => wFormed_any L[i].1 L[i].2 W (hZ.1.later hW) hZ.2 (TU.out W hW)
      have cAi := fun W K (hK : LawK w4 W g (dkA [] (catR ((rcS L).take i))) K) (hb : 0 + (catR ((rcS L).take i)).length ≤ 1099511627776) => add_k (x := L[i].1) (L := L[i].2) hK (by show (-1 : Int) < _; omega) (dk_bnd hb) (hZ.1.later (B4.out.trans (hK.bel.mono B4.out.size))) hZ.2 (TU.out W (B4.out.trans (hK.bel.mono B4.out.size)))
      have FN : Hid (formR (rcT L[i].1 L[i].2) = true → ∀ z ∈ L.take (i + 1), formR (rcT z.1 z.2) = true) := fun hf z hz => (hmem z hz).elim (FR.out z) fun e => by rw [e]; exact hf
      have HSZ := Lib.hid hsz
      have EN := Lib.hid eN
      clear LD0 hZ eG eN hmem hsz
      generalize L[i] = z at *
      cases hf : formR (rcT z.1 z.2)
      · rw [hf] at cFi
        clear hf
        go_wp2_with ((go_at_call 15; ((with_reducible refine (cFi _ BR.out).mono ?_); rintro e w6 ⟨rfl, hb6⟩; have B6 := Lib.hid (BR.out.trans (hb6.mono BR.out.size)))))
        go_ret
        exact ⟨rfl, B6.out⟩
      · rw [hf] at cFi
        obtain ⟨m1, m2⟩ := add_dk (la := []) (re := catR ((rcS L).take i)) hf (HSZ.out hf)
        have hb : 0 + (catR ((rcS L).take i)).length ≤ 1099511627776 := by have := HSZ.out hf; omega
        have cAj : ∀ W K, LawK w4 W g (dkA [] (catR ((rcS L).take i))) K → Calls Tryz.prog 27 #[.pointer (some ⟨g, 0, none⟩), .agg (rcV z.1)] W fun e w' => e = .returned (.int .i64 0) ∧ LawK w4 w' g (dkA [] (catR ((rcS L).take (i + 1)))) K := fun W K hK => by
          have h2 := cAi W K hK hb
          rw [m1, m2, ← EN.out] at h2; exact h2
        have F4 := Lib.hid (FN.out hf)
        clear hf cAi m1 m2 hb HSZ EN FN
        go_wp2_with (first | (go_at_call 15; ((with_reducible refine (cFi _ BR.out).mono ?_); rintro e w6 ⟨rfl, hb6⟩; have K6 := Lib.hid (KR.out.later hb6); have B6 := Lib.hid (BR.out.trans (hb6.mono BR.out.size)); clear ld; have ld := (LD.out _ B6.out).1; clear hb6)) | (go_at_call 27; ((with_reducible refine (cAj _ _ K6.out).mono ?_); rintro e w7 ⟨rfl, h7⟩; have K7 := Lib.hid h7; clear h7)))
        go_roundw
        case rel => exact ⟨i + 1, by go_num, h1, F4.out, K7.out⟩
        case measure => simp [intOf]; omega
    · have i1 : ¬ (i : Int) < (n : Int) := by omega
      obtain rfl : i = n := by omega
      have eT : (rcS L).take i = rcS L := List.take_of_length_le (by rw [rcS_len, HLN.out]; exact Nat.le_refl _)
      have eT2 : L.take i = L := List.take_of_length_le (by rw [HLN.out]; exact Nat.le_refl _)
      have FA := FR.out
      rw [eT2] at FA
      have GD := Lib.hid (HL.out.good FA)
      have K0 : Hid (LawK w4 wr g (dkA [] (catR (rcS L))) (fun _ => True)) := by have := KR.out; rw [eT] at this; exact this
      clear FA eT eT2 KR FR
      have hPQ : (catR (rcS L)).length ≤ 503240 := by
        have h8 := catR_max _ GD.out 200000 (by rw [HL.out.sum]; exact HS.out.2)
        have h9 := HS.out.1
        rw [rcS_len] at h8; omega
      have hQ : (frameB (rcB (rcT x Lx))).length ≤ 60008 := by have := (rcB_max ((formR_iff _).1 F3.out)).2; rw [frameB_len]; omega
      obtain ⟨t1, t2⟩ := torn_dk (la := catR (rcS L)) F3.out (by omega)
      have HB : Hid (tellB (catR (rcS L) ++ (frameB (rcB (rcT x Lx))).take k) = (if (frameB (rcB (rcT x Lx))).length ≤ k then rcS L ++ [rcT x Lx] else rcS L)) := by
        unfold Hid
        split
        · rename_i hq
          rw [List.take_of_length_le hq, ← catR_one, ← catR_app]
          exact (tell_all _ (GD.out.app fun y hy => by rw [List.mem_singleton.1 hy]; exact ⟨(formR_iff _).1 F3.out, HX.out.ok⟩)).1
        · rename_i hq
          rw [(tell_cat (rcS L) _ GD.out).1, (tell_torn (rcT x Lx) k ((formR_iff _).1 F3.out) (by omega)).1, List.append_nil]
      have hBT : BndD (dkT (catR (rcS L)) (frameB (rcB (rcT x Lx)))) 1099511627776 := ⟨by show (catR (rcS L)).length + (frameB (rcB (rcT x Lx))).length ≤ _; omega, Nat.zero_le _⟩
      have cSy : ∀ V K, LawK w4 V g (dkA [] (catR (rcS L))) K → Calls Tryz.prog 26 #[.pointer (some ⟨g, 0, none⟩)] V fun e w' => e = .returned (.int .i64 0) ∧ LawK w4 w' g (dkA (catR (rcS L)) []) K := fun V K hK => sync_k hK (by show (-1 : Int) < _; omega)
      have cB1 : ∀ V K, LawK w4 V g (dkA (catR (rcS L)) []) K → Calls Tryz.prog 24 #[.pointer (some ⟨g, 0, none⟩)] V fun e w' => ∃ a c, e = .returned (.slice a (catR (rcS L)).length c) ∧ LawK w4 w' g (dkA (catR (rcS L)) []) K := fun V K hK => (bytes_k hK (dk_bnd (by show _ + 0 ≤ _; omega))).mono fun e w' ⟨a, n, c, he, _, hn, _, _, hb⟩ => ⟨a, c, by rw [he, hn]; rfl, hK.later hb⟩
      have cFu : ∀ V K, LawK w4 V g (dkA (catR (rcS L)) []) K → Calls Tryz.prog 31 #[.pointer (some ⟨g, 0, none⟩), .int .i64 0] V fun e w' => e = .returned (.tuple #[]) ∧ LawK w4 w' g (dkF 0 (catR (rcS L)) []) K := fun V K hK => fuse_k 0 hK
      have cAd : ∀ V K, LawK w4 V g (dkF 0 (catR (rcS L)) []) K → Calls Tryz.prog 27 #[.pointer (some ⟨g, 0, none⟩), .agg (rcV x)] V fun e w' => e = .returned (.int .i64 8) ∧ LawK w4 w' g (dkT (catR (rcS L)) (frameB (rcB (rcT x Lx)))) K := fun V K hK => by
        have h2 := add_k (x := x) (L := Lx) hK (by show (0 : Int) < _; omega) (dk_bnd (by show _ + 0 ≤ _; omega)) (HX.out.later (B4.out.trans (hK.bel.mono B4.out.size))) HXF.out (TU.out V (B4.out.trans (hK.bel.mono B4.out.size)))
        rw [t1, t2] at h2; exact h2
      have cB2 : ∀ V K, LawK w4 V g (dkT (catR (rcS L)) (frameB (rcB (rcT x Lx)))) K → Calls Tryz.prog 24 #[.pointer (some ⟨g, 0, none⟩)] V fun e w' => ∃ a c, e = .returned (.slice a ((catR (rcS L)).length + (frameB (rcB (rcT x Lx))).length) c) ∧ LawK w4 w' g (dkT (catR (rcS L)) (frameB (rcB (rcT x Lx)))) K := fun V K hK => (bytes_k hK hBT).mono fun e w' ⟨a, n, c, he, _, hn, _, _, hb⟩ => ⟨a, c, by rw [he, hn], hK.later hb⟩
      have cCu : ∀ V K, LawK w4 V g (dkT (catR (rcS L)) (frameB (rcB (rcT x Lx)))) K → Calls Tryz.prog 28 #[.pointer (some ⟨g, 0, none⟩), .int .i64 ((k : Nat) : Int)] V fun e w' => ∃ g', e = .returned (.pointer (some ⟨g', 0, none⟩)) ∧ LawK w4 w' g' (dkA (catR (rcS L) ++ (frameB (rcB (rcT x Lx))).take k) []) K := fun V K hK => by
        have h2 := cut_k ((k : Nat) : Int) hK hBT (by omega) (by omega)
        rw [cut_dk _ (catR (rcS L)) (frameB (rcB (rcT x Lx))) k rfl rfl rfl rfl] at h2; exact h2
      have cOp : ∀ V g' K, LawK w4 V g' (dkA (catR (rcS L) ++ (frameB (rcB (rcT x Lx))).take k) []) K → Calls Tryz.prog 29 #[.pointer (some ⟨g', 0, none⟩)] V fun e w' => ∃ a n c D, e = .returned (.tuple #[.slice a n c, .int .i64 0]) ∧ Below w4.heap.size w4 w' ∧ RcsAt w' a n D ∧ rcS D = (if (frameB (rcB (rcT x Lx))).length ≤ k then rcS L ++ [rcT x Lx] else rcS L) ∧ n ≤ c ∧ c ≤ maxLen := fun V g' K hK => by
        obtain ⟨o1, o2, o3⟩ := opn_dk (B := catR (rcS L) ++ (frameB (rcB (rcT x Lx))).take k) (by rw [List.length_append, List.length_take]; omega)
        have h2 := open_k hK (by show (-1 : Int) < _; omega) (dk_bnd (by show (catR (rcS L) ++ _).length + 0 ≤ _; rw [List.length_append, List.length_take]; omega)) (TU.out V (B4.out.trans (hK.bel.mono B4.out.size)))
        rw [o1, o2, o3, HB.out] at h2
        exact h2.mono fun e w' ⟨a, n, c, D, he, hk, hD, h3, h4⟩ => ⟨a, n, c, D, he, hk.bel, hk.get.2, hD, h3, h4⟩
      have eTr := rcS_len L
      have hX4 := X4.out
      clear t1 t2 GD HB hBT
      generalize hp : (catR (rcS L)).length = p at *
      generalize hqq : (frameB (rcB (rcT x Lx))).length = q at *
      clear hp hqq
      generalize catR (rcS L) = PB at *
      generalize frameB (rcB (rcT x Lx)) = QB at *
      by_cases hq : q ≤ k
      · have iq : ((q : Nat) : Int) ≤ ((k : Nat) : Int) := by omega
        rw [if_pos hq] at cOp
        go_upto_region 19 with (first | (go_at_call 26; ((with_reducible refine (cSy _ _ K0.out).mono ?_); rintro e v1 ⟨rfl, h1⟩; have K1 := Lib.hid h1; clear h1)) | (go_at_call 24; ((with_reducible refine (cB1 _ _ K1.out).mono ?_); rintro e v2 ⟨a2, c2, rfl, h2⟩; have K2 := Lib.hid h2; clear h2)) | (go_at_call 31; ((with_reducible refine (cFu _ _ K2.out).mono ?_); rintro e v3 ⟨rfl, h3⟩; have K3 := Lib.hid h3; have xK := (hX4.below h3.bel).ldK (x := x); clear h3)) | (go_at_call 27; ((with_reducible refine (cAd _ _ K3.out).mono ?_); rintro e v4 ⟨rfl, h4⟩; have K4 := Lib.hid h4; clear h4 xK)) | (go_at_call 24; ((with_reducible refine (cB2 _ _ K4.out).mono ?_); rintro e v5 ⟨a5, c5, rfl, h5⟩; have K5 := Lib.hid h5; clear h5)) | (go_at_call 28; ((with_reducible refine (cCu _ _ K5.out).mono ?_); rintro e v6 ⟨g6, rfl, h6⟩; have K6 := Lib.hid h6; clear h6)) | (go_at_call 29; ((with_reducible refine (cOp _ _ _ K6.out).mono ?_); rintro e v7 ⟨a7, n7, c7, D, rfl, hb7, hD7, hS7, hc7, hm7⟩; have B7 := Lib.hid hb7; have D7 := Lib.hid hD7; have S7 := Lib.hid hS7; clear hb7 hD7 hS7)))
        obtain rfl : n7 = i + 1 := by
          have e1 := D7.out.len
          have e2 := congrArg List.length S7.out
          have e3 := HLN.out
          rw [List.length_append, rcS_len, rcS_len] at e2
          simp only [List.length_cons, List.length_nil] at e2
          omega
        obtain ⟨b7, off7, rfl, hb7, LD7⟩ := D7.out.raw.at_ (i := i) (by rw [D7.out.len]; omega)
        have hLn := HLN.out
        have eS : rcS (D.take i) = rcS L := by
          rw [rcS_take, S7.out, List.take_append_of_le_length (by rw [rcS_len]; omega), List.take_of_length_le (by rw [rcS_len]; omega)]
        have hfr : frontB (D.take i) L (i : Int) = true := front_yes (by rw [List.length_take, D7.out.len]; omega) (by rw [List.length_take]; omega) (by rw [eS, List.length_take, D7.out.len, List.take_of_length_le (by rw [rcS_len]; omega)])
        have hlast : rcT (D[i]'(by rw [D7.out.len]; omega)).1 (D[i]'(by rw [D7.out.len]; omega)).2 = rcT x Lx := by
          have e1 := rcS_get D i (by rw [D7.out.len]; omega)
          rw [← e1]
          simp only [S7.out]
          rw [List.getElem_append_right (by rw [rcS_len]; omega)]
          simp
        have eM : (min (((i : Nat) : Int) + 1) ((i : Nat) : Int)).toNat = i := by omega
        have cFr : Calls Tryz.prog 30 #[.slice (some ⟨b7, off7, none⟩) (min (((i : Nat) : Int) + 1) ((i : Nat) : Int)).toNat c7, .slice a i c, .int .i64 ((i : Nat) : Int)] v7 (Says v7 true) := by
          have h1 := front_any (some ⟨b7, off7, none⟩) a i i c7 c (D.take i) L (i : Int) v7 (D7.out.take (by omega)) (HL.out.later (B4.out.trans (B7.out.mono B4.out.size))) (by omega) hm7 (by omega) (by unfold maxLen; omega)
          rw [hfr] at h1; rw [eM]; exact h1
        have hD7 := (D7.out.all _ (List.getElem_mem (by rw [D7.out.len]; omega : i < D.length)))
        have cSm : ∀ W, Below v7.heap.size v7 W → Calls Tryz.prog 18 #[.agg (rcV (D[i]'(by rw [D7.out.len]; omega)).1), .agg (rcV x)] W (Says W true) := fun W hW => by
          have h1 := rSameR_any (D[i]'(by rw [D7.out.len]; omega)).1 x (D[i]'(by rw [D7.out.len]; omega)).2 Lx W (hD7.1.later hW) (HX.out.later (B4.out.trans ((B7.out.trans (hW.mono B7.out.size)).mono B4.out.size))) hD7.2 HXF.out
          rw [(sameR_iff _ _ _ _).2 hlast] at h1; exact h1
        have LDX : Hid (∀ W, Below v7.heap.size v7 W → (Go.Proofs.YtcfmifongbapkaaGreatDoor.ldK (.pointer (some ⟨b7, off7 + i * 15, none⟩))).run Tryz.prog W = .ok (.agg (rcV (D[i]'(by rw [D7.out.len]; omega)).1)) W ∧ (Go.Proofs.YtcfmifongbapkaaGreatDoor.ldK (.pointer (some ⟨w.heap.size, 0, none⟩))).run Tryz.prog W = .ok (.agg (rcV x)) W) := fun W hW => ⟨(LD7 W hW).1, (hX4.below (B7.out.trans (hW.mono B7.out.size))).ldK (x := x)⟩
        have cP1 := fun W => plain_any (D[i]'(by rw [D7.out.len]; omega)).1 W
        have cP2 := fun W => plain_any x W
        have BW7 : Hid (Below w.heap.size w v7) := B4.out.trans (B7.out.mono B4.out.size)
        clear hD7 hlast LD7 eS hfr eM
        generalize D[i]'(by rw [D7.out.len]; omega) = z at *
        have im : ¬ ((i : Nat) : Int) + 1 < ((i : Nat) : Int) := by omega
        go_upto_region 22 with (first | (go_at_call 30; ((with_reducible refine cFr.mono ?_); rintro e v8 ⟨rfl, hb8⟩; have B8 := Lib.hid hb8; clear hb8)))
        have X0 : Hid (Below v7.heap.size v7 v8.drew) := below_drewN 1 B8.out
        have s0 := LDX.out _ X0.out
        have ki : i < i + 1 := by omega
        have ki2 : ((i : Nat) : Int) < ((i : Nat) : Int) + 1 := by omega
        have ki0 : (0 : Int) ≤ ((i : Nat) : Int) := by omega
        have h30 : i ≤ 30 := by have := HS.out.1; have := HLN.out; omega
        have sw1 : IntKind.i64.wrap (((i : Nat) : Int) + 1) = ((i : Nat) : Int) + 1 := by simp [IntKind.wrap, IntKind.bits, IntKind.signed]; omega
        have sw2 : wrap64 (((i : Nat) : Int) + 1) = ((i : Nat) : Int) + 1 := by unfold wrap64; omega
        clear h30
        go_region_held3 (fun W => ((Go.Proofs.YtcfmifongbapkaaGreatDoor.ldK (.pointer (some ⟨b7, off7 + i * 15, none⟩))).run Tryz.prog W = .ok (.agg (rcV z.1)) W ∧ (Go.Proofs.YtcfmifongbapkaaGreatDoor.ldK (.pointer (some ⟨w.heap.size, 0, none⟩))).run Tryz.prog W = .ok (.agg (rcV x)) W)) (first | (with_reducible exact s0) | (with_reducible exact s1) | (with_reducible exact s2) | (with_reducible exact s3))
          (first | (go_at_call 12; ((with_reducible refine (cP1 _).mono ?_); rintro e y1 ⟨rfl, hb21⟩; have X1 := Lib.hid (X0.out.trans (hb21.mono X0.out.size)); have s1 := LDX.out _ X1.out; clear hb21)) | (go_at_call 12; ((with_reducible refine (cP2 _).mono ?_); rintro e y2 ⟨rfl, hb22⟩; have X2 := Lib.hid (X1.out.trans (hb22.mono X1.out.size)); have s2 := LDX.out _ X2.out; clear hb22)) | (go_at_call 18; ((with_reducible refine (cSm _ X2.out).mono ?_); rintro e y3 ⟨rfl, hb23⟩; have X3 := Lib.hid (X2.out.trans (hb23.mono X2.out.size)); have s3 := LDX.out _ X3.out; clear hb23)))
        go_wp2
        go_ret
        exact ⟨rfl, BW7.out.trans (X3.out.mono BW7.out.size)⟩
      · have iq : ¬ ((q : Nat) : Int) ≤ ((k : Nat) : Int) := by omega
        rw [if_neg hq] at cOp
        go_upto_region 19 with (first | (go_at_call 26; ((with_reducible refine (cSy _ _ K0.out).mono ?_); rintro e v1 ⟨rfl, h1⟩; have K1 := Lib.hid h1; clear h1)) | (go_at_call 24; ((with_reducible refine (cB1 _ _ K1.out).mono ?_); rintro e v2 ⟨a2, c2, rfl, h2⟩; have K2 := Lib.hid h2; clear h2)) | (go_at_call 31; ((with_reducible refine (cFu _ _ K2.out).mono ?_); rintro e v3 ⟨rfl, h3⟩; have K3 := Lib.hid h3; have xK := (hX4.below h3.bel).ldK (x := x); clear h3)) | (go_at_call 27; ((with_reducible refine (cAd _ _ K3.out).mono ?_); rintro e v4 ⟨rfl, h4⟩; have K4 := Lib.hid h4; clear h4 xK)) | (go_at_call 24; ((with_reducible refine (cB2 _ _ K4.out).mono ?_); rintro e v5 ⟨a5, c5, rfl, h5⟩; have K5 := Lib.hid h5; clear h5)) | (go_at_call 28; ((with_reducible refine (cCu _ _ K5.out).mono ?_); rintro e v6 ⟨g6, rfl, h6⟩; have K6 := Lib.hid h6; clear h6)) | (go_at_call 29; ((with_reducible refine (cOp _ _ _ K6.out).mono ?_); rintro e v7 ⟨a7, n7, c7, D, rfl, hb7, hD7, hS7, hc7, hm7⟩; have B7 := Lib.hid hb7; have D7 := Lib.hid hD7; have S7 := Lib.hid hS7; clear hb7 hD7 hS7)))
        obtain rfl : i = n7 := by
          have e1 := D7.out.len
          have e2 := congrArg List.length S7.out
          have e3 := HLN.out
          rw [rcS_len, rcS_len] at e2
          omega
        have hLn := HLN.out
        have hfr : frontB D L (i : Int) = true := front_yes (by rw [D7.out.len]; exact Int.le_refl _) (by rw [D7.out.len]; omega) (by rw [S7.out, D7.out.len, List.take_of_length_le (by rw [rcS_len]; omega)])
        have BW7 : Hid (Below w.heap.size w v7) := B4.out.trans (B7.out.mono B4.out.size)
        have eM : (min ((i : Nat) : Int) ((i : Nat) : Int)).toNat = i := by omega
        have cFr : Calls Tryz.prog 30 #[.slice a7 i c7, .slice a i c, .int .i64 ((i : Nat) : Int)] v7 (Says v7 true) := by
          have h1 := front_any a7 a i i c7 c D L (i : Int) v7 D7.out (HL.out.later (B4.out.trans (B7.out.mono B4.out.size))) (by omega) hm7 (by omega) (by unfold maxLen; omega)
          rw [hfr] at h1; exact h1
        have cFr2 : Calls Tryz.prog 30 #[.slice a7 (min ((i : Nat) : Int) ((i : Nat) : Int)).toNat c7, .slice a i c, .int .i64 ((i : Nat) : Int)] v7 (Says v7 true) := by rw [eM]; exact cFr
        clear hfr eM
        go_wp2_with (go_at_call 30; (first | (with_reducible refine cFr.mono ?_) | (with_reducible refine cFr2.mono ?_)); rintro e v8 ⟨rfl, hb8⟩; have B8 := Lib.hid hb8; clear hb8)
        go_ret
        exact ⟨rfl, BW7.out.trans (B8.out.mono BW7.out.size)⟩
end Go.Proofs.YtcfmifongbapkaaGreatDoor

/- OpenDeep -/
namespace Go.Proofs.YtcfmifongbapkaaGreatDoor

open Go.ChangeShapes Go.WideShapes Go.ChangeAt Go.RowKit

section

variable {H : Type} {enc : TypeId × Value → H} {P : Program} {w : World} {base : Nat} {spare : Nat → Bool} {held : Bool}

/-- A struct by value: its cells, trodden as one. -/
theorem open_agg {r : Reach} {b0 : Nat} {t : TypeId} {fs : Array Field} {v : Value} {d : DataW H} {p : List MemPlace} (ht : P.underlying t = some (.struct fs))
    (hv : Value.okWide P w r b0 t v) (h : DataW.Trod enc P w base spare held t v d p) :
    ∃ cs : List Value, v = .agg ⟨cs⟩ ∧ cs.length = P.cellsOf t ∧ ∃ fuel y, DataW.trod enc P w base spare held fuel t cs = some y := by
  simp only [Value.okWide, ht] at hv
  obtain ⟨cs, rfl, hsz, _⟩ := hv
  obtain ⟨fuel, hf⟩ := h
  obtain ⟨l⟩ := cs
  exact ⟨l, rfl, hsz, fuel, _, hf⟩
/-- A struct's field: its cells. -/
theorem trod_field {t : TypeId} {fs : Array Field} {fuel : Nat} {cs : List Value} {x : DataW H × List MemPlace} (ht : P.underlying t = some (.struct fs)) (h : DataW.trod enc P w base spare held fuel t cs = some x) :
    ∀ (j : Nat) (f : Field), fs[j]? = some f → ∃ (n : Nat) (y : DataW H × List MemPlace), DataW.trod enc P w base spare held n f.type ((cs.drop f.offset).take (P.cellsOf f.type)) = some y := by
  obtain ⟨ys, n, _, _, _, hyl, hg⟩ := DataW.trod_struct ht h
  intro j f hj
  have hjl : j < ys.length := by rw [hyl]; exact (Array.getElem?_eq_some_iff.1 hj).1
  exact ⟨n, ys[j], (hg j f hj).trans (List.getElem?_eq_getElem hjl)⟩
/-- A list of elements of k cells each. -/
theorem trod_rowk {α : Type} (f : α → List Value) (Q : α → Prop) (k : Nat) (hk : 0 < k) (hf : ∀ x, (f x).length = k) {t e : TypeId} {fuel : Nat} {u : Value} {x : DataW H × List MemPlace} (ht : P.underlying t = some (.slice e)) (hc : P.cellsOf e = k) (h : DataW.trod enc P w base spare held fuel t [u] = some x)
    (hE : ∀ (n : Nat) (cs : List Value) (y : DataW H × List MemPlace), cs.length = k → DataW.trod enc P w base spare held n e cs = some y → ∃ z : α, cs = f z ∧ Q z) :
    ∃ a n c, u = .slice a n c ∧ n ≤ c ∧ c ≤ maxLen ∧ ∃ l : List α, l.length = n ∧ RowAt w w.heap.size a n k (l.flatMap f) ∧ ∀ z ∈ l, Q z := by
  rcases Deep.open_slice ht h with ⟨h0, _⟩ | ⟨ad, len, cap, m, n', D, Pl, h0, hb, hl, hm, hmm, _, hi⟩
  · injection h0 with h0
    exact ⟨_, _, _, h0, Nat.le_refl _, by unfold maxLen; omega, [], rfl, RowAt.nil, fun z hz => by cases hz⟩
  · injection h0 with h0
    have hnm : len ≤ m := by rw [hmm]; split <;> omega
    have key : ∀ i, ∃ z : Option α, i < len → ∃ z', z = some z' ∧ (∀ j, j < k → w.cell? ((ad.add (i * k)).add j) = (f z')[j]?) ∧ Q z' := by
      intro i
      by_cases hil : i < len
      · obtain ⟨cs', h1, h2⟩ := hi i (by omega)
        rw [hc] at h1
        obtain ⟨_, hcl, hat⟩ := World.cells?_some h1
        obtain ⟨z, hz, hq⟩ := hE _ _ _ hcl h2
        exact ⟨some z, fun _ => ⟨z, rfl, fun j hj => by rw [hat j hj, hz], hq⟩⟩
      · exact ⟨none, fun h => absurd h hil⟩
    obtain ⟨Z, hZ⟩ := Classical.axiomOfChoice key
    by_cases h00 : len = 0
    · subst h00
      exact ⟨_, _, _, h0, hl, hm, [], rfl, RowAt.nil, fun z hz => by cases hz⟩
    · obtain ⟨b, off, spot⟩ := ad
      obtain ⟨z0, _, hc0, _⟩ := hZ 0 (by omega)
      have hc00 := hc0 0 hk
      rw [List.getElem?_eq_getElem (by rw [hf]; exact hk)] at hc00
      have hspot : spot = none := by simpa [Addr.add] using World.cell?_spot hc00
      subst hspot
      have hbl : b < w.heap.size := by simpa [Addr.add] using block_lt hc00
      have hlen : ((List.range len).filterMap Z).length = len ∧ ∀ i, i < len → ∃ z, ((List.range len).filterMap Z)[i]? = some z ∧ Z i = some z := by
        have : ∀ q, q ≤ len → ((List.range q).filterMap Z).length = q ∧ ∀ i, i < q → ∃ z, ((List.range q).filterMap Z)[i]? = some z ∧ Z i = some z := by
          intro q
          induction q with
          | zero => intro _; exact ⟨rfl, fun i hi => by omega⟩
          | succ q ih =>
            intro hq
            obtain ⟨h1, h2⟩ := ih (by omega)
            obtain ⟨z, hz, _⟩ := hZ q (by omega)
            have e : (List.range (q + 1)).filterMap Z = (List.range q).filterMap Z ++ [z] := by rw [List.range_succ, List.filterMap_append]; simp [hz]
            refine ⟨by rw [e]; simp [h1], fun i hi => ?_⟩
            rw [e]
            by_cases hik : i < q
            · obtain ⟨z', hz', hz''⟩ := h2 i hik
              exact ⟨z', by rw [List.getElem?_append_left (by omega)]; exact hz', hz''⟩
            · obtain rfl : i = q := by omega
              exact ⟨z, by rw [List.getElem?_append_right (by omega)]; simp [h1], hz⟩
        exact this len (Nat.le_refl _)
      refine ⟨_, _, _, h0, hl, hm, (List.range len).filterMap Z, hlen.1, ⟨by rw [flat_len f k hf, hlen.1], .inr ⟨b, off, rfl, hbl, fun j u hu => ?_⟩⟩, fun z hz => ?_⟩
      · have hj : j < len * k := by
          rcases Nat.lt_or_ge j (len * k) with h | h
          · exact h
          · rw [List.getElem?_eq_none (by rw [flat_len f k hf, hlen.1]; exact h)] at hu; cases hu
        have hq : j / k < len := Nat.div_lt_of_lt_mul (by rw [Nat.mul_comm]; exact hj)
        have hr : j % k < k := Nat.mod_lt _ hk
        have ej : j / k * k + j % k = j := by rw [Nat.mul_comm]; exact Nat.div_add_mod j k
        obtain ⟨z, h1, h2⟩ := hlen.2 (j / k) hq
        obtain ⟨z', h3, h4, _⟩ := hZ (j / k) hq
        rw [h2] at h3; injection h3 with h3; subst h3
        have e := flat_get f k hf ((List.range len).filterMap Z) (j / k) (j % k) (by rw [hlen.1]; exact hq) hr
        have ez : ((List.range len).filterMap Z)[j / k]'(by rw [hlen.1]; exact hq) = z := by
          have := List.getElem?_eq_getElem (l := (List.range len).filterMap Z) (i := j / k) (by rw [hlen.1]; exact hq)
          rw [h1] at this; injection this with this; exact this.symm
        rw [ej, hu, ez] at e
        have h5 := h4 (j % k) hr
        rw [add_plain, add_plain, Nat.add_assoc, ej] at h5
        rw [h5, ← e]
      · obtain ⟨i, hi', hz'⟩ := List.mem_filterMap.1 hz
        have hi2 : i < len := by simpa using hi'
        obtain ⟨z', h3, _, h5⟩ := hZ i hi2
        rw [h3] at hz'; injection hz' with hz'; subst hz'
        exact h5
end

end Go.Proofs.YtcfmifongbapkaaGreatDoor

/- OpenStruct -/
namespace Go.Proofs.YtcfmifongbapkaaGreatDoor

open Go.ChangeShapes Go.WideShapes Go.ChangeAt Go.RowKit

section

variable {H : Type} {enc : TypeId × Value → H} {P : Program} {w : World} {base : Nat} {spare : Nat → Bool} {held : Bool}

theorem open_struct {r : Reach} {b0 : Nat} {t : TypeId} {fs : Array Field} {v : Value} {d : DataW H} {p : List MemPlace} (ht : P.underlying t = some (.struct fs)) (hone : Deep.oneCellFields P fs = true) (hC : P.cellsOf t = fs.size)
    (hv : Value.okWide P w r b0 t v) (h : DataW.Trod enc P w base spare held t v d p) :
    ∃ cs : List Value, v = .agg ⟨cs⟩ ∧ ∃ hl : cs.length = fs.size, ∀ (j : Nat) (f : Field) (hj : fs[j]? = some f), ∃ (k : Nat) (y : DataW H × List MemPlace), DataW.trod enc P w base spare held k f.type [cs[j]'(by have := (Array.getElem?_eq_some_iff.1 hj).1; omega)] = some y := by
  simp only [Value.okWide, ht] at hv
  obtain ⟨cs, rfl, hsz, _⟩ := hv
  obtain ⟨fuel, hf⟩ := h
  obtain ⟨l⟩ := cs
  have hl : l.length = fs.size := hsz.trans hC
  refine ⟨l, rfl, hl, fun j f hj => ?_⟩
  obtain ⟨ys, n', _, _, _, hyl, hg⟩ := DataW.trod_struct ht hf
  obtain ⟨ho, hk⟩ := Deep.hone_of hone j f hj
  have hjl : j < fs.size := (Array.getElem?_eq_some_iff.1 hj).1
  have h1 := hg j f hj
  rw [ho, hk] at h1
  have h2 : ((Value.agg ⟨l⟩).cells.toList.drop j).take 1 = [l[j]'(by omega)] := by
    show (l.drop j).take 1 = _
    rw [List.drop_eq_getElem_cons (by omega)]; rfl
  rw [h2, List.getElem?_eq_getElem (by omega)] at h1
  exact ⟨_, _, h1⟩
end

end Go.Proofs.YtcfmifongbapkaaGreatDoor

/- ValueOpenOne -/
namespace Go.Proofs.YtcfmifongbapkaaGreatDoor

open Go.ChangeShapes Go.WideShapes Go.ChangeAt Go.RowKit

theorem u64_of {x : Int} (wx : (Lit.int .u64 x).wf = true) : ∃ n : Nat, x = (n : Int) ∧ n < 18446744073709551616 := by
  have bx : 0 ≤ x ∧ x < 18446744073709551616 := by simp [Lit.wf, IntKind.min, IntKind.max, IntKind.bits, IntKind.signed] at wx; omega
  obtain ⟨x, rfl⟩ := Int.eq_ofNat_of_zero_le bx.1
  exact ⟨x, rfl, by omega⟩
set_option maxRecDepth 100000 in
theorem open_value {H : Type} {enc : TypeId × Value → H} {w : World} {base b0 : Nat} {r : Reach} {spare : Nat → Bool} {held : Bool} {v : Value} {d : DataW H} {p : List MemPlace}
    (hv : Value.okWide Tryz.prog w r b0 155 v) (h : DataW.Trod enc Tryz.prog w base spare held 155 v d p) :
    ∃ (k : Int) (b : Nat) (t : ByteArray), v = .agg #[.int .i64 k, .int .u64 (b : Nat), .string t] ∧ b < 18446744073709551616 ∧ t.size ≤ maxLen := by
  obtain ⟨cs, rfl, hl, hj⟩ := open_struct Tryz.underlying155 (by kernel_rfl) (by kernel_rfl) hv h
  match cs, hl with
  | [c0, c1, c2], _ =>
    obtain ⟨_, _, h0⟩ := hj 0 _ rfl
    obtain ⟨_, _, h1⟩ := hj 1 _ rfl
    obtain ⟨_, _, h2⟩ := hj 2 _ rfl
    obtain ⟨x, e0, _, _⟩ := DataW.trod_int Tryz.underlying3 h0
    obtain ⟨y, e1, _, wy⟩ := DataW.trod_int Tryz.underlying31 h1
    obtain ⟨z, e2, _, hz⟩ := DataW.trod_string Tryz.underlying9 h2
    simp at e0 e1 e2
    subst e0; subst e1; subst e2
    obtain ⟨y, rfl, hy⟩ := u64_of wy
    exact ⟨x, y, z, rfl, hy, hz⟩
end Go.Proofs.YtcfmifongbapkaaGreatDoor
