/- The walk of the statement TxnParts. Conditions: the configuration's and the transaction's lists lie in memory; the tables of utf8 lie there. -/
import Derived.Test.YtlkgpajpblhkeaaDoorGN
import Derived.Test.YtlkgpajpblhkeaaDoorGB
namespace Go.Proofs.YtlkgpajpblhkeaaDoor

open Go.RowKit

set_option linter.unusedVariables false

/-- What the first groups have. -/
def firstM {α : Type} (key : α → ByteArray) (L : List (List UInt8)) (l : List α) (n : Nat) : List α := (List.range n).flatMap fun g : Nat => cutM key L (g : Int) l
theorem firstM_next {α : Type} (key : α → ByteArray) (L : List (List UInt8)) (l : List α) (n : Nat) : firstM key L l (n + 1) = firstM key L l n ++ cutM key L (n : Int) l := by
  unfold firstM
  rw [List.range_succ, List.flatMap_append]; simp
theorem firstM_filter {α : Type} (key : α → ByteArray) (L : List (List UInt8)) (l : List α) (h : l.Pairwise fun x y => homeC L (key x).data.toList ≤ homeC L (key y).data.toList) (n : Nat) : firstM key L l n = l.filter fun x => decide (homeC L (key x).data.toList < n) := by
  have h1 := cuts_all (fun x : α => homeC L (key x).data.toList) l h n
  unfold firstM
  have e : (fun g : Nat => cutM key L (g : Int) l) = fun g => l.filter fun x => decide (homeC L (key x).data.toList = g) := by
    funext g
    unfold cutM
    apply List.filter_congr
    intro x _
    rw [decide_eq_decide]; omega
  rw [e, h1]
theorem firstM_all {α : Type} (key : α → ByteArray) (L : List (List UInt8)) (l : List α) (h : l.Pairwise fun x y => homeC L (key x).data.toList ≤ homeC L (key y).data.toList) (n : Nat) (hn : L.length < n) : firstM key L l n = l := by
  rw [firstM_filter key L l h n, List.filter_eq_self]
  intro x _
  have := homeC_le L (key x).data.toList
  simp; omega
theorem firstM_len {α : Type} (key : α → ByteArray) (L : List (List UInt8)) (l : List α) (h : l.Pairwise fun x y => homeC L (key x).data.toList ≤ homeC L (key y).data.toList) (n : Nat) : (firstM key L l n).length ≤ l.length := by
  rw [firstM_filter key L l h n]; exact List.length_filter_le _ _
theorem pairR {rs : List RdM} (L : List (List UInt8)) (h : adjB ((txR rs).map (·.1)) = true) : rs.Pairwise fun x y => homeC L x.1.data.toList ≤ homeC L y.1.data.toList := by
  have h1 := keys_home L (txR rs) h
  unfold txR at h1
  rw [List.pairwise_map] at h1
  exact h1
theorem pairW {ws : List WrM} (L : List (List UInt8)) (h : adjB ((txW ws).map (·.1)) = true) : ws.Pairwise fun x y => homeC L x.key.data.toList ≤ homeC L y.key.data.toList := by
  have h1 := keys_home L (txW ws) h
  unfold txW at h1
  rw [List.pairwise_map] at h1
  exact h1

set_option maxRecDepth 100000 in
set_option maxHeartbeats 4000000 in
theorem parts8_gen (ca : Option Addr) (cn cc : Nat) (cb : Option Addr) (cm cd : Nat) (R : List Int) (Bs : List ByteArray) (s q : Int) (a : Option Addr) (n c : Nat) (b : Option Addr) (m d : Nat) (rs : List RdM) (ws : List WrM) (w : World)
    (hC : CfgAt w ca cn cb cm R Bs) (hX : TxAt w a n b m rs ws) (hf : fewT rs ws = true) (hk : fewC cn Bs = true) (hU : Tabs w) (hT : formT formedB (txT (s, q) rs ws) = true) (hF : formedC R (txt Bs) = true) :
    Calls Tryd.prog 7 #[.agg #[.slice ca cn cc, .slice cb cm cd], .agg (txV s q a n c b m d)] w (Says w true) := by
  have hB : bothB R Bs (txT (s, q) rs ws) = true := by unfold bothB; rw [hF, hT]; rfl
  have hR := hC.lenR
  have hBl := hC.lenT
  have h4 : cn ≤ 4 := by have := (formed_yes hF).hi; omega
  have hlt : (txt Bs).length < cn := by have := (formed_yes hF).len; omega
  have hFT := (formT_iff _ _).1 hT
  have h6 : rs.length ≤ 6 := by have := hFT.rlen; simpa [txT, txR] using this
  have h7 : ws.length ≤ 6 := by have := hFT.wlen; simpa [txT, txW] using this
  have pR := pairR (txt Bs) hFT.radj
  have pW := pairW (txt Bs) hFT.wadj
  have EX := Lib.hid (firstM_all (fun x : RdM => x.1) (txt Bs) rs pR cn hlt)
  have EY := Lib.hid (firstM_all (fun x : WrM => x.key) (txt Bs) ws pW cn hlt)
  have LX := Lib.hid (fun k => firstM_len (fun x : RdM => x.1) (txt Bs) rs pR k)
  have LY := Lib.hid (fun k => firstM_len (fun x : WrM => x.key) (txt Bs) ws pW k)
  have NX := Lib.hid (fun k => firstM_next (fun x : RdM => x.1) (txt Bs) rs k)
  have NY := Lib.hid (fun k => firstM_next (fun x : WrM => x.key) (txt Bs) ws k)
  have HM := Lib.hid (fun g => both_mem (txt Bs) g rs ws)
  have HL := Lib.hid (fun g => And.intro (cutM_len (fun x : RdM => x.1) (txt Bs) g rs) (cutM_len (fun x : WrM => x.key) (txt Bs) g ws))
  have HG := Lib.hid (fun j => groupsC_snoc j (homesL (txt Bs) (keysM rs ++ keysV ws)))
  have HN := Lib.hid (fun j => groupsC_len j (homesL (txt Bs) (keysM rs ++ keysV ws)))
  have eG := groupsM_yes hB
  rw [hR] at eG
  have eA : ∀ g, readsM R Bs (s, q) rs ws g = cutM (fun x : RdM => x.1) (txt Bs) g rs := fun g => by unfold readsM; rw [if_pos hB]
  have eB : ∀ g, writesM R Bs (s, q) rs ws g = cutM (fun x : WrM => x.key) (txt Bs) g ws := fun g => by unfold writesM; rw [if_pos hB]
  obtain ⟨iR, hi1, hz10, hz11, hz12⟩ := info_parts Tryd.rInfo63
  obtain ⟨iW, hi2, hz20, hz21, hz22⟩ := info_parts Tryd.rInfo67
  obtain ⟨iN, hi3, hz30, hz31, hz32⟩ := info_parts Tryd.qInfo3
  have H0 := Lib.hid (((Boxs.start w).more #[.slice ca cn cc, .slice cb cm cd] 36).more (txV s q a n c b m d) 27)
  have hs : (w.alloc (.cells #[.slice ca cn cc, .slice cb cm cd] 36)).heap.size = w.heap.size + 1 := by simp
  rw [hs] at H0
  have cF := fun W (hW : Below w.heap.size w W) => rFewT_any s q a n c b m d rs ws W (hX.later hW)
  have cK := fun W (hW : Below w.heap.size w W) => rFew_any ca cn cc cb cm cd R Bs W (hC.later hW)
  have cT := fun W (hW : Below w.heap.size w W) => tFormed_any s q a n c b m d rs ws W (hX.later hW) (hU.below hW)
  have cC := fun W (hW : Below w.heap.size w W) => rConf_any ca cn cc cb cm cd R Bs W (hC.later hW)
  rw [hf] at cF
  rw [hk] at cK
  rw [hT] at cT
  rw [hF] at cC
  have cA := fun g W (hW : Below w.heap.size w W) => tReads_any ca cn cc cb cm cd R Bs s q a n c b m d rs ws g W (hC.later hW) (hX.later hW) (hU.below hW)
  have cB := fun g W (hW : Below w.heap.size w W) => tWrites_any ca cn cc cb cm cd R Bs s q a n c b m d rs ws g W (hC.later hW) (hX.later hW) (hU.below hW)
  have cG := fun W (hW : Below w.heap.size w W) => tGroups_any ca cn cc cb cm cd R Bs s q a n c b m d rs ws W (hC.later hW) (hX.later hW) (hU.below hW)
  have HX := Lib.hid hX
  have hl1 := hX.lenR
  have hl2 := hX.lenW
  have HS : Hid (∀ W, Boxs w W [(w.heap.size + 1, txV s q a n c b m d, 27), (w.heap.size, #[.slice ca cn cc, .slice cb cm cd], 36)] → (W.cell? ⟨w.heap.size, 0, none⟩ = some (.slice ca cn cc) ∧ W.cell? ⟨w.heap.size, 1, none⟩ = some (.slice cb cm cd)) ∧ W.cell? ⟨w.heap.size + 1, 0, none⟩ = some (.int .i64 s) ∧ W.cell? ⟨w.heap.size + 1, 1, none⟩ = some (.int .i64 q) ∧ W.cell? ⟨w.heap.size + 1, 2, none⟩ = some (.slice a n c) ∧ W.cell? ⟨w.heap.size + 1, 3, none⟩ = some (.slice b m d)) := fun W hW => ⟨(hW.get 1 _ _ _ rfl).two, (hW.get 0 _ _ _ rfl).four⟩
  obtain ⟨⟨y0, y1⟩, x0, x1, x2, x3⟩ := HS.out _ H0.out
  clear hC hX hf hk hs hU hT hF hB hFT pR pW
  generalize homesL (txt Bs) (keysM rs ++ keysV ws) = hs at *
  go_enter Tryd.func7, Tryd.ntmps7
  go_upto_region 4 with (first | (go_at_call 8; ((with_reducible refine (awake8_any _).mono ?_); rintro e w1 ⟨rfl, hb1⟩; have H1 := Lib.hid (H0.out.below hb1); (clear x0 x1 x2 x3 y0 y1); obtain ⟨⟨y0, y1⟩, x0, x1, x2, x3⟩ := HS.out _ H1.out)) | (go_at_call 9; ((with_reducible refine (cF _ H1.out.bel).mono ?_); rintro e w2 ⟨rfl, hb2⟩; have H2 := Lib.hid (H1.out.below hb2); (clear x0 x1 x2 x3 y0 y1); obtain ⟨⟨y0, y1⟩, x0, x1, x2, x3⟩ := HS.out _ H2.out)) | (go_at_call 18; ((with_reducible refine (cK _ H2.out.bel).mono ?_); rintro e w3 ⟨rfl, hb3⟩; have H3 := Lib.hid (H2.out.below hb3); (clear x0 x1 x2 x3 y0 y1); obtain ⟨⟨y0, y1⟩, x0, x1, x2, x3⟩ := HS.out _ H3.out)) | (go_at_call 10; ((with_reducible refine (cT _ H3.out.bel).mono ?_); rintro e w4 ⟨rfl, hb4⟩; have H4 := Lib.hid (H3.out.below hb4); (clear x0 x1 x2 x3 y0 y1); obtain ⟨⟨y0, y1⟩, x0, x1, x2, x3⟩ := HS.out _ H4.out)) | (go_at_call 40; ((with_reducible refine (cC _ H4.out.bel).mono ?_); rintro e w5 ⟨rfl, hb5⟩; have H5 := Lib.hid (H4.out.below hb5); (clear x0 x1 x2 x3 y0 y1); obtain ⟨⟨y0, y1⟩, x0, x1, x2, x3⟩ := HS.out _ H5.out)))
  have hG : w.heap.size + 1 < w5.heap.size := (H5.out.get 0 _ _ _ rfl).lt
  have O0 := Lib.hid ((((Owns.start (H5.out.more (txV 0 0 none 0 0 none 0 0) 27)).none 3 1).none 67 4).none 63 2)
  clear H0 H1 H2 H3 H4 H5 cF cK cT cC x0 x1 x2 x3 y0 y1
  generalize w5.alloc (.cells (txV 0 0 none 0 0 none 0 0) 27) = W0 at *
  generalize w5.heap.size = G at *
  have hGl : ∀ x ∈ ([(w.heap.size + 1, txV s q a n c b m d, 27), (w.heap.size, #[.slice ca cn cc, .slice cb cm cd], 36)] : List (Nat × Array Value × TypeId)), x.1 ≠ G := by simp; omega
  have hGw : w.heap.size ≤ G := by omega
  go_wp2
  go_loopw [6, 7] (fun v3 i wr => ∃ (k : Nat) (v1 v2 : Value), k ≤ cn ∧ i = .int .i64 k ∧ Owns w wr [(G, #[.int .i64 0, .int .i64 0, v1, v2], 27), (w.heap.size + 1, txV s q a n c b m d, 27), (w.heap.size, #[.slice ca cn cc, .slice cb cm cd], 36)] [⟨63, 2, v1, (firstM (fun x : RdM => x.1) (txt Bs) rs k).length, (firstM (fun x : RdM => x.1) (txt Bs) rs k).flatMap readC⟩, ⟨67, 4, v2, (firstM (fun x : WrM => x.key) (txt Bs) ws k).length, (firstM (fun x : WrM => x.key) (txt Bs) ws k).flatMap writeC⟩, ⟨3, 1, v3, (groupsC k hs).length, (groupsC k hs).flatMap numC⟩]) (fun _ i _ => cn - (intOf i).toNat)
  case atStart => exact ⟨0, .slice none 0 0, .slice none 0 0, Nat.zero_le _, rfl, O0.out⟩
  case round =>
    obtain ⟨k, v1, v2, hk, rfl, hO⟩ := hrel
    have OO := Lib.hid hO
    clear hO O0
    obtain ⟨⟨y0, y1⟩, x0, x1, x2, x3⟩ := HS.out _ OO.out.boxs.tail
    by_cases hltk : k < cn
    · have i1 : (k : Int) < (cn : Int) := by omega
      have hm := HM.out k
      have hL := HL.out (k : Int)
      have HGk := Lib.hid (HG.out k)
      have hNk := HN.out k
      have NXk := Lib.hid (NX.out k)
      have NYk := Lib.hid (NY.out k)
      have hLX := LX.out k
      have hLY := LY.out k
      have cAk := cA (k : Int)
      have cBk := cB (k : Int)
      rw [eA] at cAk
      rw [eB] at cBk
      clear HM HL HG HN NX NY LX LY EX EY cA cB eA eB cG eG
      generalize groupsC k hs = l at *
      generalize cutM (fun x : RdM => x.1) (txt Bs) (k : Int) rs = L1 at *
      generalize cutM (fun x : WrM => x.key) (txt Bs) (k : Int) ws = L2 at *
      generalize firstM (fun x : RdM => x.1) (txt Bs) rs k = F1 at *
      generalize firstM (fun x : WrM => x.key) (txt Bs) ws k = F2 at *
      go_upto_region 8 with (fail)
      have X0 := Lib.hid OO.out.drew
      have s0 := HS.out _ X0.out.boxs.tail
      (clear x0 x1 x2 x3 y0 y1)
      go_region_held3 (fun W => (W.cell? ⟨w.heap.size, 0, none⟩ = some (.slice ca cn cc) ∧ W.cell? ⟨w.heap.size, 1, none⟩ = some (.slice cb cm cd)) ∧ W.cell? ⟨w.heap.size + 1, 0, none⟩ = some (.int .i64 s) ∧ W.cell? ⟨w.heap.size + 1, 1, none⟩ = some (.int .i64 q) ∧ W.cell? ⟨w.heap.size + 1, 2, none⟩ = some (.slice a n c) ∧ W.cell? ⟨w.heap.size + 1, 3, none⟩ = some (.slice b m d)) (first | (with_reducible exact s0) | (with_reducible exact s1) | (with_reducible exact s2))
        (first | (go_at_call 19; ((with_reducible refine (cAk _ X0.out.bel).mono ?_); rintro e u1 ⟨a1, p1, rfl, hr1, hc1, hb1⟩; have X1 := Lib.hid (X0.out.below hb1); have s1 := HS.out _ X1.out.boxs.tail; have R1 := Lib.hid hr1)) | (go_at_call 20; ((with_reducible refine (cBk _ X1.out.bel).mono ?_); rintro e u2 ⟨a2, p2, rfl, hr2, hc2, hb2⟩; have X2 := Lib.hid (X1.out.below hb2); have s2 := HS.out _ X2.out.boxs.tail; have R2 := Lib.hid hr2; have R3 := Lib.hid ((R1.out.below hb2 (Nat.le_refl _)).more hb2.size); have F2n := Lib.hid hc2.2; have V1 := Lib.hid (fun j hj => (X1.out.head.lt j hj).2); have GL := Lib.hid (X1.out.boxs.get 0 _ _ _ rfl).lt)))
      clear s0 s1 s2 X0 X1 R1 OO hb1 hb2 hr1 hr2 hc1 hc2
      have z2 := (X2.out.boxs.get 0 _ _ _ rfl).cell 2 v1 rfl
      have hsz2 := X2.out.size
      go_upto_region 10 with (at_builtin; (refine wpList_append_rowk _ rfl _ _ 24 rfl w.heap.size 63 iR _ 2 24 Tryd.underlying24 hi1 hz10 hz11 hz12 rfl (by omega) v1 F1.length (F1.flatMap readC) rfl X2.out.head u2.heap.size a1 L1.length p1 (L1.flatMap readC) rfl R3.out (reads_cells _) (by unfold maxLen; omega) (by omega) (by omega) ?_; intro v1' w6 ho6 hg6 hat6; have hb6 := hg6.size; obtain ⟨a3, c3, rfl, _, _⟩ := ownk_form ho6; have X3 := Lib.hid (X2.out.grow ho6 hg6 hat6); have z6 := (X3.out.boxs.get 0 _ _ _ rfl).cell 2 v1 rfl; have f6 := (X3.out.boxs.get 0 _ _ _ rfl).frozen 2; have hgB := Lib.hid hg6.block; clear ho6 hg6 hat6))
      have X4 : Hid (Owns w (w6.setCell ⟨G, 2, none⟩ (.slice a3 (F1.length + L1.length) c3)) [(G, #[.int .i64 0, .int .i64 0, .slice a3 (F1.length + L1.length) c3, v2], 27), (w.heap.size + 1, txV s q a n c b m d, 27), (w.heap.size, #[.slice ca cn cc, .slice cb cm cd], 36)] [⟨67, 4, v2, F2.length, F2.flatMap writeC⟩, ⟨3, 1, _, l.length, l.flatMap numC⟩, ⟨63, 2, .slice a3 (F1.length + L1.length) c3, F1.length + L1.length, F1.flatMap readC ++ L1.flatMap readC⟩]) := X3.out.turn.set hGw hGl 2 (.slice a3 (F1.length + L1.length) c3)
      have R4 : Hid (RowAt (w6.setCell ⟨G, 2, none⟩ (.slice a3 (F1.length + L1.length) c3)) u2.heap.size a2 L2.length 4 (L2.flatMap writeC)) := R2.out.stays (c := p2) fun j hj hjB => by
        have h1 := F2n.out j hj
        have h2 := GL.out
        rw [Below.heap_setCell _ _ _ _ (show j ≠ G by omega)]
        exact hgB.out j hjB (fun e => by have := V1.out j e.symm; omega)
      clear X2 X3 R2 R3 z2 z6 f6 hgB V1 F2n
      generalize w6.setCell ⟨G, 2, none⟩ (.slice a3 (F1.length + L1.length) c3) = W7 at *
      have z3 := (X4.out.boxs.get 0 _ _ _ rfl).cell 3 v2 rfl
      have hsz4 := X4.out.size
      go_upto_region 11 with (at_builtin; (refine wpList_append_rowk _ rfl _ _ 25 rfl w.heap.size 67 iW _ 4 48 Tryd.underlying25 hi2 hz20 hz21 hz22 rfl (by omega) v2 F2.length (F2.flatMap writeC) rfl X4.out.head u2.heap.size a2 L2.length p2 (L2.flatMap writeC) rfl R4.out (writes_cells _) (by unfold maxLen; omega) (by omega) (by omega) ?_; intro v2' w8 ho8 hg8 hat8; obtain ⟨a4, c4, rfl, _, _⟩ := ownk_form ho8; have X5 := Lib.hid (X4.out.grow ho8 hg8 hat8); have z8 := (X5.out.boxs.get 0 _ _ _ rfl).cell 3 v2 rfl; have f8 := (X5.out.boxs.get 0 _ _ _ rfl).frozen 3; clear ho8 hg8 hat8))
      have X6 : Hid (Owns w (w8.setCell ⟨G, 3, none⟩ (.slice a4 (F2.length + L2.length) c4)) [(G, #[.int .i64 0, .int .i64 0, .slice a3 (F1.length + L1.length) c3, .slice a4 (F2.length + L2.length) c4], 27), (w.heap.size + 1, txV s q a n c b m d, 27), (w.heap.size, #[.slice ca cn cc, .slice cb cm cd], 36)] [⟨3, 1, _, l.length, l.flatMap numC⟩, ⟨63, 2, .slice a3 (F1.length + L1.length) c3, F1.length + L1.length, F1.flatMap readC ++ L1.flatMap readC⟩, ⟨67, 4, .slice a4 (F2.length + L2.length) c4, F2.length + L2.length, F2.flatMap writeC ++ L2.flatMap writeC⟩]) := X5.out.turn.set hGw hGl 3 (.slice a4 (F2.length + L2.length) c4)
      clear X4 X5 R4 z3 z8 f8
      generalize w8.setCell ⟨G, 3, none⟩ (.slice a4 (F2.length + L2.length) c4) = W9 at *
      have hsz6 := X6.out.size
      have DX : Hid ((F1 ++ L1).length = F1.length + L1.length ∧ (F1 ++ L1).flatMap readC = F1.flatMap readC ++ L1.flatMap readC) := ⟨List.length_append, List.flatMap_append⟩
      have DY : Hid ((F2 ++ L2).length = F2.length + L2.length ∧ (F2 ++ L2).flatMap writeC = F2.flatMap writeC ++ L2.flatMap writeC) := ⟨List.length_append, List.flatMap_append⟩
      by_cases hmem : k ∈ hs
      · rw [if_pos hmem] at HGk
        have hd : (0 : Int) < ((L1.length : Nat) : Int) + ((L2.length : Nat) : Int) := by have := hm.2 hmem; omega
        have hd2 : decide ((0 : Int) < ((L1.length : Nat) : Int) + ((L2.length : Nat) : Int)) = true := by simpa using hd
        clear hmem hm
        go_wp2_with ((at_builtin; (refine wpList_append_rowk _ rfl _ _ 33 rfl w.heap.size 3 iN _ 1 8 Tryd.underlying33 hi3 hz30 hz31 hz32 rfl (by omega) _ l.length (l.flatMap numC) rfl (X6.out.alloc _).head (W9.heap.size + 1) (some ⟨W9.heap.size, 0, none⟩) 1 1 (numC k) rfl (RowAt.oneN W9 k _) (numC_cells _) (by unfold maxLen; omega) (by omega) (by simp; omega) ?_; intro v6 w10 ho6 hg6 hat6; have M6 := Lib.hid ((X6.out.alloc _).grow ho6 hg6 hat6).turn; clear ho6 hg6 hat6)))
        go_roundw
        case rel => exact ⟨k + 1, _, _, by omega, by go_num, by rw [HGk.out, NXk.out, NYk.out, DX.out.1, DX.out.2, DY.out.1, DY.out.2, List.length_append, List.flatMap_append]; exact M6.out⟩
        case measure => simp [intOf]; omega
      · rw [if_neg hmem, List.append_nil] at HGk
        have hd2 : decide ((0 : Int) < ((L1.length : Nat) : Int) + ((L2.length : Nat) : Int)) = false := by have : ¬ 0 < L1.length + L2.length := fun e => hmem (hm.1 e); simp; omega
        have hd : ¬ (0 : Int) < ((L1.length : Nat) : Int) + ((L2.length : Nat) : Int) := by simpa using hd2
        clear hmem hm
        go_wp2
        go_roundw
        case rel => exact ⟨k + 1, _, _, by omega, by go_num, by rw [HGk.out, NXk.out, NYk.out, DX.out.1, DX.out.2, DY.out.1, DY.out.2]; exact X6.out.turn⟩
        case measure => simp [intOf]; omega
    · have hkn : cn = k := by omega
      subst hkn
      rw [EX.out, EY.out] at OO
      have hO := OO.out
      have g1 : wr.ownsRow w.heap.size 63 2 v1 rs.length (rs.flatMap readC) := hO.get 0 _ rfl
      have g2 : wr.ownsRow w.heap.size 67 4 v2 ws.length (ws.flatMap writeC) := hO.get 1 _ rfl
      have g3 : wr.ownsRow w.heap.size 3 1 _ (groupsC cn hs).length ((groupsC cn hs).flatMap numC) := hO.get 2 _ rfl
      obtain ⟨a1, c1, rfl, hc1, hc1'⟩ := ownk_form g1
      obtain ⟨a2, c2, rfl, hc2, hc2'⟩ := ownk_form g2
      obtain ⟨a5, c5, rfl, hc5, hc5'⟩ := ownk_form g3
      have hl64 : (groupsC cn hs).length ≤ 64 := by have := HN.out cn; omega
      have z0 := (hO.boxs.get 0 _ _ _ rfl).cell 0 _ rfl
      have z1 := (hO.boxs.get 0 _ _ _ rfl).cell 1 _ rfl
      have f0 := (hO.boxs.get 0 _ _ _ rfl).frozen 0
      have f1 := (hO.boxs.get 0 _ _ _ rfl).frozen 1
      have Z : Hid (Owns w ((wr.setCell ⟨G, 0, none⟩ (.int .i64 s)).setCell ⟨G, 1, none⟩ (.int .i64 q)) [(G, txV s q a1 rs.length c1 a2 ws.length c2, 27), (w.heap.size + 1, txV s q a n c b m d, 27), (w.heap.size, #[.slice ca cn cc, .slice cb cm cd], 36)] [⟨63, 2, .slice a1 rs.length c1, rs.length, rs.flatMap readC⟩, ⟨67, 4, .slice a2 ws.length c2, ws.length, ws.flatMap writeC⟩, ⟨3, 1, .slice a5 (groupsC cn hs).length c5, (groupsC cn hs).length, (groupsC cn hs).flatMap numC⟩]) := (hO.set hGw hGl 0 (.int .i64 s)).set hGw hGl 1 (.int .i64 q)
      rw [eG] at cG
      clear hl1 hl2 g1 g2 g3 hO OO HM HL HG HN NX NY LX LY EX EY cA cB eA eB eG
      generalize groupsC cn hs = l at *
      have h0G : w.heap.size ≠ G := by omega
      have h1G : w.heap.size + 1 ≠ G := by omega
      go_upto_region 14 with (fail)
      clear x0 x1 x2 x3 y0 y1 z0 z1 f0 f1
      generalize (wr.setCell ⟨G, 0, none⟩ (.int .i64 s)).setCell ⟨G, 1, none⟩ (.int .i64 q) = W9 at *
      have T1 : Hid (TxAt W9 a1 rs.length a2 ws.length rs ws) := TxAt.rows (RowAt.of_own (Z.out.get 0 _ rfl)) (RowAt.of_own (Z.out.get 1 _ rfl)) HX.out.okR HX.out.okW
      have cS := rSame_any s q a1 rs.length c1 a2 ws.length c2 rs ws s q a n c b m d rs ws W9 T1.out (HX.out.later Z.out.bel) (by omega) (by omega)
      rw [sameM_self] at cS
      have N0 := Lib.hid (NAt.of_row (RowAt.of_own (Z.out.get 2 _ rfl)))
      obtain ⟨z0, z1, z2, z3⟩ := (Z.out.boxs.get 0 _ _ _ rfl).four
      obtain ⟨⟨y0, y1⟩, x0, x1, x2, x3⟩ := HS.out _ Z.out.boxs.tail
      go_wp2_with (first | (go_at_call 17; ((with_reducible refine cS.mono ?_); rintro e u1 ⟨rfl, hb1⟩; have X1 := Lib.hid (Z.out.below hb1); have N1 := Lib.hid (N0.out.later hb1); (clear x0 x1 x2 x3 y0 y1 z0 z1 z2 z3); obtain ⟨⟨y0, y1⟩, x0, x1, x2, x3⟩ := HS.out _ X1.out.boxs.tail)) | (go_at_call 24; ((with_reducible refine (cG _ X1.out.bel).mono ?_); rintro e u2 ⟨a6, p6, rfl, hN6, hb2⟩; have X2 := Lib.hid (X1.out.below hb2); have N6 := Lib.hid hN6; have N2 := Lib.hid (N1.out.later hb2))) | (go_at_call 23; ((with_reducible refine (rInts_same a5 a6 c5 p6 l _ N2.out N6.out hl64).mono ?_); rintro e u3 ⟨rfl, hb3⟩; have X3 := Lib.hid (X2.out.below hb3))))
      go_ret
      exact ⟨rfl, X3.out.bel⟩

set_option maxRecDepth 100000 in
set_option maxHeartbeats 2000000 in
theorem parts8_walk (ca : Option Addr) (cn cc : Nat) (cb : Option Addr) (cm cd : Nat) (R : List Int) (Bs : List ByteArray) (s q : Int) (a : Option Addr) (n c : Nat) (b : Option Addr) (m d : Nat) (rs : List RdM) (ws : List WrM) (w : World)
    (hC : CfgAt w ca cn cb cm R Bs) (hX : TxAt w a n b m rs ws) (hU : Tabs w) :
    Calls Tryd.prog 7 #[.agg #[.slice ca cn cc, .slice cb cm cd], .agg (txV s q a n c b m d)] w (Says w true) := by
  have H0 := Lib.hid (((Boxs.start w).more #[.slice ca cn cc, .slice cb cm cd] 36).more (txV s q a n c b m d) 27)
  have hs : (w.alloc (.cells #[.slice ca cn cc, .slice cb cm cd] 36)).heap.size = w.heap.size + 1 := by simp
  rw [hs] at H0
  have cF := fun W (hW : Below w.heap.size w W) => rFewT_any s q a n c b m d rs ws W (hX.later hW)
  have cK := fun W (hW : Below w.heap.size w W) => rFew_any ca cn cc cb cm cd R Bs W (hC.later hW)
  have cT := fun W (hW : Below w.heap.size w W) => tFormed_any s q a n c b m d rs ws W (hX.later hW) (hU.below hW)
  have cC := fun W (hW : Below w.heap.size w W) => rConf_any ca cn cc cb cm cd R Bs W (hC.later hW)
  have HS : Hid (∀ W, Boxs w W [(w.heap.size + 1, txV s q a n c b m d, 27), (w.heap.size, #[.slice ca cn cc, .slice cb cm cd], 36)] → (W.cell? ⟨w.heap.size, 0, none⟩ = some (.slice ca cn cc) ∧ W.cell? ⟨w.heap.size, 1, none⟩ = some (.slice cb cm cd)) ∧ W.cell? ⟨w.heap.size + 1, 0, none⟩ = some (.int .i64 s) ∧ W.cell? ⟨w.heap.size + 1, 1, none⟩ = some (.int .i64 q) ∧ W.cell? ⟨w.heap.size + 1, 2, none⟩ = some (.slice a n c) ∧ W.cell? ⟨w.heap.size + 1, 3, none⟩ = some (.slice b m d)) := fun W hW => ⟨(hW.get 1 _ _ _ rfl).two, (hW.get 0 _ _ _ rfl).four⟩
  obtain ⟨⟨y0, y1⟩, x0, x1, x2, x3⟩ := HS.out _ H0.out
  cases hf : fewT rs ws
  · rw [hf] at cF
    clear hf cK cT cC hC hX hU hs
    go_enter Tryd.func7, Tryd.ntmps7
    go_upto_region 2 with (first | (go_at_call 8; ((with_reducible refine (awake8_any _).mono ?_); rintro e w1 ⟨rfl, hb1⟩; have H1 := Lib.hid (H0.out.below hb1); (clear x0 x1 x2 x3 y0 y1); obtain ⟨⟨y0, y1⟩, x0, x1, x2, x3⟩ := HS.out _ H1.out)) | (go_at_call 9; ((with_reducible refine (cF _ H1.out.bel).mono ?_); rintro e w2 ⟨rfl, hb2⟩; have H2 := Lib.hid (H1.out.below hb2); (clear x0 x1 x2 x3 y0 y1); obtain ⟨⟨y0, y1⟩, x0, x1, x2, x3⟩ := HS.out _ H2.out)))
    go_wp2_with (go_at_call 8; ((with_reducible refine (awake8_any _).mono ?_); rintro e w9 ⟨rfl, hb9⟩; have H9 := Lib.hid (H2.out.below hb9)))
    go_ret
    exact ⟨rfl, H9.out.bel⟩
  cases hk : fewC cn Bs
  · rw [hf] at cF
    rw [hk] at cK
    clear hf hk cT cC hC hX hU hs
    go_enter Tryd.func7, Tryd.ntmps7
    go_upto_region 2 with (first | (go_at_call 8; ((with_reducible refine (awake8_any _).mono ?_); rintro e w1 ⟨rfl, hb1⟩; have H1 := Lib.hid (H0.out.below hb1); (clear x0 x1 x2 x3 y0 y1); obtain ⟨⟨y0, y1⟩, x0, x1, x2, x3⟩ := HS.out _ H1.out)) | (go_at_call 9; ((with_reducible refine (cF _ H1.out.bel).mono ?_); rintro e w2 ⟨rfl, hb2⟩; have H2 := Lib.hid (H1.out.below hb2); (clear x0 x1 x2 x3 y0 y1); obtain ⟨⟨y0, y1⟩, x0, x1, x2, x3⟩ := HS.out _ H2.out)) | (go_at_call 18; ((with_reducible refine (cK _ H2.out.bel).mono ?_); rintro e w3 ⟨rfl, hb3⟩; have H3 := Lib.hid (H2.out.below hb3); (clear x0 x1 x2 x3 y0 y1); obtain ⟨⟨y0, y1⟩, x0, x1, x2, x3⟩ := HS.out _ H3.out)))
    go_wp2_with (go_at_call 8; ((with_reducible refine (awake8_any _).mono ?_); rintro e w9 ⟨rfl, hb9⟩; have H9 := Lib.hid (H3.out.below hb9)))
    go_ret
    exact ⟨rfl, H9.out.bel⟩
  cases hT : formT formedB (txT (s, q) rs ws)
  · rw [hf] at cF
    rw [hk] at cK
    rw [hT] at cT
    clear hf hk hT cC hC hX hU hs
    go_enter Tryd.func7, Tryd.ntmps7
    go_upto_region 2 with (first | (go_at_call 8; ((with_reducible refine (awake8_any _).mono ?_); rintro e w1 ⟨rfl, hb1⟩; have H1 := Lib.hid (H0.out.below hb1); (clear x0 x1 x2 x3 y0 y1); obtain ⟨⟨y0, y1⟩, x0, x1, x2, x3⟩ := HS.out _ H1.out)) | (go_at_call 9; ((with_reducible refine (cF _ H1.out.bel).mono ?_); rintro e w2 ⟨rfl, hb2⟩; have H2 := Lib.hid (H1.out.below hb2); (clear x0 x1 x2 x3 y0 y1); obtain ⟨⟨y0, y1⟩, x0, x1, x2, x3⟩ := HS.out _ H2.out)) | (go_at_call 18; ((with_reducible refine (cK _ H2.out.bel).mono ?_); rintro e w3 ⟨rfl, hb3⟩; have H3 := Lib.hid (H2.out.below hb3); (clear x0 x1 x2 x3 y0 y1); obtain ⟨⟨y0, y1⟩, x0, x1, x2, x3⟩ := HS.out _ H3.out)) | (go_at_call 10; ((with_reducible refine (cT _ H3.out.bel).mono ?_); rintro e w4 ⟨rfl, hb4⟩; have H4 := Lib.hid (H3.out.below hb4); (clear x0 x1 x2 x3 y0 y1); obtain ⟨⟨y0, y1⟩, x0, x1, x2, x3⟩ := HS.out _ H4.out)))
    go_wp2_with (go_at_call 8; ((with_reducible refine (awake8_any _).mono ?_); rintro e w9 ⟨rfl, hb9⟩; have H9 := Lib.hid (H4.out.below hb9)))
    go_ret
    exact ⟨rfl, H9.out.bel⟩
  cases hF : formedC R (txt Bs)
  · rw [hf] at cF
    rw [hk] at cK
    rw [hT] at cT
    rw [hF] at cC
    clear hf hk hT hF hC hX hU hs
    go_enter Tryd.func7, Tryd.ntmps7
    go_upto_region 2 with (first | (go_at_call 8; ((with_reducible refine (awake8_any _).mono ?_); rintro e w1 ⟨rfl, hb1⟩; have H1 := Lib.hid (H0.out.below hb1); (clear x0 x1 x2 x3 y0 y1); obtain ⟨⟨y0, y1⟩, x0, x1, x2, x3⟩ := HS.out _ H1.out)) | (go_at_call 9; ((with_reducible refine (cF _ H1.out.bel).mono ?_); rintro e w2 ⟨rfl, hb2⟩; have H2 := Lib.hid (H1.out.below hb2); (clear x0 x1 x2 x3 y0 y1); obtain ⟨⟨y0, y1⟩, x0, x1, x2, x3⟩ := HS.out _ H2.out)) | (go_at_call 18; ((with_reducible refine (cK _ H2.out.bel).mono ?_); rintro e w3 ⟨rfl, hb3⟩; have H3 := Lib.hid (H2.out.below hb3); (clear x0 x1 x2 x3 y0 y1); obtain ⟨⟨y0, y1⟩, x0, x1, x2, x3⟩ := HS.out _ H3.out)) | (go_at_call 10; ((with_reducible refine (cT _ H3.out.bel).mono ?_); rintro e w4 ⟨rfl, hb4⟩; have H4 := Lib.hid (H3.out.below hb4); (clear x0 x1 x2 x3 y0 y1); obtain ⟨⟨y0, y1⟩, x0, x1, x2, x3⟩ := HS.out _ H4.out)) | (go_at_call 40; ((with_reducible refine (cC _ H4.out.bel).mono ?_); rintro e w5 ⟨rfl, hb5⟩; have H5 := Lib.hid (H4.out.below hb5); (clear x0 x1 x2 x3 y0 y1); obtain ⟨⟨y0, y1⟩, x0, x1, x2, x3⟩ := HS.out _ H5.out)))
    go_wp2_with (go_at_call 8; ((with_reducible refine (awake8_any _).mono ?_); rintro e w9 ⟨rfl, hb9⟩; have H9 := Lib.hid (H5.out.below hb9)))
    go_ret
    exact ⟨rfl, H9.out.bel⟩
  exact parts8_gen ca cn cc cb cm cd R Bs s q a n c b m d rs ws w hC hX hf hk hU hT hF
end Go.Proofs.YtlkgpajpblhkeaaDoor
