/- The walk of the statement TxnForms. Conditions: the transactions' lists lie in memory; the tables of utf8 lie there. -/
import Derived.Test.YtlkgpajpblhkeaaDoorTxnRefFormed

import Derived.Test.YtlkgpajpblhkeaaDoorTxnFew

namespace Go.Proofs.YtlkgpajpblhkeaaDoor

open Go.RowKit

set_option linter.unusedVariables false

set_option maxRecDepth 100000 in
set_option maxHeartbeats 4000000 in
theorem forms8_walk (s q : Int) (a : Option Addr) (n c : Nat) (b : Option Addr) (m d : Nat) (rs : List RdM) (ws : List WrM) (s' q' : Int) (a' : Option Addr) (n' c' : Nat) (b' : Option Addr) (m' d' : Nat) (rs' : List RdM) (ws' : List WrM) (w : World)
    (h : TxAt w a n b m rs ws) (h' : TxAt w a' n' b' m' rs' ws') (hU : Tabs w) :
    Calls Tryd.prog 3 #[.agg (txV s q a n c b m d), .agg (txV s' q' a' n' c' b' m' d')] w (Says w true) := by
  have H0 := Lib.hid (((Boxs.start w).more (txV s q a n c b m d) 27).more (txV s' q' a' n' c' b' m' d') 27)
  have hs : (w.alloc (.cells (txV s q a n c b m d) 27)).heap.size = w.heap.size + 1 := by simp
  rw [hs] at H0
  have hl := h.lenR
  have hl' := h'.lenR
  have hk := h.lenW
  have hk' := h'.lenW
  have cW := fun W (hW : Below w.heap.size w W) => rFewT_any s q a n c b m d rs ws W (h.later hW)
  have cW' := fun W (hW : Below w.heap.size w W) => rFewT_any s' q' a' n' c' b' m' d' rs' ws' W (h'.later hW)
  obtain ⟨x0, x1, x2, x3⟩ := (H0.out.get 1 _ _ _ rfl).four
  obtain ⟨y0, y1, y2, y3⟩ := (H0.out.get 0 _ _ _ rfl).four
  cases hf : fewT rs ws
  · rw [hf] at cW
    clear hf cW'
    go_enter Tryd.func3, Tryd.ntmps3
    go_upto_region 2 with (first | (go_at_call 8; ((with_reducible refine (awake8_any _).mono ?_); rintro e w1 ⟨rfl, hb1⟩; have H1 := Lib.hid (H0.out.below hb1); (clear x0 x1 x2 x3 y0 y1 y2 y3); obtain ⟨x0, x1, x2, x3⟩ := (H1.out.get 1 _ _ _ rfl).four; obtain ⟨y0, y1, y2, y3⟩ := (H1.out.get 0 _ _ _ rfl).four)) | (go_at_call 9; ((with_reducible refine (cW _ H1.out.bel).mono ?_); rintro e w2 ⟨rfl, hb2⟩; have H2 := Lib.hid (H1.out.below hb2); (clear x0 x1 x2 x3 y0 y1 y2 y3); obtain ⟨x0, x1, x2, x3⟩ := (H2.out.get 1 _ _ _ rfl).four; obtain ⟨y0, y1, y2, y3⟩ := (H2.out.get 0 _ _ _ rfl).four)))
    go_wp2_with (go_at_call 8; ((with_reducible refine (awake8_any _).mono ?_); rintro e w3 ⟨rfl, hb3⟩; have H3 := Lib.hid (H2.out.below hb3)))
    go_ret
    exact ⟨rfl, H3.out.bel⟩
  rw [hf] at cW
  cases hf' : fewT rs' ws'
  · rw [hf'] at cW'
    clear hf hf'
    go_enter Tryd.func3, Tryd.ntmps3
    go_upto_region 2 with (first | (go_at_call 8; ((with_reducible refine (awake8_any _).mono ?_); rintro e w1 ⟨rfl, hb1⟩; have H1 := Lib.hid (H0.out.below hb1); (clear x0 x1 x2 x3 y0 y1 y2 y3); obtain ⟨x0, x1, x2, x3⟩ := (H1.out.get 1 _ _ _ rfl).four; obtain ⟨y0, y1, y2, y3⟩ := (H1.out.get 0 _ _ _ rfl).four)) | (go_at_call 9; ((with_reducible refine (cW _ H1.out.bel).mono ?_); rintro e w2 ⟨rfl, hb2⟩; have H2 := Lib.hid (H1.out.below hb2); (clear x0 x1 x2 x3 y0 y1 y2 y3); obtain ⟨x0, x1, x2, x3⟩ := (H2.out.get 1 _ _ _ rfl).four; obtain ⟨y0, y1, y2, y3⟩ := (H2.out.get 0 _ _ _ rfl).four)) | (go_at_call 9; ((with_reducible refine (cW' _ H2.out.bel).mono ?_); rintro e w3 ⟨rfl, hb3⟩; have H3 := Lib.hid (H2.out.below hb3))))
    go_wp2_with (go_at_call 8; ((with_reducible refine (awake8_any _).mono ?_); rintro e w4 ⟨rfl, hb4⟩; have H4 := Lib.hid (H3.out.below hb4)))
    go_ret
    exact ⟨rfl, H4.out.bel⟩
  rw [hf'] at cW'
  have hn : n ≤ 12 := by have := (fewT_len hf).1; omega
  have hm : m ≤ 12 := by have := (fewT_len hf).2; omega
  have cF := fun W (hW : Below w.heap.size w W) => tFormed_any s q a n c b m d rs ws W (h.later hW) (hU.below hW)
  have cF2 := fun W (hW : Below w.heap.size w W) => rFormedT_any s q a n c b m d rs ws W (h.later hW)
  have cI := fun W (hW : Below w.heap.size w W) => tId_any s q W
  have cI2 := fun W (hW : Below w.heap.size w W) => rId_any s q W
  have cL := fun W (hW : Below w.heap.size w W) => tLess_any s q s' q' W
  have cL2 := fun W (hW : Below w.heap.size w W) => rLess_any s q s' q' W
  have cS := fun W (hW : Below w.heap.size w W) => tSame_any s q a n c b m d rs ws s' q' a' n' c' b' m' d' rs' ws' W (h.later hW) (h'.later hW) (by omega) (by omega)
  have cS2 := fun W (hW : Below w.heap.size w W) => rSame_any s q a n c b m d rs ws s' q' a' n' c' b' m' d' rs' ws' W (h.later hW) (h'.later hW) (by omega) (by omega)
  have cS3 := fun W (hW : Below w.heap.size w W) => tSame_any s q a n c b m d rs ws s q a n c b m d rs ws W (h.later hW) (h.later hW) (by omega) (by omega)
  rw [sameM_self] at cS3
  generalize formT formedB (txT (s, q) rs ws) = B1 at cF cF2
  generalize idB (s, q) = B2 at cI cI2
  generalize lessId (s, q) (s', q') = B3 at cL cL2
  generalize sameM (s, q) (s', q') rs rs' ws ws' = B4 at cS cS2
  have HS : Hid (∀ W, Boxs w W [(w.heap.size + 1, txV s' q' a' n' c' b' m' d', 27), (w.heap.size, txV s q a n c b m d, 27)] → (W.cell? ⟨w.heap.size, 0, none⟩ = some (.int .i64 s) ∧ W.cell? ⟨w.heap.size, 1, none⟩ = some (.int .i64 q) ∧ W.cell? ⟨w.heap.size, 2, none⟩ = some (.slice a n c) ∧ W.cell? ⟨w.heap.size, 3, none⟩ = some (.slice b m d)) ∧ W.cell? ⟨w.heap.size + 1, 0, none⟩ = some (.int .i64 s') ∧ W.cell? ⟨w.heap.size + 1, 1, none⟩ = some (.int .i64 q') ∧ W.cell? ⟨w.heap.size + 1, 2, none⟩ = some (.slice a' n' c') ∧ W.cell? ⟨w.heap.size + 1, 3, none⟩ = some (.slice b' m' d')) := fun W hW => ⟨(hW.get 1 _ _ _ rfl).four, (hW.get 0 _ _ _ rfl).four⟩
  clear hf hf' h h' hU
  go_enter Tryd.func3, Tryd.ntmps3
  go_upto_region 3 with (first | (go_at_call 8; ((with_reducible refine (awake8_any _).mono ?_); rintro e w1 ⟨rfl, hb1⟩; have H1 := Lib.hid (H0.out.below hb1); (clear x0 x1 x2 x3 y0 y1 y2 y3); obtain ⟨x0, x1, x2, x3⟩ := (H1.out.get 1 _ _ _ rfl).four; obtain ⟨y0, y1, y2, y3⟩ := (H1.out.get 0 _ _ _ rfl).four)) | (go_at_call 9; ((with_reducible refine (cW _ H1.out.bel).mono ?_); rintro e w2 ⟨rfl, hb2⟩; have H2 := Lib.hid (H1.out.below hb2); (clear x0 x1 x2 x3 y0 y1 y2 y3); obtain ⟨x0, x1, x2, x3⟩ := (H2.out.get 1 _ _ _ rfl).four; obtain ⟨y0, y1, y2, y3⟩ := (H2.out.get 0 _ _ _ rfl).four)) | (go_at_call 9; ((with_reducible refine (cW' _ H2.out.bel).mono ?_); rintro e w3 ⟨rfl, hb3⟩; have H3 := Lib.hid (H2.out.below hb3))))
  have X0 := Lib.hid H3.out.drew
  have s0 := HS.out _ X0.out
  (clear x0 x1 x2 x3 y0 y1 y2 y3)
  go_region_held3 (fun W => (W.cell? ⟨w.heap.size, 0, none⟩ = some (.int .i64 s) ∧ W.cell? ⟨w.heap.size, 1, none⟩ = some (.int .i64 q) ∧ W.cell? ⟨w.heap.size, 2, none⟩ = some (.slice a n c) ∧ W.cell? ⟨w.heap.size, 3, none⟩ = some (.slice b m d)) ∧ W.cell? ⟨w.heap.size + 1, 0, none⟩ = some (.int .i64 s') ∧ W.cell? ⟨w.heap.size + 1, 1, none⟩ = some (.int .i64 q') ∧ W.cell? ⟨w.heap.size + 1, 2, none⟩ = some (.slice a' n' c') ∧ W.cell? ⟨w.heap.size + 1, 3, none⟩ = some (.slice b' m' d')) (first | exact s0 | exact s1 | exact s2 | exact s3 | exact s4 | exact s5 | exact s6 | exact s7 | exact s8 | exact s9)
    (first | (go_at_call 10; ((with_reducible refine (cF _ X0.out.bel).mono ?_); rintro e v1 ⟨rfl, hb1⟩; have X1 := Lib.hid (X0.out.below hb1); have s1 := HS.out _ X1.out)) | (go_at_call 11; ((with_reducible refine (cF2 _ X1.out.bel).mono ?_); rintro e v2 ⟨rfl, hb2⟩; have X2 := Lib.hid (X1.out.below hb2); have s2 := HS.out _ X2.out)) | (go_at_call 12; ((with_reducible refine (cI _ X2.out.bel).mono ?_); rintro e v3 ⟨rfl, hb3⟩; have X3 := Lib.hid (X2.out.below hb3); have s3 := HS.out _ X3.out)) | (go_at_call 13; ((with_reducible refine (cI2 _ X3.out.bel).mono ?_); rintro e v4 ⟨rfl, hb4⟩; have X4 := Lib.hid (X3.out.below hb4); have s4 := HS.out _ X4.out)) | (go_at_call 14; ((with_reducible refine (cL _ X4.out.bel).mono ?_); rintro e v5 ⟨rfl, hb5⟩; have X5 := Lib.hid (X4.out.below hb5); have s5 := HS.out _ X5.out)) | (go_at_call 15; ((with_reducible refine (cL2 _ X5.out.bel).mono ?_); rintro e v6 ⟨rfl, hb6⟩; have X6 := Lib.hid (X5.out.below hb6); have s6 := HS.out _ X6.out)) | (go_at_call 16; ((with_reducible refine (cS _ X6.out.bel).mono ?_); rintro e v7 ⟨rfl, hb7⟩; have X7 := Lib.hid (X6.out.below hb7); have s7 := HS.out _ X7.out)) | (go_at_call 17; ((with_reducible refine (cS2 _ X7.out.bel).mono ?_); rintro e v8 ⟨rfl, hb8⟩; have X8 := Lib.hid (X7.out.below hb8); have s8 := HS.out _ X8.out)) | (go_at_call 16; ((with_reducible refine (cS3 _ X8.out.bel).mono ?_); rintro e v9 ⟨rfl, hb9⟩; have X9 := Lib.hid (X8.out.below hb9); have s9 := HS.out _ X9.out)))
  go_wp2
  go_ret
  exact ⟨rfl, X9.out.bel⟩
end Go.Proofs.YtlkgpajpblhkeaaDoor
