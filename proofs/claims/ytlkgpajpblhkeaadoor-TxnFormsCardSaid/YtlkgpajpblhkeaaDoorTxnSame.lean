/- Contracts of txn.Same, of the document's own, and of the statements' awake. Conditions: the lists lie in memory, and are no longer than a million. -/
import Derived.Test.YtlkgpajpblhkeaaDoorTxnEqual

import Derived.WalkLawsBesides

namespace Go.Proofs.YtlkgpajpblhkeaaDoor

open Go.RowKit

/-- Whether two transactions in memory are alike. -/
noncomputable def sameM (x y : IdN) (rs rs' : List RdM) (ws ws' : List WrM) : Bool := eqB x y && (eqB rs rs' && eqB ws ws')
theorem sameM_self (x : IdN) (rs : List RdM) (ws : List WrM) : sameM x x rs rs ws ws = true := by unfold sameM; rw [eqB_self, eqB_self, eqB_self]; rfl
theorem id_cases (s q s' q' : Int) : (eqB (s, q) (s', q') = true ∧ (s == s') = true ∧ (q == q') = true) ∨ (eqB (s, q) (s', q') = false ∧ (s == s') = false) ∨ (eqB (s, q) (s', q') = false ∧ (s == s') = true ∧ (q == q') = false) := by
  by_cases h1 : s = s'
  · by_cases h2 : q = q'
    · exact .inl ⟨eqB_yes (by rw [h1, h2]), by simpa using h1, by simpa using h2⟩
    · exact .inr (.inr ⟨eqB_no (fun e => h2 (by injection e)), by simpa using h1, by simpa using h2⟩)
  · exact .inr (.inl ⟨eqB_no (fun e => h1 (by injection e)), by simpa using h1⟩)

set_option maxHeartbeats 1000000 in
theorem tSame_any (s q : Int) (a : Option Addr) (n c : Nat) (b : Option Addr) (m d : Nat) (rs : List RdM) (ws : List WrM) (s' q' : Int) (a' : Option Addr) (n' c' : Nat) (b' : Option Addr) (m' d' : Nat) (rs' : List RdM) (ws' : List WrM) (w : World)
    (h : TxAt w a n b m rs ws) (h' : TxAt w a' n' b' m' rs' ws') (hn : n ≤ 1000000) (hm : m ≤ 1000000) :
    Calls Tryd.prog 16 #[.agg (txV s q a n c b m d), .agg (txV s' q' a' n' c' b' m' d')] w (Says w (sameM (s, q) (s', q') rs rs' ws ws')) := by
  have H0 := Lib.hid (((Boxs.start w).more (txV s q a n c b m d) 27).more (txV s' q' a' n' c' b' m' d') 27)
  have hs : (w.alloc (.cells (txV s q a n c b m d) 27)).heap.size = w.heap.size + 1 := by simp
  rw [hs] at H0
  have c1 := eqR_any a a' n n' c c' _ _ rs rs' _ (h.later H0.out.bel).rds (h'.later H0.out.bel).rds hn
  have HT := Lib.hid h
  have HT' := Lib.hid h'
  have c2 := fun W (hW : Below w.heap.size w W) => eqW_any b b' m m' d d' _ _ ws ws' W (HT.out.later hW).wrs (HT'.out.later hW).wrs hm
  obtain ⟨x0, x1, x2, x3⟩ := (H0.out.get 1 _ _ _ rfl).four
  obtain ⟨y0, y1, y2, y3⟩ := (H0.out.get 0 _ _ _ rfl).four
  clear h h'
  unfold sameM
  rcases id_cases s q s' q' with ⟨e, q1, q2⟩ | ⟨e, q1⟩ | ⟨e, q1, q2⟩
  · rw [e]
    cases hR : eqB rs rs'
    · rw [hR] at c1
      clear hR c2
      go_enter Tryd.func16, Tryd.ntmps16
      go_wp2_with (go_at_call 47; ((with_reducible refine c1.mono ?_); rintro e w1 ⟨rfl, hb1⟩; have H1 := Lib.hid (H0.out.below hb1)))
      go_ret
      exact ⟨rfl, H1.out.bel⟩
    · rw [hR] at c1
      clear hR
      go_enter Tryd.func16, Tryd.ntmps16
      go_wp2_with (first | (go_at_call 47; ((with_reducible refine c1.mono ?_); rintro e w1 ⟨rfl, hb1⟩; have H1 := Lib.hid (H0.out.below hb1); (clear x0 x1 x2 x3 y0 y1 y2 y3); obtain ⟨x0, x1, x2, x3⟩ := (H1.out.get 1 _ _ _ rfl).four; obtain ⟨y0, y1, y2, y3⟩ := (H1.out.get 0 _ _ _ rfl).four)) | (go_at_call 48; ((with_reducible refine (c2 _ H1.out.bel).mono ?_); rintro e w2 ⟨rfl, hb2⟩; have H2 := Lib.hid (H1.out.below hb2))))
      go_ret
      exact ⟨rfl, H2.out.bel⟩
  · rw [e]
    clear c1 c2
    go_enter Tryd.func16, Tryd.ntmps16
    go_wp2
    go_ret
    exact ⟨rfl, H0.out.bel⟩
  · rw [e]
    clear c1 c2
    go_enter Tryd.func16, Tryd.ntmps16
    go_wp2
    go_ret
    exact ⟨rfl, H0.out.bel⟩

set_option maxHeartbeats 1000000 in
theorem awake8_any (w : World) : Calls Tryd.prog 8 #[] w (Says w true) := by
  have cI := tId_any 1 1 w
  have eI : idB (1, 1) = true := by decide
  rw [eI] at cI
  have cS := fun W => tSame_any 0 0 none 0 0 none 0 0 [] [] 0 0 none 0 0 none 0 0 [] [] W TxAt.nil TxAt.nil (by omega) (by omega)
  rw [sameM_self] at cS
  go_enter Tryd.func8, Tryd.ntmps8
  go_wp2_with (first | (go_at_call 12; ((with_reducible refine cI.mono ?_); rintro e w1 ⟨rfl, hb1⟩)) | (go_at_call 16; ((with_reducible refine (cS _).mono ?_); rintro e w2 ⟨rfl, hb2⟩)))
  go_ret
  exact ⟨rfl, hb1.trans (hb2.mono hb1.size)⟩
end Go.Proofs.YtlkgpajpblhkeaaDoor
