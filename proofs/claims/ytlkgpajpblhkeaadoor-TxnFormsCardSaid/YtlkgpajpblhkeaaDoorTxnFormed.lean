/- Contract of txn.Formed. Conditions: the lists lie in memory, and are no longer than a million; the tables of utf8 lie there. -/
import Derived.Test.YtlkgpajpblhkeaaDoorTxnKeys

import Derived.Test.YtlkgpajpblhkeaaDoorTxnSame

namespace Go.Proofs.YtlkgpajpblhkeaaDoor

open Go.RowKit

theorem vals_all (i : IdN) (rs : List RdM) (ws : List WrM) : ((txT i rs ws).ws.all fun x => formedB x.2) = valsB ws := by
  unfold txT txW valsB
  rw [List.all_map]; rfl
theorem form_len (i : IdN) (rs : List RdM) (ws : List WrM) (h : idB i = false ∨ 6 < rs.length ∨ 6 < ws.length ∨ (rs.length = 0 ∧ ws.length = 0)) : formT formedB (txT i rs ws) = false := by
  cases e : formT formedB (txT i rs ws)
  · rfl
  · have hf := (formT_iff _ _).1 e
    have h1 := hf.id
    have h2 := hf.rlen
    have h3 := hf.wlen
    have h4 := hf.some
    simp only [txT, txR, txW, List.length_map] at h1 h2 h3 h4
    rcases h with h | h | h | h
    · rw [h] at h1; cases h1
    · omega
    · omega
    · omega
theorem form_parts (i : IdN) (rs : List RdM) (ws : List WrM) (hi : idB i = true) (h1 : rs.length ≤ 6) (h2 : ws.length ≤ 6) (h3 : ¬ (rs.length = 0 ∧ ws.length = 0)) :
    formT formedB (txT i rs ws) = (riseB (txt (keysM rs)) && (riseB (txt (keysV ws)) && valsB ws)) := by
  have e1 : idB (txT i rs ws).id = true := hi
  have e2 : (txT i rs ws).rs.length = rs.length := by simp [txT, txR]
  have e3 : (txT i rs ws).ws.length = ws.length := by simp [txT, txW]
  have e4 : (decide (rs.length = 0) && decide (ws.length = 0)) = false := by
    rw [Bool.and_eq_false_iff, decide_eq_false_iff_not, decide_eq_false_iff_not]; omega
  unfold formT
  rw [e1, e2, e3, decide_eq_true h1, decide_eq_true h2, e4, keysM_txt, keysV_txt, vals_all]
  unfold riseB
  cases (txt (keysM rs)).all keyB <;> cases adjB (txt (keysM rs)) <;> cases (txt (keysV ws)).all keyB <;> cases adjB (txt (keysV ws)) <;> cases valsB ws <;> rfl
theorem keysM_ok {rs : List RdM} (h : ∀ x ∈ rs, RdOk x) : ∀ z ∈ keysM rs, z.size ≤ maxLen := by
  intro z hz
  obtain ⟨x, hx, rfl⟩ := List.mem_map.1 hz
  exact (h x hx).1
theorem keysV_ok {ws : List WrM} (h : ∀ x ∈ ws, WrOk x) : ∀ z ∈ keysV ws, z.size ≤ maxLen := by
  intro z hz
  obtain ⟨x, hx, rfl⟩ := List.mem_map.1 hz
  exact (h x hx).1

set_option maxHeartbeats 1000000 in
theorem tFormed_any (s q : Int) (a : Option Addr) (n c : Nat) (b : Option Addr) (m d : Nat) (rs : List RdM) (ws : List WrM) (w : World) (h : TxAt w a n b m rs ws) (hU : Tabs w) :
    Calls Tryd.prog 10 #[.agg (txV s q a n c b m d)] w (Says w (formT formedB (txT (s, q) rs ws))) := by
  have H0 := Lib.hid ((Boxs.start w).more (txV s q a n c b m d) 27)
  have HT := Lib.hid h
  have HU := Lib.hid hU
  have hl := h.lenR
  have hk := h.lenW
  have cI := fun W => tId_any s q W
  obtain ⟨x0, x1, x2, x3⟩ := (H0.out.get 0 _ _ _ rfl).four
  clear h hU
  cases hI : idB (s, q)
  · rw [hI] at cI
    have Q := Lib.hid (form_len (s, q) rs ws (.inl hI))
    clear hI
    go_enter Tryd.func10, Tryd.ntmps10
    go_wp2_with (go_at_call 12; ((with_reducible refine (cI _).mono ?_); rintro e w1 ⟨rfl, hb1⟩; have H1 := Lib.hid (H0.out.below hb1)))
    go_ret
    exact ⟨by rw [Q.out]; rfl, H1.out.bel⟩
  rw [hI] at cI
  by_cases hn : 6 < n
  · have Q := Lib.hid (form_len (s, q) rs ws (.inr (.inl (by omega))))
    have d1 : decide ((6 : Int) < (n : Int)) = true := by simp; omega
    clear hI
    go_enter Tryd.func10, Tryd.ntmps10
    go_wp2_with (go_at_call 12; ((with_reducible refine (cI _).mono ?_); rintro e w1 ⟨rfl, hb1⟩; have H1 := Lib.hid (H0.out.below hb1); (clear x0 x1 x2 x3); obtain ⟨x0, x1, x2, x3⟩ := (H1.out.get 0 _ _ _ rfl).four))
    go_ret
    exact ⟨by rw [Q.out]; rfl, H1.out.bel⟩
  have d1 : decide ((6 : Int) < (n : Int)) = false := by simp; omega
  by_cases hm : 6 < m
  · have Q := Lib.hid (form_len (s, q) rs ws (.inr (.inr (.inl (by omega)))))
    have d2 : decide ((6 : Int) < (m : Int)) = true := by simp; omega
    clear hI
    go_enter Tryd.func10, Tryd.ntmps10
    go_wp2_with (go_at_call 12; ((with_reducible refine (cI _).mono ?_); rintro e w1 ⟨rfl, hb1⟩; have H1 := Lib.hid (H0.out.below hb1); (clear x0 x1 x2 x3); obtain ⟨x0, x1, x2, x3⟩ := (H1.out.get 0 _ _ _ rfl).four))
    go_ret
    exact ⟨by rw [Q.out]; rfl, H1.out.bel⟩
  have d2 : decide ((6 : Int) < (m : Int)) = false := by simp; omega
  by_cases h0 : n + m = 0
  · have Q := Lib.hid (form_len (s, q) rs ws (.inr (.inr (.inr (by omega)))))
    have d3 : ((n : Int) + (m : Int) == 0) = true := by simp; omega
    clear hI
    go_enter Tryd.func10, Tryd.ntmps10
    go_wp2_with (go_at_call 12; ((with_reducible refine (cI _).mono ?_); rintro e w1 ⟨rfl, hb1⟩; have H1 := Lib.hid (H0.out.below hb1); (clear x0 x1 x2 x3); obtain ⟨x0, x1, x2, x3⟩ := (H1.out.get 0 _ _ _ rfl).four))
    go_ret
    exact ⟨by rw [Q.out]; rfl, H1.out.bel⟩
  have d3 : ((n : Int) + (m : Int) == 0) = false := by simp; omega
  rw [form_parts (s, q) rs ws hI (by omega) (by omega) (by omega)]
  have cK := fun W (hW : Below w.heap.size w W) => readKeys_any a n c rs W (HT.out.later hW).rds (by omega)
  have cK' := fun W (hW : Below w.heap.size w W) => writeKeys_any b m d ws W (HT.out.later hW).wrs (by omega)
  have cV := fun W (hW : Below w.heap.size w W) => values_any b m d ws W (HT.out.later hW).wrs HT.out.okW (by omega) (HU.out.below hW)
  have HR := Lib.hid (fun a1 c1 W (hW : StrsAt W W.heap.size a1 (keysM rs).length (keysM rs)) => rising_any a1 (keysM rs).length c1 _ (keysM rs) W hW (keysM_ok HT.out.okR) (by rw [keysM_len]; omega))
  have HR' := Lib.hid (fun a1 c1 W (hW : StrsAt W W.heap.size a1 (keysV ws).length (keysV ws)) => rising_any a1 (keysV ws).length c1 _ (keysV ws) W hW (keysV_ok HT.out.okW) (by rw [keysV_len]; omega))
  clear hI
  cases h1 : riseB (txt (keysM rs))
  · rw [h1] at HR
    clear h1
    go_enter Tryd.func10, Tryd.ntmps10
    go_wp2_with (first | (go_at_call 12; ((with_reducible refine (cI _).mono ?_); rintro e w1 ⟨rfl, hb1⟩; have H1 := Lib.hid (H0.out.below hb1); (clear x0 x1 x2 x3); obtain ⟨x0, x1, x2, x3⟩ := (H1.out.get 0 _ _ _ rfl).four)) | (go_at_call 42; ((with_reducible refine (cK _ H1.out.bel).mono ?_); rintro e w2 ⟨a1, c1, rfl, hS, _, hb2⟩; have H2 := Lib.hid (H1.out.below hb2); have cR := HR.out a1 c1 w2 hS; (clear x0 x1 x2 x3))) | (go_at_call 41; ((with_reducible refine cR.mono ?_); rintro e w3 ⟨rfl, rfl⟩)))
    go_ret
    exact ⟨rfl, H2.out.bel⟩
  rw [h1] at HR
  clear h1
  cases h2 : riseB (txt (keysV ws))
  · rw [h2] at HR'
    clear h2
    go_enter Tryd.func10, Tryd.ntmps10
    go_wp2_with (first | (go_at_call 12; ((with_reducible refine (cI _).mono ?_); rintro e w1 ⟨rfl, hb1⟩; have H1 := Lib.hid (H0.out.below hb1); (clear x0 x1 x2 x3); obtain ⟨x0, x1, x2, x3⟩ := (H1.out.get 0 _ _ _ rfl).four)) | (go_at_call 42; ((with_reducible refine (cK _ H1.out.bel).mono ?_); rintro e w2 ⟨a1, c1, rfl, hS, _, hb2⟩; have H2 := Lib.hid (H1.out.below hb2); have cR := HR.out a1 c1 w2 hS; (clear x0 x1 x2 x3); obtain ⟨x0, x1, x2, x3⟩ := (H2.out.get 0 _ _ _ rfl).four)) | (go_at_call 41; ((with_reducible refine cR.mono ?_); rintro e w3 ⟨rfl, rfl⟩)) | (go_at_call 43; ((with_reducible refine (cK' _ H2.out.bel).mono ?_); rintro e w4 ⟨a2, c2, rfl, hS2, _, hb4⟩; have H4 := Lib.hid (H2.out.below hb4); have cR' := HR'.out a2 c2 w4 hS2; (clear x0 x1 x2 x3))) | (go_at_call 41; ((with_reducible refine cR'.mono ?_); rintro e w5 ⟨rfl, rfl⟩)))
    go_ret
    exact ⟨rfl, H4.out.bel⟩
  rw [h2] at HR'
  clear h2
  go_enter Tryd.func10, Tryd.ntmps10
  go_wp2_with (first | (go_at_call 12; ((with_reducible refine (cI _).mono ?_); rintro e w1 ⟨rfl, hb1⟩; have H1 := Lib.hid (H0.out.below hb1); (clear x0 x1 x2 x3); obtain ⟨x0, x1, x2, x3⟩ := (H1.out.get 0 _ _ _ rfl).four)) | (go_at_call 42; ((with_reducible refine (cK _ H1.out.bel).mono ?_); rintro e w2 ⟨a1, c1, rfl, hS, _, hb2⟩; have H2 := Lib.hid (H1.out.below hb2); have cR := HR.out a1 c1 w2 hS; (clear x0 x1 x2 x3); obtain ⟨x0, x1, x2, x3⟩ := (H2.out.get 0 _ _ _ rfl).four)) | (go_at_call 41; ((with_reducible refine cR.mono ?_); rintro e w3 ⟨rfl, rfl⟩)) | (go_at_call 43; ((with_reducible refine (cK' _ H2.out.bel).mono ?_); rintro e w4 ⟨a2, c2, rfl, hS2, _, hb4⟩; have H4 := Lib.hid (H2.out.below hb4); have cR' := HR'.out a2 c2 w4 hS2; (clear x0 x1 x2 x3); obtain ⟨x0, x1, x2, x3⟩ := (H4.out.get 0 _ _ _ rfl).four)) | (go_at_call 41; ((with_reducible refine cR'.mono ?_); rintro e w5 ⟨rfl, rfl⟩)) | (go_at_call 44; ((with_reducible refine (cV _ H4.out.bel).mono ?_); rintro e w6 ⟨rfl, hb6⟩; have H6 := Lib.hid (H4.out.below hb6))))
  go_ret
  exact ⟨rfl, H6.out.bel⟩
end Go.Proofs.YtlkgpajpblhkeaaDoor
