/- What came in, opened: a command by value, a slice of commands. No condition. -/
import Derived.Test.YtpkbjbhmghdnoaaDoorTxnOpen
import Derived.Test.YtpkbjbhmghdnoaaDoorCommandBackWalk
namespace Go.Proofs.YtpkbjbhmghdnoaaDoor

open Go.ChangeShapes Go.WideShapes Go.ChangeAt Go.RowKit

section

variable {H : Type} {enc : TypeId × Value → H} {w : World} {base b0 : Nat} {r : Reach} {spare : Nat → Bool} {held : Bool}

set_option maxRecDepth 100000 in
theorem trod_id (n : Nat) (c0 c1 : Value) (y : DataW H × List MemPlace) (h : DataW.trod enc Tryd.prog w base spare held n 23 [c0, c1] = some y) : ∃ s q : Int, c0 = .int .i64 s ∧ c1 = .int .i64 q := by
  have k3 : Tryd.prog.cellsOf 3 = 1 := by kernel_rfl
  have hfi := trod_field Tryd.underlying23 h
  obtain ⟨m0, u0, g0⟩ := hfi 0 _ rfl
  obtain ⟨m1, u1, g1⟩ := hfi 1 _ rfl
  replace g0 : DataW.trod enc Tryd.prog w base spare held m0 3 (([c0, c1].drop 0).take (Tryd.prog.cellsOf 3)) = some u0 := g0
  rw [k3] at g0
  replace g1 : DataW.trod enc Tryd.prog w base spare held m1 3 (([c0, c1].drop 1).take (Tryd.prog.cellsOf 3)) = some u1 := g1
  rw [k3] at g1
  obtain ⟨s, e0, _, _⟩ := DataW.trod_int Tryd.underlying3 g0
  obtain ⟨q, e1, _, _⟩ := DataW.trod_int Tryd.underlying3 g1
  simp at e0 e1
  exact ⟨s, q, e0, e1⟩
set_option maxRecDepth 100000 in
theorem trod_txn (n : Nat) (c0 c1 c2 c3 : Value) (y : DataW H × List MemPlace) (hf : DataW.trod enc Tryd.prog w base spare held n 27 [c0, c1, c2, c3] = some y) :
    ∃ (s q : Int) (a : Option Addr) (n c : Nat) (b : Option Addr) (m e : Nat) (rs : List RdM) (ws : List WrM), (c0 = .int .i64 s ∧ c1 = .int .i64 q ∧ c2 = .slice a n c ∧ c3 = .slice b m e) ∧ TxAt w a n b m rs ws := by
  have hfd := trod_field Tryd.underlying27 hf
  obtain ⟨n0, y0, h0⟩ := hfd 0 _ rfl
  obtain ⟨n1, y1, h1⟩ := hfd 1 _ rfl
  obtain ⟨n2, y2, h2⟩ := hfd 2 _ rfl
  have k0 : Tryd.prog.cellsOf 23 = 2 := by kernel_rfl
  have k1 : Tryd.prog.cellsOf 24 = 1 := by kernel_rfl
  have k2 : Tryd.prog.cellsOf 25 = 1 := by kernel_rfl
  replace h0 : DataW.trod enc Tryd.prog w base spare held n0 23 (([c0, c1, c2, c3].drop 0).take (Tryd.prog.cellsOf 23)) = some y0 := h0
  rw [k0] at h0
  replace h1 : DataW.trod enc Tryd.prog w base spare held n1 24 (([c0, c1, c2, c3].drop 2).take (Tryd.prog.cellsOf 24)) = some y1 := h1
  rw [k1] at h1
  replace h2 : DataW.trod enc Tryd.prog w base spare held n2 25 (([c0, c1, c2, c3].drop 3).take (Tryd.prog.cellsOf 25)) = some y2 := h2
  rw [k2] at h2
  have h0' : DataW.trod enc Tryd.prog w base spare held n0 23 [c0, c1] = some y0 := h0
  obtain ⟨s, q, e0, e1⟩ := trod_id n0 c0 c1 y0 h0'
  have h1' : DataW.trod enc Tryd.prog w base spare held n1 24 [c2] = some y1 := h1
  have h2' : DataW.trod enc Tryd.prog w base spare held n2 25 [c3] = some y2 := h2
  obtain ⟨a, n, c, e2, hn, hnc, rs, hrl, hrr, hro⟩ := trod_rowk readC RdOk 2 (by omega) readC_len Tryd.underlying24 (by kernel_rfl) h1' trod_read
  obtain ⟨b, m, e, e3, hm, hme, ws, hwl, hwr, hwo⟩ := trod_rowk writeC WrOk 4 (by omega) writeC_len Tryd.underlying25 (by kernel_rfl) h2' trod_write
  exact ⟨s, q, a, n, c, b, m, e, rs, ws, ⟨e0, e1, e2, e3⟩, ⟨⟨hrl, hrr⟩, ⟨hwl, hwr⟩⟩, hro, hwo⟩
set_option maxRecDepth 100000 in
theorem trod_cmd (n : Nat) (cs : List Value) (y : DataW H × List MemPlace) (hl : cs.length = 10) (hf : DataW.trod enc Tryd.prog w base spare held n 30 cs = some y) : ∃ z : CE, cs = cmC z ∧ CmAt w z.1 z.2.1 z.2.2 := by
  match cs, hl with
  | [c0, c1, c2, c3, c4, c5, c6, c7, c8, c9], _ =>
    have hfd := trod_field Tryd.underlying30 hf
    obtain ⟨n0, y0, h0⟩ := hfd 0 _ rfl
    obtain ⟨n1, y1, h1⟩ := hfd 1 _ rfl
    obtain ⟨n2, y2, h2⟩ := hfd 2 _ rfl
    obtain ⟨n3, y3, h3⟩ := hfd 3 _ rfl
    obtain ⟨n4, y4, h4⟩ := hfd 4 _ rfl
    obtain ⟨n5, y5, h5⟩ := hfd 5 _ rfl
    have k0 : Tryd.prog.cellsOf 3 = 1 := by kernel_rfl
    have k1 : Tryd.prog.cellsOf 27 = 4 := by kernel_rfl
    have k2 : Tryd.prog.cellsOf 23 = 2 := by kernel_rfl
    have k4 : Tryd.prog.cellsOf 28 = 1 := by kernel_rfl
    have k5 : Tryd.prog.cellsOf 4 = 1 := by kernel_rfl
    replace h0 : DataW.trod enc Tryd.prog w base spare held n0 3 (([c0, c1, c2, c3, c4, c5, c6, c7, c8, c9].drop 0).take (Tryd.prog.cellsOf 3)) = some y0 := h0
    rw [k0] at h0
    replace h1 : DataW.trod enc Tryd.prog w base spare held n1 27 (([c0, c1, c2, c3, c4, c5, c6, c7, c8, c9].drop 1).take (Tryd.prog.cellsOf 27)) = some y1 := h1
    rw [k1] at h1
    replace h2 : DataW.trod enc Tryd.prog w base spare held n2 23 (([c0, c1, c2, c3, c4, c5, c6, c7, c8, c9].drop 5).take (Tryd.prog.cellsOf 23)) = some y2 := h2
    rw [k2] at h2
    replace h3 : DataW.trod enc Tryd.prog w base spare held n3 3 (([c0, c1, c2, c3, c4, c5, c6, c7, c8, c9].drop 7).take (Tryd.prog.cellsOf 3)) = some y3 := h3
    rw [k0] at h3
    replace h4 : DataW.trod enc Tryd.prog w base spare held n4 28 (([c0, c1, c2, c3, c4, c5, c6, c7, c8, c9].drop 8).take (Tryd.prog.cellsOf 28)) = some y4 := h4
    rw [k4] at h4
    replace h5 : DataW.trod enc Tryd.prog w base spare held n5 4 (([c0, c1, c2, c3, c4, c5, c6, c7, c8, c9].drop 9).take (Tryd.prog.cellsOf 4)) = some y5 := h5
    rw [k5] at h5
    have h1' : DataW.trod enc Tryd.prog w base spare held n1 27 [c1, c2, c3, c4] = some y1 := h1
    have h2' : DataW.trod enc Tryd.prog w base spare held n2 23 [c5, c6] = some y2 := h2
    obtain ⟨k, e0, _, _⟩ := DataW.trod_int Tryd.underlying3 h0
    obtain ⟨s, q, a, n, c, b, m, e, rs, ws, ⟨e1, e2, e3, e4⟩, hT⟩ := trod_txn n1 c1 c2 c3 c4 y1 h1'
    obtain ⟨i, j, e5, e6⟩ := trod_id n2 c5 c6 y2 h2'
    obtain ⟨g, e7, _, _⟩ := DataW.trod_int Tryd.underlying3 h3
    obtain ⟨u, e8, _, wu⟩ := DataW.trod_int Tryd.underlying28 h4
    obtain ⟨x, e9, _⟩ := DataW.trod_bool Tryd.underlying4 h5
    simp at e0 e7 e8 e9
    subst e0; subst e1; subst e2; subst e3; subst e4; subst e5; subst e6; subst e7; subst e8; subst e9
    obtain ⟨u, rfl, hu⟩ := u64_of wu
    exact ⟨(⟨k, s, q, a, n, c, b, m, e, i, j, g, u, x⟩, rs, ws), rfl, hT, hu⟩
set_option maxRecDepth 100000 in
theorem open_command {v : Value} {d : DataW H} {p : List MemPlace}
    (hv : Value.okWide Tryd.prog w r b0 30 v) (h : DataW.Trod enc Tryd.prog w base spare held 30 v d p) :
    ∃ (x : CmM) (rs : List RdM) (ws : List WrM), v = .agg (cmV x) ∧ CmAt w x rs ws := by
  obtain ⟨cs, rfl, hl, fuel, y, hf⟩ := open_agg Tryd.underlying30 hv h
  have hc : Tryd.prog.cellsOf 30 = 10 := by kernel_rfl
  rw [hc] at hl
  obtain ⟨z, rfl, hz⟩ := trod_cmd fuel cs y hl hf
  exact ⟨z.1, z.2.1, z.2.2, rfl, hz⟩
set_option maxRecDepth 100000 in
theorem open_commands {v : Value} {d : DataW H} {p : List MemPlace} (hv : Value.okWide Tryd.prog w r b0 52 v) (h : DataW.Trod enc Tryd.prog w base spare held 52 v d p) :
    ∃ a n c L, v = .slice a n c ∧ n ≤ c ∧ c ≤ maxLen ∧ CmsAt w a n L := by
  obtain ⟨a, n, c, rfl⟩ := okWide_slice Tryd.underlying52 hv
  obtain ⟨fuel, hf⟩ := h
  obtain ⟨a, n, c, e, hn, hc, L, hl, hr, hz⟩ := trod_rowk cmC (fun z : CE => CmAt w z.1 z.2.1 z.2.2) 10 (by omega) cmC_len Tryd.underlying52 (by kernel_rfl) hf trod_cmd
  exact ⟨a, n, c, L, e, hn, hc, ⟨hl, hr⟩, hz⟩
end

end Go.Proofs.YtpkbjbhmghdnoaaDoor
