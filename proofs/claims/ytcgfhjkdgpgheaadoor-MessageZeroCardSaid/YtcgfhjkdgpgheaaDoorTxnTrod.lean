/- What came in, opened: an id, a transaction, as fields of a struct. No condition. -/
import Derived.Test.YtcgfhjkdgpgheaaDoorGY
namespace Go.Proofs.YtcgfhjkdgpgheaaDoor

open Go.ChangeShapes Go.WideShapes Go.ChangeAt Go.RowKit

section

variable {H : Type} {enc : TypeId × Value → H} {w : World} {base b0 : Nat} {r : Reach} {spare : Nat → Bool} {held : Bool}

set_option maxRecDepth 100000 in
theorem trod_id (n : Nat) (c0 c1 : Value) (y : DataW H × List MemPlace) (h : DataW.trod enc Tryd.prog w base spare held n 26 [c0, c1] = some y) : ∃ s q : Int, c0 = .int .i64 s ∧ c1 = .int .i64 q := by
  have k3 : Tryd.prog.cellsOf 3 = 1 := by kernel_rfl
  have hfi := trod_field Tryd.underlying26 h
  obtain ⟨m0, u0, g0⟩ := hfi 0 _ rfl
  obtain ⟨m1, u1, g1⟩ := hfi 1 _ rfl
  replace g0 : DataW.trod enc Tryd.prog w base spare held m0 3 (([c0, c1].drop 0).take (Tryd.prog.cellsOf 3)) = some u0 := g0
  rw [k3] at g0
  replace g1 : DataW.trod enc Tryd.prog w base spare held m1 3 (([c0, c1].drop 1).take (Tryd.prog.cellsOf 3)) = some u1 := g1
  rw [k3] at g1
  obtain ⟨s, e0, _, _⟩ := DataW.trod_int Tryd.underlying3 g0
  obtain ⟨q, e1, _, _⟩ := DataW.trod_int Tryd.underlying3 g1
  simp at e0 e1
  exact ⟨s, q, e0, e1⟩
set_option maxRecDepth 100000 in
theorem trod_txn (n : Nat) (c0 c1 c2 c3 : Value) (y : DataW H × List MemPlace) (hf : DataW.trod enc Tryd.prog w base spare held n 30 [c0, c1, c2, c3] = some y) :
    ∃ (s q : Int) (a : Option Addr) (n c : Nat) (b : Option Addr) (m e : Nat) (rs : List RdM) (ws : List WrM), (c0 = .int .i64 s ∧ c1 = .int .i64 q ∧ c2 = .slice a n c ∧ c3 = .slice b m e) ∧ TxAt w a n b m rs ws := by
  have hfd := trod_field Tryd.underlying30 hf
  obtain ⟨n0, y0, h0⟩ := hfd 0 _ rfl
  obtain ⟨n1, y1, h1⟩ := hfd 1 _ rfl
  obtain ⟨n2, y2, h2⟩ := hfd 2 _ rfl
  have k0 : Tryd.prog.cellsOf 26 = 2 := by kernel_rfl
  have k1 : Tryd.prog.cellsOf 27 = 1 := by kernel_rfl
  have k2 : Tryd.prog.cellsOf 28 = 1 := by kernel_rfl
  replace h0 : DataW.trod enc Tryd.prog w base spare held n0 26 (([c0, c1, c2, c3].drop 0).take (Tryd.prog.cellsOf 26)) = some y0 := h0
  rw [k0] at h0
  replace h1 : DataW.trod enc Tryd.prog w base spare held n1 27 (([c0, c1, c2, c3].drop 2).take (Tryd.prog.cellsOf 27)) = some y1 := h1
  rw [k1] at h1
  replace h2 : DataW.trod enc Tryd.prog w base spare held n2 28 (([c0, c1, c2, c3].drop 3).take (Tryd.prog.cellsOf 28)) = some y2 := h2
  rw [k2] at h2
  have h0' : DataW.trod enc Tryd.prog w base spare held n0 26 [c0, c1] = some y0 := h0
  obtain ⟨s, q, e0, e1⟩ := trod_id n0 c0 c1 y0 h0'
  have h1' : DataW.trod enc Tryd.prog w base spare held n1 27 [c2] = some y1 := h1
  have h2' : DataW.trod enc Tryd.prog w base spare held n2 28 [c3] = some y2 := h2
  obtain ⟨a, n, c, e2, hn, hnc, rs, hrl, hrr, hro⟩ := trod_rowk readC RdOk 2 (by omega) readC_len Tryd.underlying27 (by kernel_rfl) h1' trod_read
  obtain ⟨b, m, e, e3, hm, hme, ws, hwl, hwr, hwo⟩ := trod_rowk writeC WrOk 4 (by omega) writeC_len Tryd.underlying28 (by kernel_rfl) h2' trod_write
  exact ⟨s, q, a, n, c, b, m, e, rs, ws, ⟨e0, e1, e2, e3⟩, ⟨⟨hrl, hrr⟩, ⟨hwl, hwr⟩⟩, hro, hwo⟩
end

end Go.Proofs.YtcgfhjkdgpgheaaDoor
