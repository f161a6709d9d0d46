/- What came in, opened: a transaction by value. No condition. -/
import Derived.Test.YtpkbjbhmghdnoaaDoorGD
import Derived.Test.YtpkbjbhmghdnoaaDoorGI
import Derived.Test.YtpkbjbhmghdnoaaDoorValueOpenOne
namespace Go.Proofs.YtpkbjbhmghdnoaaDoor

open Go.ChangeShapes Go.WideShapes Go.ChangeAt Go.RowKit

section

variable {H : Type} {enc : TypeId × Value → H} {w : World} {base b0 : Nat} {r : Reach} {spare : Nat → Bool} {held : Bool}

set_option maxRecDepth 100000 in
theorem trod_read (n : Nat) (cs : List Value) (y : DataW H × List MemPlace) (hl : cs.length = 2) (h : DataW.trod enc Tryd.prog w base spare held n 78 cs = some y) : ∃ z : RdM, cs = readC z ∧ RdOk z := by
  match cs, hl with
  | [c0, c1], _ =>
    have hfd := trod_field Tryd.underlying78 h
    obtain ⟨n0, y0, h0⟩ := hfd 0 _ rfl
    obtain ⟨n1, y1, h1⟩ := hfd 1 _ rfl
    have k0 : Tryd.prog.cellsOf 9 = 1 := by kernel_rfl
    have k1 : Tryd.prog.cellsOf 28 = 1 := by kernel_rfl
    replace h0 : DataW.trod enc Tryd.prog w base spare held n0 9 (([c0, c1].drop 0).take (Tryd.prog.cellsOf 9)) = some y0 := h0
    rw [k0] at h0
    replace h1 : DataW.trod enc Tryd.prog w base spare held n1 28 (([c0, c1].drop 1).take (Tryd.prog.cellsOf 28)) = some y1 := h1
    rw [k1] at h1
    obtain ⟨z, e0, _, hz⟩ := DataW.trod_string Tryd.underlying9 h0
    obtain ⟨x, e1, _, wx⟩ := DataW.trod_int Tryd.underlying28 h1
    simp at e0 e1
    subst e0; subst e1
    obtain ⟨x, rfl, hx⟩ := u64_of wx
    exact ⟨(z, x), rfl, hz, hx⟩
set_option maxRecDepth 100000 in
theorem trod_write (n : Nat) (cs : List Value) (y : DataW H × List MemPlace) (hl : cs.length = 4) (h : DataW.trod enc Tryd.prog w base spare held n 82 cs = some y) : ∃ z : WrM, cs = writeC z ∧ WrOk z := by
  match cs, hl with
  | [c0, c1, c2, c3], _ =>
    have hfd := trod_field Tryd.underlying82 h
    obtain ⟨n0, y0, h0⟩ := hfd 0 _ rfl
    obtain ⟨n1, y1, h1⟩ := hfd 1 _ rfl
    have k0 : Tryd.prog.cellsOf 9 = 1 := by kernel_rfl
    have k1 : Tryd.prog.cellsOf 80 = 3 := by kernel_rfl
    have k2 : Tryd.prog.cellsOf 28 = 1 := by kernel_rfl
    have k3 : Tryd.prog.cellsOf 3 = 1 := by kernel_rfl
    replace h0 : DataW.trod enc Tryd.prog w base spare held n0 9 (([c0, c1, c2, c3].drop 0).take (Tryd.prog.cellsOf 9)) = some y0 := h0
    rw [k0] at h0
    replace h1 : DataW.trod enc Tryd.prog w base spare held n1 80 (([c0, c1, c2, c3].drop 1).take (Tryd.prog.cellsOf 80)) = some y1 := h1
    rw [k1] at h1
    replace h1 : DataW.trod enc Tryd.prog w base spare held n1 80 [c1, c2, c3] = some y1 := h1
    have hfv := trod_field Tryd.underlying80 h1
    obtain ⟨m0, u0, g0⟩ := hfv 0 _ rfl
    obtain ⟨m1, u1, g1⟩ := hfv 1 _ rfl
    obtain ⟨m2, u2, g2⟩ := hfv 2 _ rfl
    replace g0 : DataW.trod enc Tryd.prog w base spare held m0 3 (([c1, c2, c3].drop 0).take (Tryd.prog.cellsOf 3)) = some u0 := g0
    rw [k3] at g0
    replace g1 : DataW.trod enc Tryd.prog w base spare held m1 28 (([c1, c2, c3].drop 1).take (Tryd.prog.cellsOf 28)) = some u1 := g1
    rw [k2] at g1
    replace g2 : DataW.trod enc Tryd.prog w base spare held m2 9 (([c1, c2, c3].drop 2).take (Tryd.prog.cellsOf 9)) = some u2 := g2
    rw [k0] at g2
    obtain ⟨z, e0, _, hz⟩ := DataW.trod_string Tryd.underlying9 h0
    obtain ⟨x, e1, _, _⟩ := DataW.trod_int Tryd.underlying3 g0
    obtain ⟨u, e2, _, wu⟩ := DataW.trod_int Tryd.underlying28 g1
    obtain ⟨t, e3, _, ht⟩ := DataW.trod_string Tryd.underlying9 g2
    simp at e0 e1 e2 e3
    subst e0; subst e1; subst e2; subst e3
    obtain ⟨u, rfl, hu⟩ := u64_of wu
    exact ⟨⟨z, x, u, t⟩, rfl, hz, hu, ht⟩
set_option maxRecDepth 100000 in
theorem open_txn {v : Value} {d : DataW H} {p : List MemPlace}
    (hv : Value.okWide Tryd.prog w r b0 27 v) (h : DataW.Trod enc Tryd.prog w base spare held 27 v d p) :
    ∃ (s q : Int) (a : Option Addr) (n c : Nat) (b : Option Addr) (m e : Nat) (rs : List RdM) (ws : List WrM), v = .agg (txV s q a n c b m e) ∧ (n ≤ c ∧ c ≤ maxLen) ∧ (m ≤ e ∧ e ≤ maxLen) ∧ TxAt w a n b m rs ws := by
  obtain ⟨cs, rfl, hl, fuel, y, hf⟩ := open_agg Tryd.underlying27 hv h
  have hc : Tryd.prog.cellsOf 27 = 4 := by kernel_rfl
  rw [hc] at hl
  match cs, hl with
  | [c0, c1, c2, c3], _ =>
    have hfd := trod_field Tryd.underlying27 hf
    obtain ⟨n0, y0, h0⟩ := hfd 0 _ rfl
    obtain ⟨n1, y1, h1⟩ := hfd 1 _ rfl
    obtain ⟨n2, y2, h2⟩ := hfd 2 _ rfl
    have k0 : Tryd.prog.cellsOf 23 = 2 := by kernel_rfl
    have k1 : Tryd.prog.cellsOf 24 = 1 := by kernel_rfl
    have k2 : Tryd.prog.cellsOf 25 = 1 := by kernel_rfl
    have k3 : Tryd.prog.cellsOf 3 = 1 := by kernel_rfl
    replace h0 : DataW.trod enc Tryd.prog w base spare held n0 23 (([c0, c1, c2, c3].drop 0).take (Tryd.prog.cellsOf 23)) = some y0 := h0
    rw [k0] at h0
    replace h1 : DataW.trod enc Tryd.prog w base spare held n1 24 (([c0, c1, c2, c3].drop 2).take (Tryd.prog.cellsOf 24)) = some y1 := h1
    rw [k1] at h1
    replace h2 : DataW.trod enc Tryd.prog w base spare held n2 25 (([c0, c1, c2, c3].drop 3).take (Tryd.prog.cellsOf 25)) = some y2 := h2
    rw [k2] at h2
    replace h0 : DataW.trod enc Tryd.prog w base spare held n0 23 [c0, c1] = some y0 := h0
    have hfi := trod_field Tryd.underlying23 h0
    obtain ⟨m0, u0, g0⟩ := hfi 0 _ rfl
    obtain ⟨m1, u1, g1⟩ := hfi 1 _ rfl
    replace g0 : DataW.trod enc Tryd.prog w base spare held m0 3 (([c0, c1].drop 0).take (Tryd.prog.cellsOf 3)) = some u0 := g0
    rw [k3] at g0
    replace g1 : DataW.trod enc Tryd.prog w base spare held m1 3 (([c0, c1].drop 1).take (Tryd.prog.cellsOf 3)) = some u1 := g1
    rw [k3] at g1
    obtain ⟨s, e0, _, _⟩ := DataW.trod_int Tryd.underlying3 g0
    obtain ⟨q, e1, _, _⟩ := DataW.trod_int Tryd.underlying3 g1
    simp at e0 e1
    subst e0; subst e1
    have h1' : DataW.trod enc Tryd.prog w base spare held n1 24 [c2] = some y1 := h1
    have h2' : DataW.trod enc Tryd.prog w base spare held n2 25 [c3] = some y2 := h2
    obtain ⟨a, n, c, rfl, hn, hnc, rs, hrl, hrr, hro⟩ := trod_rowk readC RdOk 2 (by omega) readC_len Tryd.underlying24 (by kernel_rfl) h1' trod_read
    obtain ⟨b, m, e, rfl, hm, hme, ws, hwl, hwr, hwo⟩ := trod_rowk writeC WrOk 4 (by omega) writeC_len Tryd.underlying25 (by kernel_rfl) h2' trod_write
    exact ⟨s, q, a, n, c, b, m, e, rs, ws, rfl, ⟨hn, hnc⟩, ⟨hm, hme⟩, ⟨⟨hrl, hrr⟩, ⟨hwl, hwr⟩⟩, hro, hwo⟩
end

end Go.Proofs.YtpkbjbhmghdnoaaDoor
