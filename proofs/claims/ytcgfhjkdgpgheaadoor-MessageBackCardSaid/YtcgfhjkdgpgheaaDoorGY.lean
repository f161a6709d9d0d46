/- What came in, opened: a struct of one-cell fields, by value. No condition. What came in, opened: a value by value. No condition. What came in, opened: a transaction by value. No condition. -/
import Derived.Test.YtcgfhjkdgpgheaaDoorCodeOpen
import Derived.Deep.Fields
import Derived.Deep.Slices
import Derived.Test.YtcgfhjkdgpgheaaDoorValueKey
import Derived.Test.YtcgfhjkdgpgheaaDoorGD
import Derived.Test.YtcgfhjkdgpgheaaDoorGI
/- OpenStruct -/
namespace Go.Proofs.YtcgfhjkdgpgheaaDoor

open Go.ChangeShapes Go.WideShapes Go.ChangeAt Go.RowKit

section

variable {H : Type} {enc : TypeId × Value → H} {P : Program} {w : World} {base : Nat} {spare : Nat → Bool} {held : Bool}

theorem open_struct {r : Reach} {b0 : Nat} {t : TypeId} {fs : Array Field} {v : Value} {d : DataW H} {p : List MemPlace} (ht : P.underlying t = some (.struct fs)) (hone : Deep.oneCellFields P fs = true) (hC : P.cellsOf t = fs.size)
    (hv : Value.okWide P w r b0 t v) (h : DataW.Trod enc P w base spare held t v d p) :
    ∃ cs : List Value, v = .agg ⟨cs⟩ ∧ ∃ hl : cs.length = fs.size, ∀ (j : Nat) (f : Field) (hj : fs[j]? = some f), ∃ (k : Nat) (y : DataW H × List MemPlace), DataW.trod enc P w base spare held k f.type [cs[j]'(by have := (Array.getElem?_eq_some_iff.1 hj).1; omega)] = some y := by
  simp only [Value.okWide, ht] at hv
  obtain ⟨cs, rfl, hsz, _⟩ := hv
  obtain ⟨fuel, hf⟩ := h
  obtain ⟨l⟩ := cs
  have hl : l.length = fs.size := hsz.trans hC
  refine ⟨l, rfl, hl, fun j f hj => ?_⟩
  obtain ⟨ys, n', _, _, _, hyl, hg⟩ := DataW.trod_struct ht hf
  obtain ⟨ho, hk⟩ := Deep.hone_of hone j f hj
  have hjl : j < fs.size := (Array.getElem?_eq_some_iff.1 hj).1
  have h1 := hg j f hj
  rw [ho, hk] at h1
  have h2 : ((Value.agg ⟨l⟩).cells.toList.drop j).take 1 = [l[j]'(by omega)] := by
    show (l.drop j).take 1 = _
    rw [List.drop_eq_getElem_cons (by omega)]; rfl
  rw [h2, List.getElem?_eq_getElem (by omega)] at h1
  exact ⟨_, _, h1⟩
end

end Go.Proofs.YtcgfhjkdgpgheaaDoor

/- ValueOpenOne -/
namespace Go.Proofs.YtcgfhjkdgpgheaaDoor

open Go.ChangeShapes Go.WideShapes Go.ChangeAt Go.RowKit

theorem u64_of {x : Int} (wx : (Lit.int .u64 x).wf = true) : ∃ n : Nat, x = (n : Int) ∧ n < 18446744073709551616 := by
  have bx : 0 ≤ x ∧ x < 18446744073709551616 := by simp [Lit.wf, IntKind.min, IntKind.max, IntKind.bits, IntKind.signed] at wx; omega
  obtain ⟨x, rfl⟩ := Int.eq_ofNat_of_zero_le bx.1
  exact ⟨x, rfl, by omega⟩
set_option maxRecDepth 100000 in
theorem open_value {H : Type} {enc : TypeId × Value → H} {w : World} {base b0 : Nat} {r : Reach} {spare : Nat → Bool} {held : Bool} {v : Value} {d : DataW H} {p : List MemPlace}
    (hv : Value.okWide Tryd.prog w r b0 35 v) (h : DataW.Trod enc Tryd.prog w base spare held 35 v d p) :
    ∃ (k : Int) (b : Nat) (t : ByteArray), v = .agg #[.int .i64 k, .int .u64 (b : Nat), .string t] ∧ b < 18446744073709551616 ∧ t.size ≤ maxLen := by
  obtain ⟨cs, rfl, hl, hj⟩ := open_struct Tryd.underlying35 (by kernel_rfl) (by kernel_rfl) hv h
  match cs, hl with
  | [c0, c1, c2], _ =>
    obtain ⟨_, _, h0⟩ := hj 0 _ rfl
    obtain ⟨_, _, h1⟩ := hj 1 _ rfl
    obtain ⟨_, _, h2⟩ := hj 2 _ rfl
    obtain ⟨x, e0, _, _⟩ := DataW.trod_int Tryd.underlying3 h0
    obtain ⟨y, e1, _, wy⟩ := DataW.trod_int Tryd.underlying31 h1
    obtain ⟨z, e2, _, hz⟩ := DataW.trod_string Tryd.underlying9 h2
    simp at e0 e1 e2
    subst e0; subst e1; subst e2
    obtain ⟨y, rfl, hy⟩ := u64_of wy
    exact ⟨x, y, z, rfl, hy, hz⟩
end Go.Proofs.YtcgfhjkdgpgheaaDoor

/- TxnOpen -/
namespace Go.Proofs.YtcgfhjkdgpgheaaDoor

open Go.ChangeShapes Go.WideShapes Go.ChangeAt Go.RowKit

section

variable {H : Type} {enc : TypeId × Value → H} {w : World} {base b0 : Nat} {r : Reach} {spare : Nat → Bool} {held : Bool}

set_option maxRecDepth 100000 in
theorem trod_read (n : Nat) (cs : List Value) (y : DataW H × List MemPlace) (hl : cs.length = 2) (h : DataW.trod enc Tryd.prog w base spare held n 93 cs = some y) : ∃ z : RdM, cs = readC z ∧ RdOk z := by
  match cs, hl with
  | [c0, c1], _ =>
    have hfd := trod_field Tryd.underlying93 h
    obtain ⟨n0, y0, h0⟩ := hfd 0 _ rfl
    obtain ⟨n1, y1, h1⟩ := hfd 1 _ rfl
    have k0 : Tryd.prog.cellsOf 9 = 1 := by kernel_rfl
    have k1 : Tryd.prog.cellsOf 31 = 1 := by kernel_rfl
    replace h0 : DataW.trod enc Tryd.prog w base spare held n0 9 (([c0, c1].drop 0).take (Tryd.prog.cellsOf 9)) = some y0 := h0
    rw [k0] at h0
    replace h1 : DataW.trod enc Tryd.prog w base spare held n1 31 (([c0, c1].drop 1).take (Tryd.prog.cellsOf 31)) = some y1 := h1
    rw [k1] at h1
    obtain ⟨z, e0, _, hz⟩ := DataW.trod_string Tryd.underlying9 h0
    obtain ⟨x, e1, _, wx⟩ := DataW.trod_int Tryd.underlying31 h1
    simp at e0 e1
    subst e0; subst e1
    obtain ⟨x, rfl, hx⟩ := u64_of wx
    exact ⟨(z, x), rfl, hz, hx⟩
set_option maxRecDepth 100000 in
theorem trod_write (n : Nat) (cs : List Value) (y : DataW H × List MemPlace) (hl : cs.length = 4) (h : DataW.trod enc Tryd.prog w base spare held n 95 cs = some y) : ∃ z : WrM, cs = writeC z ∧ WrOk z := by
  match cs, hl with
  | [c0, c1, c2, c3], _ =>
    have hfd := trod_field Tryd.underlying95 h
    obtain ⟨n0, y0, h0⟩ := hfd 0 _ rfl
    obtain ⟨n1, y1, h1⟩ := hfd 1 _ rfl
    have k0 : Tryd.prog.cellsOf 9 = 1 := by kernel_rfl
    have k1 : Tryd.prog.cellsOf 35 = 3 := by kernel_rfl
    have k2 : Tryd.prog.cellsOf 31 = 1 := by kernel_rfl
    have k3 : Tryd.prog.cellsOf 3 = 1 := by kernel_rfl
    replace h0 : DataW.trod enc Tryd.prog w base spare held n0 9 (([c0, c1, c2, c3].drop 0).take (Tryd.prog.cellsOf 9)) = some y0 := h0
    rw [k0] at h0
    replace h1 : DataW.trod enc Tryd.prog w base spare held n1 35 (([c0, c1, c2, c3].drop 1).take (Tryd.prog.cellsOf 35)) = some y1 := h1
    rw [k1] at h1
    replace h1 : DataW.trod enc Tryd.prog w base spare held n1 35 [c1, c2, c3] = some y1 := h1
    have hfv := trod_field Tryd.underlying35 h1
    obtain ⟨m0, u0, g0⟩ := hfv 0 _ rfl
    obtain ⟨m1, u1, g1⟩ := hfv 1 _ rfl
    obtain ⟨m2, u2, g2⟩ := hfv 2 _ rfl
    replace g0 : DataW.trod enc Tryd.prog w base spare held m0 3 (([c1, c2, c3].drop 0).take (Tryd.prog.cellsOf 3)) = some u0 := g0
    rw [k3] at g0
    replace g1 : DataW.trod enc Tryd.prog w base spare held m1 31 (([c1, c2, c3].drop 1).take (Tryd.prog.cellsOf 31)) = some u1 := g1
    rw [k2] at g1
    replace g2 : DataW.trod enc Tryd.prog w base spare held m2 9 (([c1, c2, c3].drop 2).take (Tryd.prog.cellsOf 9)) = some u2 := g2
    rw [k0] at g2
    obtain ⟨z, e0, _, hz⟩ := DataW.trod_string Tryd.underlying9 h0
    obtain ⟨x, e1, _, _⟩ := DataW.trod_int Tryd.underlying3 g0
    obtain ⟨u, e2, _, wu⟩ := DataW.trod_int Tryd.underlying31 g1
    obtain ⟨t, e3, _, ht⟩ := DataW.trod_string Tryd.underlying9 g2
    simp at e0 e1 e2 e3
    subst e0; subst e1; subst e2; subst e3
    obtain ⟨u, rfl, hu⟩ := u64_of wu
    exact ⟨⟨z, x, u, t⟩, rfl, hz, hu, ht⟩
set_option maxRecDepth 100000 in
theorem open_txn {v : Value} {d : DataW H} {p : List MemPlace}
    (hv : Value.okWide Tryd.prog w r b0 30 v) (h : DataW.Trod enc Tryd.prog w base spare held 30 v d p) :
    ∃ (s q : Int) (a : Option Addr) (n c : Nat) (b : Option Addr) (m e : Nat) (rs : List RdM) (ws : List WrM), v = .agg (txV s q a n c b m e) ∧ (n ≤ c ∧ c ≤ maxLen) ∧ (m ≤ e ∧ e ≤ maxLen) ∧ TxAt w a n b m rs ws := by
  obtain ⟨cs, rfl, hl, fuel, y, hf⟩ := open_agg Tryd.underlying30 hv h
  have hc : Tryd.prog.cellsOf 30 = 4 := by kernel_rfl
  rw [hc] at hl
  match cs, hl with
  | [c0, c1, c2, c3], _ =>
    have hfd := trod_field Tryd.underlying30 hf
    obtain ⟨n0, y0, h0⟩ := hfd 0 _ rfl
    obtain ⟨n1, y1, h1⟩ := hfd 1 _ rfl
    obtain ⟨n2, y2, h2⟩ := hfd 2 _ rfl
    have k0 : Tryd.prog.cellsOf 26 = 2 := by kernel_rfl
    have k1 : Tryd.prog.cellsOf 27 = 1 := by kernel_rfl
    have k2 : Tryd.prog.cellsOf 28 = 1 := by kernel_rfl
    have k3 : Tryd.prog.cellsOf 3 = 1 := by kernel_rfl
    replace h0 : DataW.trod enc Tryd.prog w base spare held n0 26 (([c0, c1, c2, c3].drop 0).take (Tryd.prog.cellsOf 26)) = some y0 := h0
    rw [k0] at h0
    replace h1 : DataW.trod enc Tryd.prog w base spare held n1 27 (([c0, c1, c2, c3].drop 2).take (Tryd.prog.cellsOf 27)) = some y1 := h1
    rw [k1] at h1
    replace h2 : DataW.trod enc Tryd.prog w base spare held n2 28 (([c0, c1, c2, c3].drop 3).take (Tryd.prog.cellsOf 28)) = some y2 := h2
    rw [k2] at h2
    replace h0 : DataW.trod enc Tryd.prog w base spare held n0 26 [c0, c1] = some y0 := h0
    have hfi := trod_field Tryd.underlying26 h0
    obtain ⟨m0, u0, g0⟩ := hfi 0 _ rfl
    obtain ⟨m1, u1, g1⟩ := hfi 1 _ rfl
    replace g0 : DataW.trod enc Tryd.prog w base spare held m0 3 (([c0, c1].drop 0).take (Tryd.prog.cellsOf 3)) = some u0 := g0
    rw [k3] at g0
    replace g1 : DataW.trod enc Tryd.prog w base spare held m1 3 (([c0, c1].drop 1).take (Tryd.prog.cellsOf 3)) = some u1 := g1
    rw [k3] at g1
    obtain ⟨s, e0, _, _⟩ := DataW.trod_int Tryd.underlying3 g0
    obtain ⟨q, e1, _, _⟩ := DataW.trod_int Tryd.underlying3 g1
    simp at e0 e1
    subst e0; subst e1
    have h1' : DataW.trod enc Tryd.prog w base spare held n1 27 [c2] = some y1 := h1
    have h2' : DataW.trod enc Tryd.prog w base spare held n2 28 [c3] = some y2 := h2
    obtain ⟨a, n, c, rfl, hn, hnc, rs, hrl, hrr, hro⟩ := trod_rowk readC RdOk 2 (by omega) readC_len Tryd.underlying27 (by kernel_rfl) h1' trod_read
    obtain ⟨b, m, e, rfl, hm, hme, ws, hwl, hwr, hwo⟩ := trod_rowk writeC WrOk 4 (by omega) writeC_len Tryd.underlying28 (by kernel_rfl) h2' trod_write
    exact ⟨s, q, a, n, c, b, m, e, rs, ws, rfl, ⟨hn, hnc⟩, ⟨hm, hme⟩, ⟨⟨hrl, hrr⟩, ⟨hwl, hwr⟩⟩, hro, hwo⟩
end

end Go.Proofs.YtcgfhjkdgpgheaaDoor
