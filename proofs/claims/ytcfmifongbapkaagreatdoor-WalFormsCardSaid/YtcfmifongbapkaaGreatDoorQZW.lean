
/- What came in, opened: an id, a transaction, as fields of a struct. No condition. What came in, opened: a record by value, a list of records. No condition. What utf8's tables hold, as the walks ask for it. No condition but that they read as they are listed. -/
import Derived.Test.YtcfmifongbapkaaGreatDoorQZV
import Derived.Test.YtcfmifongbapkaaGreatDoorQZU
import Derived.Test.YtcfmifongbapkaaGreatDoorQR
import Derived.Test.YtcfmifongbapkaaGreatDoorRows
import Derived.Test.YtcfmifongbapkaaGreatDoorQW
import Derived.Lib.LaidU8T
import Derived.PinnedBridge
/- TxnTrod -/
namespace Go.Proofs.YtcfmifongbapkaaGreatDoor

open Go.ChangeShapes Go.WideShapes Go.ChangeAt Go.RowKit

section

variable {H : Type} {enc : TypeId × Value → H} {w : World} {base b0 : Nat} {r : Reach} {spare : Nat → Bool} {held : Bool}

set_option maxRecDepth 100000 in
theorem trod_id (n : Nat) (c0 c1 : Value) (y : DataW H × List MemPlace) (h : DataW.trod enc Tryz.prog w base spare held n 26 [c0, c1] = some y) : ∃ s q : Int, c0 = .int .i64 s ∧ c1 = .int .i64 q := by
  have k3 : Tryz.prog.cellsOf 3 = 1 := by kernel_rfl
  have hfi := trod_field Tryz.underlying26 h
  obtain ⟨m0, u0, g0⟩ := hfi 0 _ rfl
  obtain ⟨m1, u1, g1⟩ := hfi 1 _ rfl
  replace g0 : DataW.trod enc Tryz.prog w base spare held m0 3 (([c0, c1].drop 0).take (Tryz.prog.cellsOf 3)) = some u0 := g0
  rw [k3] at g0
  replace g1 : DataW.trod enc Tryz.prog w base spare held m1 3 (([c0, c1].drop 1).take (Tryz.prog.cellsOf 3)) = some u1 := g1
  rw [k3] at g1
  obtain ⟨s, e0, _, _⟩ := DataW.trod_int Tryz.underlying3 g0
  obtain ⟨q, e1, _, _⟩ := DataW.trod_int Tryz.underlying3 g1
  simp at e0 e1
  exact ⟨s, q, e0, e1⟩
set_option maxRecDepth 100000 in
theorem trod_txn (n : Nat) (c0 c1 c2 c3 : Value) (y : DataW H × List MemPlace) (hf : DataW.trod enc Tryz.prog w base spare held n 30 [c0, c1, c2, c3] = some y) :
    ∃ (s q : Int) (a : Option Addr) (n c : Nat) (b : Option Addr) (m e : Nat) (rs : List RdM) (ws : List WrM), (c0 = .int .i64 s ∧ c1 = .int .i64 q ∧ c2 = .slice a n c ∧ c3 = .slice b m e) ∧ TxAt w a n b m rs ws := by
  have hfd := trod_field Tryz.underlying30 hf
  obtain ⟨n0, y0, h0⟩ := hfd 0 _ rfl
  obtain ⟨n1, y1, h1⟩ := hfd 1 _ rfl
  obtain ⟨n2, y2, h2⟩ := hfd 2 _ rfl
  have k0 : Tryz.prog.cellsOf 26 = 2 := by kernel_rfl
  have k1 : Tryz.prog.cellsOf 27 = 1 := by kernel_rfl
  have k2 : Tryz.prog.cellsOf 28 = 1 := by kernel_rfl
  replace h0 : DataW.trod enc Tryz.prog w base spare held n0 26 (([c0, c1, c2, c3].drop 0).take (Tryz.prog.cellsOf 26)) = some y0 := h0
  rw [k0] at h0
  replace h1 : DataW.trod enc Tryz.prog w base spare held n1 27 (([c0, c1, c2, c3].drop 2).take (Tryz.prog.cellsOf 27)) = some y1 := h1
  rw [k1] at h1
  replace h2 : DataW.trod enc Tryz.prog w base spare held n2 28 (([c0, c1, c2, c3].drop 3).take (Tryz.prog.cellsOf 28)) = some y2 := h2
  rw [k2] at h2
  have h0' : DataW.trod enc Tryz.prog w base spare held n0 26 [c0, c1] = some y0 := h0
  obtain ⟨s, q, e0, e1⟩ := trod_id n0 c0 c1 y0 h0'
  have h1' : DataW.trod enc Tryz.prog w base spare held n1 27 [c2] = some y1 := h1
  have h2' : DataW.trod enc Tryz.prog w base spare held n2 28 [c3] = some y2 := h2
  obtain ⟨a, n, c, e2, hn, hnc, rs, hrl, hrr, hro⟩ := trod_rowk readC RdOk 2 (by omega) readC_len Tryz.underlying27 (by kernel_rfl) h1' trod_read
  obtain ⟨b, m, e, e3, hm, hme, ws, hwl, hwr, hwo⟩ := trod_rowk writeC WrOk 4 (by omega) writeC_len Tryz.underlying28 (by kernel_rfl) h2' trod_write
  exact ⟨s, q, a, n, c, b, m, e, rs, ws, ⟨e0, e1, e2, e3⟩, ⟨⟨hrl, hrr⟩, ⟨hwl, hwr⟩⟩, hro, hwo⟩
end

end Go.Proofs.YtcfmifongbapkaaGreatDoor

/- WalOpen -/
namespace Go.Proofs.YtcfmifongbapkaaGreatDoor

open Go.ChangeShapes Go.WideShapes Go.ChangeAt Go.RowKit

set_option linter.unusedVariables false
set_option linter.unusedSimpArgs false
theorem u32_ofw {x : Int} (wx : (Lit.int .u32 x).wf = true) : ∃ n : Nat, x = (n : Int) ∧ n < 4294967296 := by
  have bx : 0 ≤ x ∧ x < 4294967296 := by simp [Lit.wf, IntKind.min, IntKind.max, IntKind.bits, IntKind.signed] at wx; omega
  obtain ⟨x, rfl⟩ := Int.eq_ofNat_of_zero_le bx.1
  exact ⟨x, rfl, by omega⟩
theorem u8c_ofw {x : Int} (wx : (Lit.int .u8 x).wf = true) : ∃ c : UInt8, x = (c.toNat : Int) := by
  have bx : 0 ≤ x ∧ x < 256 := by simp [Lit.wf, IntKind.min, IntKind.max, IntKind.bits, IntKind.signed] at wx; omega
  refine ⟨UInt8.ofNat x.toNat, ?_⟩
  have e : (UInt8.ofNat x.toNat).toNat = x.toNat % 256 := UInt8.toNat_ofNat'
  rw [e]; omega
section

variable {H : Type} {enc : TypeId × Value → H} {w : World} {base b0 : Nat} {r : Reach} {spare : Nat → Bool} {held : Bool}

theorem trod_bytesw (n : Nat) (u : Value) (y : DataW H × List MemPlace) (h : DataW.trod enc Tryz.prog w base spare held n 34 [u] = some y) : ∃ a m c l, u = .slice a m c ∧ BAt w w.heap.size a m l ∧ m ≤ c ∧ c ≤ maxLen := by
  obtain ⟨a, m, c, e, hm, hc, l, hl, hr, _⟩ := trod_row1 (fun z : UInt8 => Value.int .u8 (z.toNat : Int)) (fun _ => True) Tryz.underlying34 (by kernel_rfl) h (fun k v y hv => by
    obtain ⟨x, e, _, wx⟩ := DataW.trod_int Tryz.underlying5 hv
    simp at e
    obtain ⟨z, rfl⟩ := u8c_ofw wx
    exact ⟨z, e, trivial⟩)
  refine ⟨a, m, c, l, e, ⟨hl, ?_⟩, hm, hc⟩
  rcases hr.2 with h0 | ⟨b, off, ha, hb, hcell⟩
  · exact .inl h0
  · exact .inr ⟨b, off, ha, hb, fun i hi => hcell i _ (by simp [List.getElem?_eq_getElem hi])⟩
set_option maxRecDepth 100000 in
theorem trod_balw (n : Nat) (c0 c1 : Value) (y : DataW H × List MemPlace) (h : DataW.trod enc Tryz.prog w base spare held n 24 [c0, c1] = some y) : ∃ (k : Nat) (j : Int), c0 = .int .u32 (k : Nat) ∧ c1 = .int .i64 j ∧ k < 4294967296 := by
  have k0 : Tryz.prog.cellsOf 22 = 1 := by kernel_rfl
  have k1 : Tryz.prog.cellsOf 3 = 1 := by kernel_rfl
  have hfi := trod_field Tryz.underlying24 h
  obtain ⟨m0, u0, g0⟩ := hfi 0 _ rfl
  obtain ⟨m1, u1, g1⟩ := hfi 1 _ rfl
  replace g0 : DataW.trod enc Tryz.prog w base spare held m0 22 (([c0, c1].drop 0).take (Tryz.prog.cellsOf 22)) = some u0 := g0
  rw [k0] at g0
  replace g1 : DataW.trod enc Tryz.prog w base spare held m1 3 (([c0, c1].drop 1).take (Tryz.prog.cellsOf 3)) = some u1 := g1
  rw [k1] at g1
  obtain ⟨s, e0, _, ws⟩ := DataW.trod_int Tryz.underlying22 g0
  obtain ⟨q, e1, _, _⟩ := DataW.trod_int Tryz.underlying3 g1
  simp at e0 e1
  obtain ⟨s, rfl, hs⟩ := u32_ofw ws
  exact ⟨s, q, e0, e1, hs⟩
set_option maxRecDepth 100000 in
theorem trod_cmdw (n : Nat) (c0 c1 c2 c3 c4 c5 c6 c7 c8 c9 : Value) (y : DataW H × List MemPlace) (hf : DataW.trod enc Tryz.prog w base spare held n 33 [c0, c1, c2, c3, c4, c5, c6, c7, c8, c9] = some y) : ∃ (x : CmM) (rs : List RdM) (ws : List WrM), [c0, c1, c2, c3, c4, c5, c6, c7, c8, c9] = (cmV x).toList ∧ CmAt w x rs ws := by
  have hfd := trod_field Tryz.underlying33 hf
  obtain ⟨n0, y0, h0⟩ := hfd 0 _ rfl
  obtain ⟨n1, y1, h1⟩ := hfd 1 _ rfl
  obtain ⟨n2, y2, h2⟩ := hfd 2 _ rfl
  obtain ⟨n3, y3, h3⟩ := hfd 3 _ rfl
  obtain ⟨n4, y4, h4⟩ := hfd 4 _ rfl
  obtain ⟨n5, y5, h5⟩ := hfd 5 _ rfl
  have k0 : Tryz.prog.cellsOf 3 = 1 := by kernel_rfl
  have k1 : Tryz.prog.cellsOf 30 = 4 := by kernel_rfl
  have k2 : Tryz.prog.cellsOf 26 = 2 := by kernel_rfl
  have k4 : Tryz.prog.cellsOf 31 = 1 := by kernel_rfl
  have k5 : Tryz.prog.cellsOf 4 = 1 := by kernel_rfl
  replace h0 : DataW.trod enc Tryz.prog w base spare held n0 3 (([c0, c1, c2, c3, c4, c5, c6, c7, c8, c9].drop 0).take (Tryz.prog.cellsOf 3)) = some y0 := h0
  rw [k0] at h0
  replace h1 : DataW.trod enc Tryz.prog w base spare held n1 30 (([c0, c1, c2, c3, c4, c5, c6, c7, c8, c9].drop 1).take (Tryz.prog.cellsOf 30)) = some y1 := h1
  rw [k1] at h1
  replace h2 : DataW.trod enc Tryz.prog w base spare held n2 26 (([c0, c1, c2, c3, c4, c5, c6, c7, c8, c9].drop 5).take (Tryz.prog.cellsOf 26)) = some y2 := h2
  rw [k2] at h2
  replace h3 : DataW.trod enc Tryz.prog w base spare held n3 3 (([c0, c1, c2, c3, c4, c5, c6, c7, c8, c9].drop 7).take (Tryz.prog.cellsOf 3)) = some y3 := h3
  rw [k0] at h3
  replace h4 : DataW.trod enc Tryz.prog w base spare held n4 31 (([c0, c1, c2, c3, c4, c5, c6, c7, c8, c9].drop 8).take (Tryz.prog.cellsOf 31)) = some y4 := h4
  rw [k4] at h4
  replace h5 : DataW.trod enc Tryz.prog w base spare held n5 4 (([c0, c1, c2, c3, c4, c5, c6, c7, c8, c9].drop 9).take (Tryz.prog.cellsOf 4)) = some y5 := h5
  rw [k5] at h5
  have h1' : DataW.trod enc Tryz.prog w base spare held n1 30 [c1, c2, c3, c4] = some y1 := h1
  have h2' : DataW.trod enc Tryz.prog w base spare held n2 26 [c5, c6] = some y2 := h2
  obtain ⟨k, e0, _, _⟩ := DataW.trod_int Tryz.underlying3 h0
  obtain ⟨s, q, a, n, c, b, m, e, rs, ws, ⟨e1, e2, e3, e4⟩, hT⟩ := trod_txn n1 c1 c2 c3 c4 y1 h1'
  obtain ⟨i, j, e5, e6⟩ := trod_id n2 c5 c6 y2 h2'
  obtain ⟨g, e7, _, _⟩ := DataW.trod_int Tryz.underlying3 h3
  obtain ⟨u, e8, _, wu⟩ := DataW.trod_int Tryz.underlying31 h4
  obtain ⟨x, e9, _⟩ := DataW.trod_bool Tryz.underlying4 h5
  simp at e0 e7 e8 e9
  subst e0; subst e1; subst e2; subst e3; subst e4; subst e5; subst e6; subst e7; subst e8; subst e9
  obtain ⟨u, rfl, hu⟩ := u64_of wu
  exact ⟨⟨k, s, q, a, n, c, b, m, e, i, j, g, u, x⟩, rs, ws, rfl, hT, hu⟩
set_option maxRecDepth 100000 in
theorem trod_rec (n : Nat) (cs : List Value) (y : DataW H × List MemPlace) (hl : cs.length = 15) (hf : DataW.trod enc Tryz.prog w base spare held n 36 cs = some y) : ∃ z : RE, cs = rcC z ∧ RcAt w z.1 z.2 := by
  match cs, hl with
  | [c0, c1, c2, c3, c4, c5, c6, c7, c8, c9, c10, c11, c12, c13, c14], _ =>
    have hfd := trod_field Tryz.underlying36 hf
    obtain ⟨n0, y0, h0⟩ := hfd 0 _ rfl
    obtain ⟨n1, y1, h1⟩ := hfd 1 _ rfl
    obtain ⟨n2, y2, h2⟩ := hfd 2 _ rfl
    obtain ⟨n3, y3, h3⟩ := hfd 3 _ rfl
    obtain ⟨n4, y4, h4⟩ := hfd 4 _ rfl
    have k0 : Tryz.prog.cellsOf 3 = 1 := by kernel_rfl
    have k1 : Tryz.prog.cellsOf 24 = 2 := by kernel_rfl
    have k2 : Tryz.prog.cellsOf 33 = 10 := by kernel_rfl
    have k3 : Tryz.prog.cellsOf 34 = 1 := by kernel_rfl
    replace h0 : DataW.trod enc Tryz.prog w base spare held n0 3 (([c0, c1, c2, c3, c4, c5, c6, c7, c8, c9, c10, c11, c12, c13, c14].drop 0).take (Tryz.prog.cellsOf 3)) = some y0 := h0
    rw [k0] at h0
    replace h1 : DataW.trod enc Tryz.prog w base spare held n1 24 (([c0, c1, c2, c3, c4, c5, c6, c7, c8, c9, c10, c11, c12, c13, c14].drop 1).take (Tryz.prog.cellsOf 24)) = some y1 := h1
    rw [k1] at h1
    replace h2 : DataW.trod enc Tryz.prog w base spare held n2 3 (([c0, c1, c2, c3, c4, c5, c6, c7, c8, c9, c10, c11, c12, c13, c14].drop 3).take (Tryz.prog.cellsOf 3)) = some y2 := h2
    rw [k0] at h2
    replace h3 : DataW.trod enc Tryz.prog w base spare held n3 33 (([c0, c1, c2, c3, c4, c5, c6, c7, c8, c9, c10, c11, c12, c13, c14].drop 4).take (Tryz.prog.cellsOf 33)) = some y3 := h3
    rw [k2] at h3
    replace h4 : DataW.trod enc Tryz.prog w base spare held n4 34 (([c0, c1, c2, c3, c4, c5, c6, c7, c8, c9, c10, c11, c12, c13, c14].drop 14).take (Tryz.prog.cellsOf 34)) = some y4 := h4
    rw [k3] at h4
    have h1' : DataW.trod enc Tryz.prog w base spare held n1 24 [c1, c2] = some y1 := h1
    have h3' : DataW.trod enc Tryz.prog w base spare held n3 33 [c4, c5, c6, c7, c8, c9, c10, c11, c12, c13] = some y3 := h3
    have h4' : DataW.trod enc Tryz.prog w base spare held n4 34 [c14] = some y4 := h4
    obtain ⟨k, e0, _, _⟩ := DataW.trod_int Tryz.underlying3 h0
    obtain ⟨br, bn, e1, e2, hbr⟩ := trod_balw n1 c1 c2 y1 h1'
    obtain ⟨sl, e3, _, _⟩ := DataW.trod_int Tryz.underlying3 h2
    obtain ⟨x, rs, ws, e4, hX⟩ := trod_cmdw n3 c4 c5 c6 c7 c8 c9 c10 c11 c12 c13 y3 h3'
    obtain ⟨a, m, c, l, e14, hl, _, _⟩ := trod_bytesw n4 c14 y4 h4'
    simp at e0 e3
    have hx : [c4, c5, c6, c7, c8, c9, c10, c11, c12, c13] = [.int .i64 x.k, .int .i64 x.s, .int .i64 x.q, .slice x.a x.n x.c, .slice x.b x.m x.d, .int .i64 x.i, .int .i64 x.j, .int .i64 x.g, .int .u64 ((x.st : Nat) : Int), .bool x.y] := e4
    simp only [List.cons.injEq, and_true] at hx
    obtain ⟨f0, f1, f2, f3, f4, f5, f6, f7, f8, f9⟩ := hx
    refine ⟨(⟨k, br, bn, sl, x, a, m, c⟩, ⟨rs, ws, l⟩), ?_, hX, hl, hbr⟩
    rw [e0, e1, e2, e3, f0, f1, f2, f3, f4, f5, f6, f7, f8, f9, e14]; rfl
set_option maxRecDepth 100000 in
theorem open_record {v : Value} {d : DataW H} {p : List MemPlace}
    (hv : Value.okWide Tryz.prog w r b0 36 v) (h : DataW.Trod enc Tryz.prog w base spare held 36 v d p) :
    ∃ (x : RcM) (L : RcL), v = .agg (rcV x) ∧ RcAt w x L := by
  obtain ⟨cs, rfl, hl, fuel, y, hf⟩ := open_agg Tryz.underlying36 hv h
  have hc : Tryz.prog.cellsOf 36 = 15 := by kernel_rfl
  rw [hc] at hl
  obtain ⟨z, rfl, hz⟩ := trod_rec fuel cs y hl hf
  exact ⟨z.1, z.2, rfl, hz⟩
end

end Go.Proofs.YtcfmifongbapkaaGreatDoor

/- ValueLaidU -/
namespace Go.Proofs.YtcfmifongbapkaaGreatDoor

open Go.RowKit Go.Lib

theorem utf8_cells {w : World} (h3 : VarReads Tryz.prog w "unicode/utf8.first" Rows.laid_unicode_utf8_first) (h4 : VarReads Tryz.prog w "unicode/utf8.acceptRanges" Rows.laid_unicode_utf8_acceptRanges) : Tabs w :=
  utf8Tabs_of_readsT (U8Types.of196 Tryz.laysValid) ⟨by kernel_rfl, by kernel_rfl, by kernel_rfl, by kernel_rfl, by kernel_rfl, by kernel_rfl, by kernel_rfl⟩ (Go.Pinned.utf8First_eq ▸ h3) h4
end Go.Proofs.YtcfmifongbapkaaGreatDoor
