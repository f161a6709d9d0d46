/- What came in, opened: an id, a transaction, as fields of a struct. No condition. What came in, opened: a message by value. No condition. -/
import Derived.Test.YtcgfhjkdgpgheaaDoorGY
import Derived.Test.YtcgfhjkdgpgheaaDoorGX
import Derived.Test.YtcgfhjkdgpgheaaDoorGD
/- TxnTrod -/
namespace Go.Proofs.YtcgfhjkdgpgheaaDoor

open Go.ChangeShapes Go.WideShapes Go.ChangeAt Go.RowKit

section

variable {H : Type} {enc : TypeId × Value → H} {w : World} {base b0 : Nat} {r : Reach} {spare : Nat → Bool} {held : Bool}

set_option maxRecDepth 100000 in
theorem trod_id (n : Nat) (c0 c1 : Value) (y : DataW H × List MemPlace) (h : DataW.trod enc Tryd.prog w base spare held n 26 [c0, c1] = some y) : ∃ s q : Int, c0 = .int .i64 s ∧ c1 = .int .i64 q := by
  have k3 : Tryd.prog.cellsOf 3 = 1 := by kernel_rfl
  have hfi := trod_field Tryd.underlying26 h
  obtain ⟨m0, u0, g0⟩ := hfi 0 _ rfl
  obtain ⟨m1, u1, g1⟩ := hfi 1 _ rfl
  replace g0 : DataW.trod enc Tryd.prog w base spare held m0 3 (([c0, c1].drop 0).take (Tryd.prog.cellsOf 3)) = some u0 := g0
  rw [k3] at g0
  replace g1 : DataW.trod enc Tryd.prog w base spare held m1 3 (([c0, c1].drop 1).take (Tryd.prog.cellsOf 3)) = some u1 := g1
  rw [k3] at g1
  obtain ⟨s, e0, _, _⟩ := DataW.trod_int Tryd.underlying3 g0
  obtain ⟨q, e1, _, _⟩ := DataW.trod_int Tryd.underlying3 g1
  simp at e0 e1
  exact ⟨s, q, e0, e1⟩
set_option maxRecDepth 100000 in
theorem trod_txn (n : Nat) (c0 c1 c2 c3 : Value) (y : DataW H × List MemPlace) (hf : DataW.trod enc Tryd.prog w base spare held n 30 [c0, c1, c2, c3] = some y) :
    ∃ (s q : Int) (a : Option Addr) (n c : Nat) (b : Option Addr) (m e : Nat) (rs : List RdM) (ws : List WrM), (c0 = .int .i64 s ∧ c1 = .int .i64 q ∧ c2 = .slice a n c ∧ c3 = .slice b m e) ∧ TxAt w a n b m rs ws := by
  have hfd := trod_field Tryd.underlying30 hf
  obtain ⟨n0, y0, h0⟩ := hfd 0 _ rfl
  obtain ⟨n1, y1, h1⟩ := hfd 1 _ rfl
  obtain ⟨n2, y2, h2⟩ := hfd 2 _ rfl
  have k0 : Tryd.prog.cellsOf 26 = 2 := by kernel_rfl
  have k1 : Tryd.prog.cellsOf 27 = 1 := by kernel_rfl
  have k2 : Tryd.prog.cellsOf 28 = 1 := by kernel_rfl
  replace h0 : DataW.trod enc Tryd.prog w base spare held n0 26 (([c0, c1, c2, c3].drop 0).take (Tryd.prog.cellsOf 26)) = some y0 := h0
  rw [k0] at h0
  replace h1 : DataW.trod enc Tryd.prog w base spare held n1 27 (([c0, c1, c2, c3].drop 2).take (Tryd.prog.cellsOf 27)) = some y1 := h1
  rw [k1] at h1
  replace h2 : DataW.trod enc Tryd.prog w base spare held n2 28 (([c0, c1, c2, c3].drop 3).take (Tryd.prog.cellsOf 28)) = some y2 := h2
  rw [k2] at h2
  have h0' : DataW.trod enc Tryd.prog w base spare held n0 26 [c0, c1] = some y0 := h0
  obtain ⟨s, q, e0, e1⟩ := trod_id n0 c0 c1 y0 h0'
  have h1' : DataW.trod enc Tryd.prog w base spare held n1 27 [c2] = some y1 := h1
  have h2' : DataW.trod enc Tryd.prog w base spare held n2 28 [c3] = some y2 := h2
  obtain ⟨a, n, c, e2, hn, hnc, rs, hrl, hrr, hro⟩ := trod_rowk readC RdOk 2 (by omega) readC_len Tryd.underlying27 (by kernel_rfl) h1' trod_read
  obtain ⟨b, m, e, e3, hm, hme, ws, hwl, hwr, hwo⟩ := trod_rowk writeC WrOk 4 (by omega) writeC_len Tryd.underlying28 (by kernel_rfl) h2' trod_write
  exact ⟨s, q, a, n, c, b, m, e, rs, ws, ⟨e0, e1, e2, e3⟩, ⟨⟨hrl, hrr⟩, ⟨hwl, hwr⟩⟩, hro, hwo⟩
end

end Go.Proofs.YtcgfhjkdgpgheaaDoor

/- MessageOpen -/
namespace Go.Proofs.YtcgfhjkdgpgheaaDoor

open Go.ChangeShapes Go.WideShapes Go.ChangeAt Go.RowKit

set_option linter.unusedVariables false
section

variable {H : Type} {enc : TypeId × Value → H} {w : World} {base b0 : Nat} {r : Reach} {spare : Nat → Bool} {held : Bool}

theorem cons_of {α : Type} {n : Nat} {l : List α} (h : l.length = n + 1) : ∃ a r, l = a :: r ∧ r.length = n := by
  cases l with
  | nil => cases h
  | cons a r => exact ⟨a, r, rfl, by simpa using h⟩
theorem u32c_of {x : Int} (wx : (Lit.int .u32 x).wf = true) : ∃ n : Nat, x = (n : Int) ∧ n < 4294967296 := by
  have bx : 0 ≤ x ∧ x < 4294967296 := by simp [Lit.wf, IntKind.min, IntKind.max, IntKind.bits, IntKind.signed] at wx; omega
  obtain ⟨x, rfl⟩ := Int.eq_ofNat_of_zero_le bx.1
  exact ⟨x, rfl, by omega⟩
theorem u8c_of {x : Int} (wx : (Lit.int .u8 x).wf = true) : ∃ c : UInt8, x = (c.toNat : Int) := by
  have bx : 0 ≤ x ∧ x < 256 := by simp [Lit.wf, IntKind.min, IntKind.max, IntKind.bits, IntKind.signed] at wx; omega
  refine ⟨UInt8.ofNat x.toNat, ?_⟩
  have e : (UInt8.ofNat x.toNat).toNat = x.toNat % 256 := UInt8.toNat_ofNat'
  rw [e]; omega
theorem trod_bytesf (n : Nat) (u : Value) (y : DataW H × List MemPlace) (h : DataW.trod enc Tryd.prog w base spare held n 37 [u] = some y) : ∃ a m c l, u = .slice a m c ∧ BAt w w.heap.size a m l ∧ m ≤ c ∧ c ≤ maxLen := by
  obtain ⟨a, m, c, e, hm, hc, l, hl, hr, _⟩ := trod_row1 (fun z : UInt8 => Value.int .u8 (z.toNat : Int)) (fun _ => True) Tryd.underlying37 (by kernel_rfl) h (fun k v y hv => by
    obtain ⟨x, e, _, wx⟩ := DataW.trod_int Tryd.underlying5 hv
    simp at e
    obtain ⟨z, rfl⟩ := u8c_of wx
    exact ⟨z, e, trivial⟩)
  refine ⟨a, m, c, l, e, ⟨hl, ?_⟩, hm, hc⟩
  rcases hr.2 with h0 | ⟨b, off, ha, hb, hcell⟩
  · exact .inl h0
  · exact .inr ⟨b, off, ha, hb, fun i hi => hcell i _ (by simp [List.getElem?_eq_getElem hi])⟩
set_option maxRecDepth 100000 in
theorem trod_ballotf (n : Nat) (c0 c1 : Value) (y : DataW H × List MemPlace) (h : DataW.trod enc Tryd.prog w base spare held n 24 [c0, c1] = some y) : ∃ (k : Nat) (q : Int), c0 = .int .u32 ((k : Nat) : Int) ∧ c1 = .int .i64 q ∧ k < 4294967296 := by
    have zint : Tryd.prog.cellsOf 3 = 1 := by kernel_rfl
    have zuint32 : Tryd.prog.cellsOf 22 = 1 := by kernel_rfl
    have hfg := trod_field Tryd.underlying24 h
    obtain ⟨ng0, yg0, g0⟩ := hfg 0 _ rfl
    replace g0 : DataW.trod enc Tryd.prog w base spare held ng0 22 (([c0, c1].drop 0).take (Tryd.prog.cellsOf 22)) = some yg0 := g0
    rw [zuint32] at g0
    replace g0 : DataW.trod enc Tryd.prog w base spare held ng0 22 [c0] = some yg0 := g0
    obtain ⟨ng1, yg1, g1⟩ := hfg 1 _ rfl
    replace g1 : DataW.trod enc Tryd.prog w base spare held ng1 3 (([c0, c1].drop 1).take (Tryd.prog.cellsOf 3)) = some yg1 := g1
    rw [zint] at g1
    replace g1 : DataW.trod enc Tryd.prog w base spare held ng1 3 [c1] = some yg1 := g1
    obtain ⟨x, e0, _, wx⟩ := DataW.trod_int Tryd.underlying22 g0
    obtain ⟨q, e1, _, _⟩ := DataW.trod_int Tryd.underlying3 g1
    simp at e0 e1
    obtain ⟨x, rfl, hx⟩ := u32c_of wx
    exact ⟨x, q, e0, e1, hx⟩
set_option maxRecDepth 100000 in
theorem trod_valuef (n : Nat) (c0 c1 c2 : Value) (y : DataW H × List MemPlace) (h : DataW.trod enc Tryd.prog w base spare held n 35 [c0, c1, c2] = some y) : ∃ (k : Int) (b : Nat) (t : ByteArray), c0 = .int .i64 k ∧ c1 = .int .u64 ((b : Nat) : Int) ∧ c2 = .string t ∧ b < 18446744073709551616 ∧ t.size ≤ maxLen := by
    have zint : Tryd.prog.cellsOf 3 = 1 := by kernel_rfl
    have zstring : Tryd.prog.cellsOf 9 = 1 := by kernel_rfl
    have zuint64 : Tryd.prog.cellsOf 31 = 1 := by kernel_rfl
    have hfg := trod_field Tryd.underlying35 h
    obtain ⟨ng0, yg0, g0⟩ := hfg 0 _ rfl
    replace g0 : DataW.trod enc Tryd.prog w base spare held ng0 3 (([c0, c1, c2].drop 0).take (Tryd.prog.cellsOf 3)) = some yg0 := g0
    rw [zint] at g0
    replace g0 : DataW.trod enc Tryd.prog w base spare held ng0 3 [c0] = some yg0 := g0
    obtain ⟨ng1, yg1, g1⟩ := hfg 1 _ rfl
    replace g1 : DataW.trod enc Tryd.prog w base spare held ng1 31 (([c0, c1, c2].drop 1).take (Tryd.prog.cellsOf 31)) = some yg1 := g1
    rw [zuint64] at g1
    replace g1 : DataW.trod enc Tryd.prog w base spare held ng1 31 [c1] = some yg1 := g1
    obtain ⟨ng2, yg2, g2⟩ := hfg 2 _ rfl
    replace g2 : DataW.trod enc Tryd.prog w base spare held ng2 9 (([c0, c1, c2].drop 2).take (Tryd.prog.cellsOf 9)) = some yg2 := g2
    rw [zstring] at g2
    replace g2 : DataW.trod enc Tryd.prog w base spare held ng2 9 [c2] = some yg2 := g2
    obtain ⟨x, e0, _, _⟩ := DataW.trod_int Tryd.underlying3 g0
    obtain ⟨u, e1, _, wu⟩ := DataW.trod_int Tryd.underlying31 g1
    obtain ⟨t, e2, _, ht⟩ := DataW.trod_string Tryd.underlying9 g2
    simp at e0 e1 e2
    obtain ⟨u, rfl, hu⟩ := u64_of wu
    exact ⟨x, u, t, e0, e1, e2, hu, ht⟩
set_option maxRecDepth 100000 in
theorem trod_cmdf (n : Nat) (c0 c1 c2 c3 c4 c5 c6 c7 c8 c9 : Value) (y : DataW H × List MemPlace) (h : DataW.trod enc Tryd.prog w base spare held n 33 [c0, c1, c2, c3, c4, c5, c6, c7, c8, c9] = some y) : ∃ (x : CmM) (rs : List RdM) (ws : List WrM), (c0 = .int .i64 x.k ∧ c1 = .int .i64 x.s ∧ c2 = .int .i64 x.q ∧ c3 = .slice x.a x.n x.c ∧ c4 = .slice x.b x.m x.d ∧ c5 = .int .i64 x.i ∧ c6 = .int .i64 x.j ∧ c7 = .int .i64 x.g ∧ c8 = .int .u64 ((x.st : Nat) : Int) ∧ c9 = .bool x.y) ∧ CmAt w x rs ws := by
    have zapiId : Tryd.prog.cellsOf 26 = 2 := by kernel_rfl
    have zapiTxn : Tryd.prog.cellsOf 30 = 4 := by kernel_rfl
    have zbool : Tryd.prog.cellsOf 4 = 1 := by kernel_rfl
    have zint : Tryd.prog.cellsOf 3 = 1 := by kernel_rfl
    have zuint64 : Tryd.prog.cellsOf 31 = 1 := by kernel_rfl
    have hfg := trod_field Tryd.underlying33 h
    obtain ⟨ng0, yg0, g0⟩ := hfg 0 _ rfl
    replace g0 : DataW.trod enc Tryd.prog w base spare held ng0 3 (([c0, c1, c2, c3, c4, c5, c6, c7, c8, c9].drop 0).take (Tryd.prog.cellsOf 3)) = some yg0 := g0
    rw [zint] at g0
    replace g0 : DataW.trod enc Tryd.prog w base spare held ng0 3 [c0] = some yg0 := g0
    obtain ⟨ng1, yg1, g1⟩ := hfg 1 _ rfl
    replace g1 : DataW.trod enc Tryd.prog w base spare held ng1 30 (([c0, c1, c2, c3, c4, c5, c6, c7, c8, c9].drop 1).take (Tryd.prog.cellsOf 30)) = some yg1 := g1
    rw [zapiTxn] at g1
    replace g1 : DataW.trod enc Tryd.prog w base spare held ng1 30 [c1, c2, c3, c4] = some yg1 := g1
    obtain ⟨ng2, yg2, g2⟩ := hfg 2 _ rfl
    replace g2 : DataW.trod enc Tryd.prog w base spare held ng2 26 (([c0, c1, c2, c3, c4, c5, c6, c7, c8, c9].drop 5).take (Tryd.prog.cellsOf 26)) = some yg2 := g2
    rw [zapiId] at g2
    replace g2 : DataW.trod enc Tryd.prog w base spare held ng2 26 [c5, c6] = some yg2 := g2
    obtain ⟨ng3, yg3, g3⟩ := hfg 3 _ rfl
    replace g3 : DataW.trod enc Tryd.prog w base spare held ng3 3 (([c0, c1, c2, c3, c4, c5, c6, c7, c8, c9].drop 7).take (Tryd.prog.cellsOf 3)) = some yg3 := g3
    rw [zint] at g3
    replace g3 : DataW.trod enc Tryd.prog w base spare held ng3 3 [c7] = some yg3 := g3
    obtain ⟨ng4, yg4, g4⟩ := hfg 4 _ rfl
    replace g4 : DataW.trod enc Tryd.prog w base spare held ng4 31 (([c0, c1, c2, c3, c4, c5, c6, c7, c8, c9].drop 8).take (Tryd.prog.cellsOf 31)) = some yg4 := g4
    rw [zuint64] at g4
    replace g4 : DataW.trod enc Tryd.prog w base spare held ng4 31 [c8] = some yg4 := g4
    obtain ⟨ng5, yg5, g5⟩ := hfg 5 _ rfl
    replace g5 : DataW.trod enc Tryd.prog w base spare held ng5 4 (([c0, c1, c2, c3, c4, c5, c6, c7, c8, c9].drop 9).take (Tryd.prog.cellsOf 4)) = some yg5 := g5
    rw [zbool] at g5
    replace g5 : DataW.trod enc Tryd.prog w base spare held ng5 4 [c9] = some yg5 := g5
    obtain ⟨k, e0, _, _⟩ := DataW.trod_int Tryd.underlying3 g0
    obtain ⟨s, q, a, n, c, b, m, e, rs, ws, ⟨e1, e2, e3, e4⟩, hT⟩ := trod_txn _ _ _ _ _ _ g1
    obtain ⟨i, j, e5, e6⟩ := trod_id _ _ _ _ g2
    obtain ⟨g, e7, _, _⟩ := DataW.trod_int Tryd.underlying3 g3
    obtain ⟨u, e8, _, wu⟩ := DataW.trod_int Tryd.underlying31 g4
    obtain ⟨x, e9, _⟩ := DataW.trod_bool Tryd.underlying4 g5
    simp at e0 e7 e8 e9
    obtain ⟨u, rfl, hu⟩ := u64_of wu
    exact ⟨⟨k, s, q, a, n, c, b, m, e, i, j, g, u, x⟩, rs, ws, ⟨e0, e1, e2, e3, e4, e5, e6, e7, e8, e9⟩, hT, hu⟩
set_option maxRecDepth 100000 in
set_option maxHeartbeats 2000000 in
theorem open_message {v : Value} {d : DataW H} {p : List MemPlace}
    (hv : Value.okWide Tryd.prog w r b0 39 v) (h : DataW.Trod enc Tryd.prog w base spare held 39 v d p) :
    ∃ (x : MgM) (L : MgL), v = .agg (mgV x) ∧ MgAt w x L := by
    obtain ⟨cs, rfl, hl, fuel, y, hf⟩ := open_agg Tryd.underlying39 hv h
    have hc : Tryd.prog.cellsOf 39 = 34 := by kernel_rfl
    rw [hc] at hl
    obtain ⟨c0, r0, rfl, hl0⟩ := cons_of hl
    obtain ⟨c1, r1, rfl, hl1⟩ := cons_of hl0
    obtain ⟨c2, r2, rfl, hl2⟩ := cons_of hl1
    obtain ⟨c3, r3, rfl, hl3⟩ := cons_of hl2
    obtain ⟨c4, r4, rfl, hl4⟩ := cons_of hl3
    obtain ⟨c5, r5, rfl, hl5⟩ := cons_of hl4
    obtain ⟨c6, r6, rfl, hl6⟩ := cons_of hl5
    obtain ⟨c7, r7, rfl, hl7⟩ := cons_of hl6
    obtain ⟨c8, r8, rfl, hl8⟩ := cons_of hl7
    obtain ⟨c9, r9, rfl, hl9⟩ := cons_of hl8
    obtain ⟨c10, r10, rfl, hl10⟩ := cons_of hl9
    obtain ⟨c11, r11, rfl, hl11⟩ := cons_of hl10
    obtain ⟨c12, r12, rfl, hl12⟩ := cons_of hl11
    obtain ⟨c13, r13, rfl, hl13⟩ := cons_of hl12
    obtain ⟨c14, r14, rfl, hl14⟩ := cons_of hl13
    obtain ⟨c15, r15, rfl, hl15⟩ := cons_of hl14
    obtain ⟨c16, r16, rfl, hl16⟩ := cons_of hl15
    obtain ⟨c17, r17, rfl, hl17⟩ := cons_of hl16
    obtain ⟨c18, r18, rfl, hl18⟩ := cons_of hl17
    obtain ⟨c19, r19, rfl, hl19⟩ := cons_of hl18
    obtain ⟨c20, r20, rfl, hl20⟩ := cons_of hl19
    obtain ⟨c21, r21, rfl, hl21⟩ := cons_of hl20
    obtain ⟨c22, r22, rfl, hl22⟩ := cons_of hl21
    obtain ⟨c23, r23, rfl, hl23⟩ := cons_of hl22
    obtain ⟨c24, r24, rfl, hl24⟩ := cons_of hl23
    obtain ⟨c25, r25, rfl, hl25⟩ := cons_of hl24
    obtain ⟨c26, r26, rfl, hl26⟩ := cons_of hl25
    obtain ⟨c27, r27, rfl, hl27⟩ := cons_of hl26
    obtain ⟨c28, r28, rfl, hl28⟩ := cons_of hl27
    obtain ⟨c29, r29, rfl, hl29⟩ := cons_of hl28
    obtain ⟨c30, r30, rfl, hl30⟩ := cons_of hl29
    obtain ⟨c31, r31, rfl, hl31⟩ := cons_of hl30
    obtain ⟨c32, r32, rfl, hl32⟩ := cons_of hl31
    obtain ⟨c33, r33, rfl, hl33⟩ := cons_of hl32
    obtain rfl := List.eq_nil_of_length_eq_zero hl33
    have zuint8 : Tryd.prog.cellsOf 37 = 1 := by kernel_rfl
    have zapiErrno : Tryd.prog.cellsOf 36 = 1 := by kernel_rfl
    have zapiId : Tryd.prog.cellsOf 26 = 2 := by kernel_rfl
    have zapiTxn : Tryd.prog.cellsOf 30 = 4 := by kernel_rfl
    have zapiValue : Tryd.prog.cellsOf 35 = 3 := by kernel_rfl
    have zballotBallot : Tryd.prog.cellsOf 24 = 2 := by kernel_rfl
    have zbool : Tryd.prog.cellsOf 4 = 1 := by kernel_rfl
    have zcommandCommand : Tryd.prog.cellsOf 33 = 10 := by kernel_rfl
    have zint : Tryd.prog.cellsOf 3 = 1 := by kernel_rfl
    have zstring : Tryd.prog.cellsOf 9 = 1 := by kernel_rfl
    have zuint64 : Tryd.prog.cellsOf 31 = 1 := by kernel_rfl
    have hfg := trod_field Tryd.underlying39 hf
    obtain ⟨ng0, yg0, g0⟩ := hfg 0 _ rfl
    replace g0 : DataW.trod enc Tryd.prog w base spare held ng0 3 (([c0, c1, c2, c3, c4, c5, c6, c7, c8, c9, c10, c11, c12, c13, c14, c15, c16, c17, c18, c19, c20, c21, c22, c23, c24, c25, c26, c27, c28, c29, c30, c31, c32, c33].drop 0).take (Tryd.prog.cellsOf 3)) = some yg0 := g0
    rw [zint] at g0
    replace g0 : DataW.trod enc Tryd.prog w base spare held ng0 3 [c0] = some yg0 := g0
    obtain ⟨ng1, yg1, g1⟩ := hfg 1 _ rfl
    replace g1 : DataW.trod enc Tryd.prog w base spare held ng1 24 (([c0, c1, c2, c3, c4, c5, c6, c7, c8, c9, c10, c11, c12, c13, c14, c15, c16, c17, c18, c19, c20, c21, c22, c23, c24, c25, c26, c27, c28, c29, c30, c31, c32, c33].drop 1).take (Tryd.prog.cellsOf 24)) = some yg1 := g1
    rw [zballotBallot] at g1
    replace g1 : DataW.trod enc Tryd.prog w base spare held ng1 24 [c1, c2] = some yg1 := g1
    obtain ⟨ng2, yg2, g2⟩ := hfg 2 _ rfl
    replace g2 : DataW.trod enc Tryd.prog w base spare held ng2 3 (([c0, c1, c2, c3, c4, c5, c6, c7, c8, c9, c10, c11, c12, c13, c14, c15, c16, c17, c18, c19, c20, c21, c22, c23, c24, c25, c26, c27, c28, c29, c30, c31, c32, c33].drop 3).take (Tryd.prog.cellsOf 3)) = some yg2 := g2
    rw [zint] at g2
    replace g2 : DataW.trod enc Tryd.prog w base spare held ng2 3 [c3] = some yg2 := g2
    obtain ⟨ng3, yg3, g3⟩ := hfg 3 _ rfl
    replace g3 : DataW.trod enc Tryd.prog w base spare held ng3 4 (([c0, c1, c2, c3, c4, c5, c6, c7, c8, c9, c10, c11, c12, c13, c14, c15, c16, c17, c18, c19, c20, c21, c22, c23, c24, c25, c26, c27, c28, c29, c30, c31, c32, c33].drop 4).take (Tryd.prog.cellsOf 4)) = some yg3 := g3
    rw [zbool] at g3
    replace g3 : DataW.trod enc Tryd.prog w base spare held ng3 4 [c4] = some yg3 := g3
    obtain ⟨ng4, yg4, g4⟩ := hfg 4 _ rfl
    replace g4 : DataW.trod enc Tryd.prog w base spare held ng4 24 (([c0, c1, c2, c3, c4, c5, c6, c7, c8, c9, c10, c11, c12, c13, c14, c15, c16, c17, c18, c19, c20, c21, c22, c23, c24, c25, c26, c27, c28, c29, c30, c31, c32, c33].drop 5).take (Tryd.prog.cellsOf 24)) = some yg4 := g4
    rw [zballotBallot] at g4
    replace g4 : DataW.trod enc Tryd.prog w base spare held ng4 24 [c5, c6] = some yg4 := g4
    obtain ⟨ng5, yg5, g5⟩ := hfg 5 _ rfl
    replace g5 : DataW.trod enc Tryd.prog w base spare held ng5 33 (([c0, c1, c2, c3, c4, c5, c6, c7, c8, c9, c10, c11, c12, c13, c14, c15, c16, c17, c18, c19, c20, c21, c22, c23, c24, c25, c26, c27, c28, c29, c30, c31, c32, c33].drop 7).take (Tryd.prog.cellsOf 33)) = some yg5 := g5
    rw [zcommandCommand] at g5
    replace g5 : DataW.trod enc Tryd.prog w base spare held ng5 33 [c7, c8, c9, c10, c11, c12, c13, c14, c15, c16] = some yg5 := g5
    obtain ⟨ng6, yg6, g6⟩ := hfg 6 _ rfl
    replace g6 : DataW.trod enc Tryd.prog w base spare held ng6 30 (([c0, c1, c2, c3, c4, c5, c6, c7, c8, c9, c10, c11, c12, c13, c14, c15, c16, c17, c18, c19, c20, c21, c22, c23, c24, c25, c26, c27, c28, c29, c30, c31, c32, c33].drop 17).take (Tryd.prog.cellsOf 30)) = some yg6 := g6
    rw [zapiTxn] at g6
    replace g6 : DataW.trod enc Tryd.prog w base spare held ng6 30 [c17, c18, c19, c20] = some yg6 := g6
    obtain ⟨ng7, yg7, g7⟩ := hfg 7 _ rfl
    replace g7 : DataW.trod enc Tryd.prog w base spare held ng7 26 (([c0, c1, c2, c3, c4, c5, c6, c7, c8, c9, c10, c11, c12, c13, c14, c15, c16, c17, c18, c19, c20, c21, c22, c23, c24, c25, c26, c27, c28, c29, c30, c31, c32, c33].drop 21).take (Tryd.prog.cellsOf 26)) = some yg7 := g7
    rw [zapiId] at g7
    replace g7 : DataW.trod enc Tryd.prog w base spare held ng7 26 [c21, c22] = some yg7 := g7
    obtain ⟨ng8, yg8, g8⟩ := hfg 8 _ rfl
    replace g8 : DataW.trod enc Tryd.prog w base spare held ng8 3 (([c0, c1, c2, c3, c4, c5, c6, c7, c8, c9, c10, c11, c12, c13, c14, c15, c16, c17, c18, c19, c20, c21, c22, c23, c24, c25, c26, c27, c28, c29, c30, c31, c32, c33].drop 23).take (Tryd.prog.cellsOf 3)) = some yg8 := g8
    rw [zint] at g8
    replace g8 : DataW.trod enc Tryd.prog w base spare held ng8 3 [c23] = some yg8 := g8
    obtain ⟨ng9, yg9, g9⟩ := hfg 9 _ rfl
    replace g9 : DataW.trod enc Tryd.prog w base spare held ng9 31 (([c0, c1, c2, c3, c4, c5, c6, c7, c8, c9, c10, c11, c12, c13, c14, c15, c16, c17, c18, c19, c20, c21, c22, c23, c24, c25, c26, c27, c28, c29, c30, c31, c32, c33].drop 24).take (Tryd.prog.cellsOf 31)) = some yg9 := g9
    rw [zuint64] at g9
    replace g9 : DataW.trod enc Tryd.prog w base spare held ng9 31 [c24] = some yg9 := g9
    obtain ⟨ng10, yg10, g10⟩ := hfg 10 _ rfl
    replace g10 : DataW.trod enc Tryd.prog w base spare held ng10 4 (([c0, c1, c2, c3, c4, c5, c6, c7, c8, c9, c10, c11, c12, c13, c14, c15, c16, c17, c18, c19, c20, c21, c22, c23, c24, c25, c26, c27, c28, c29, c30, c31, c32, c33].drop 25).take (Tryd.prog.cellsOf 4)) = some yg10 := g10
    rw [zbool] at g10
    replace g10 : DataW.trod enc Tryd.prog w base spare held ng10 4 [c25] = some yg10 := g10
    obtain ⟨ng11, yg11, g11⟩ := hfg 11 _ rfl
    replace g11 : DataW.trod enc Tryd.prog w base spare held ng11 3 (([c0, c1, c2, c3, c4, c5, c6, c7, c8, c9, c10, c11, c12, c13, c14, c15, c16, c17, c18, c19, c20, c21, c22, c23, c24, c25, c26, c27, c28, c29, c30, c31, c32, c33].drop 26).take (Tryd.prog.cellsOf 3)) = some yg11 := g11
    rw [zint] at g11
    replace g11 : DataW.trod enc Tryd.prog w base spare held ng11 3 [c26] = some yg11 := g11
    obtain ⟨ng12, yg12, g12⟩ := hfg 12 _ rfl
    replace g12 : DataW.trod enc Tryd.prog w base spare held ng12 9 (([c0, c1, c2, c3, c4, c5, c6, c7, c8, c9, c10, c11, c12, c13, c14, c15, c16, c17, c18, c19, c20, c21, c22, c23, c24, c25, c26, c27, c28, c29, c30, c31, c32, c33].drop 27).take (Tryd.prog.cellsOf 9)) = some yg12 := g12
    rw [zstring] at g12
    replace g12 : DataW.trod enc Tryd.prog w base spare held ng12 9 [c27] = some yg12 := g12
    obtain ⟨ng13, yg13, g13⟩ := hfg 13 _ rfl
    replace g13 : DataW.trod enc Tryd.prog w base spare held ng13 31 (([c0, c1, c2, c3, c4, c5, c6, c7, c8, c9, c10, c11, c12, c13, c14, c15, c16, c17, c18, c19, c20, c21, c22, c23, c24, c25, c26, c27, c28, c29, c30, c31, c32, c33].drop 28).take (Tryd.prog.cellsOf 31)) = some yg13 := g13
    rw [zuint64] at g13
    replace g13 : DataW.trod enc Tryd.prog w base spare held ng13 31 [c28] = some yg13 := g13
    obtain ⟨ng14, yg14, g14⟩ := hfg 14 _ rfl
    replace g14 : DataW.trod enc Tryd.prog w base spare held ng14 35 (([c0, c1, c2, c3, c4, c5, c6, c7, c8, c9, c10, c11, c12, c13, c14, c15, c16, c17, c18, c19, c20, c21, c22, c23, c24, c25, c26, c27, c28, c29, c30, c31, c32, c33].drop 29).take (Tryd.prog.cellsOf 35)) = some yg14 := g14
    rw [zapiValue] at g14
    replace g14 : DataW.trod enc Tryd.prog w base spare held ng14 35 [c29, c30, c31] = some yg14 := g14
    obtain ⟨ng15, yg15, g15⟩ := hfg 15 _ rfl
    replace g15 : DataW.trod enc Tryd.prog w base spare held ng15 36 (([c0, c1, c2, c3, c4, c5, c6, c7, c8, c9, c10, c11, c12, c13, c14, c15, c16, c17, c18, c19, c20, c21, c22, c23, c24, c25, c26, c27, c28, c29, c30, c31, c32, c33].drop 32).take (Tryd.prog.cellsOf 36)) = some yg15 := g15
    rw [zapiErrno] at g15
    replace g15 : DataW.trod enc Tryd.prog w base spare held ng15 36 [c32] = some yg15 := g15
    obtain ⟨ng16, yg16, g16⟩ := hfg 16 _ rfl
    replace g16 : DataW.trod enc Tryd.prog w base spare held ng16 37 (([c0, c1, c2, c3, c4, c5, c6, c7, c8, c9, c10, c11, c12, c13, c14, c15, c16, c17, c18, c19, c20, c21, c22, c23, c24, c25, c26, c27, c28, c29, c30, c31, c32, c33].drop 33).take (Tryd.prog.cellsOf 37)) = some yg16 := g16
    rw [zuint8] at g16
    replace g16 : DataW.trod enc Tryd.prog w base spare held ng16 37 [c33] = some yg16 := g16
    obtain ⟨k, e0, _, _⟩ := DataW.trod_int Tryd.underlying3 g0
    obtain ⟨br, bn, e1, e2, hbr⟩ := trod_ballotf _ _ _ _ g1
    obtain ⟨sl, e3, _, _⟩ := DataW.trod_int Tryd.underlying3 g2
    obtain ⟨has, e4, _⟩ := DataW.trod_bool Tryd.underlying4 g3
    obtain ⟨vr, vn, e5, e6, hvr⟩ := trod_ballotf _ _ _ _ g4
    obtain ⟨cm, rs, ws, ⟨e7, e8, e9, e10, e11, e12, e13, e14, e15, e16⟩, hCm⟩ := trod_cmdf _ _ _ _ _ _ _ _ _ _ _ _ g5
    obtain ⟨s, q, a, n, c, b, m, e, rt, wt, ⟨e17, e18, e19, e20⟩, hT⟩ := trod_txn _ _ _ _ _ _ g6
    obtain ⟨i, j, e21, e22⟩ := trod_id _ _ _ _ g7
    obtain ⟨g, e23, _, _⟩ := DataW.trod_int Tryd.underlying3 g8
    obtain ⟨st, e24, _, wst⟩ := DataW.trod_int Tryd.underlying31 g9
    obtain ⟨yy, e25, _⟩ := DataW.trod_bool Tryd.underlying4 g10
    obtain ⟨nu, e26, _, _⟩ := DataW.trod_int Tryd.underlying3 g11
    obtain ⟨key, e27, _, hkey⟩ := DataW.trod_string Tryd.underlying9 g12
    obtain ⟨ver, e28, _, wver⟩ := DataW.trod_int Tryd.underlying31 g13
    obtain ⟨vk, vb, vt, e29, e30, e31, hvb, hvt⟩ := trod_valuef _ _ _ _ _ g14
    obtain ⟨er, e32, _, _⟩ := DataW.trod_int Tryd.underlying36 g15
    obtain ⟨da, dn, dc, dl, e33, hda, _, _⟩ := trod_bytesf _ _ _ g16
    simp at e0 e3 e4 e23 e24 e25 e26 e27 e28 e32
    obtain ⟨st, rfl, hst⟩ := u64_of wst
    obtain ⟨ver, rfl, hver⟩ := u64_of wver
    refine ⟨⟨k, br, bn, sl, has, vr, vn, cm, s, q, a, n, c, b, m, e, i, j, g, st, yy, nu, key, ver, vk, vb, vt, er, da, dn, dc⟩, ⟨rs, ws, rt, wt, dl⟩, ?_, hCm, hT, hda, ⟨hbr, hvr, hst, hver, hvb, hkey, hvt⟩⟩
    rw [e0, e1, e2, e3, e4, e5, e6, e7, e8, e9, e10, e11, e12, e13, e14, e15, e16, e17, e18, e19, e20, e21, e22, e23, e24, e25, e26, e27, e28, e29, e30, e31, e32, e33]
end

end Go.Proofs.YtcgfhjkdgpgheaaDoor
