/- What came in, opened: an Op of the law; many of them. No condition. -/
import Derived.Test.YtgdgjgcmglgfmaaOpenA
import Derived.Test.YtgdgjgcmglgfmaaOpenStruct
import Derived.Test.YtgdgjgcmglgfmaaCodeOpen
namespace Go.Proofs.Ytgdgjgcmglgfmaa

open Go.ChangeShapes Go.WideShapes Go.ChangeAt Go.RowKit

set_option linter.unusedVariables false
set_option linter.unusedSimpArgs false

/-- An Op: its kind, link, numbers, and bytes. -/
structure OpM where
  k : Int
  f : Int
  t : Int
  i : Int
  j : Int
  a : Option Addr
  n : Nat
  c : Nat
  l : List UInt8
abbrev opC (x : OpM) : List Value := [.int .i64 x.k, .int .i64 x.f, .int .i64 x.t, .int .i64 x.i, .int .i64 x.j, .slice x.a x.n x.c]
section

variable {H : Type} {enc : TypeId × Value → H} {w : World} {base : Nat} {spare : Nat → Bool} {held : Bool} {r : Reach} {b0 : Nat}

theorem cons_of {α : Type} {n : Nat} {l : List α} (h : l.length = n + 1) : ∃ a r, l = a :: r ∧ r.length = n := by
  cases l with
  | nil => cases h
  | cons a r => exact ⟨a, r, rfl, by simpa using h⟩
theorem u8c_of {x : Int} (wx : (Lit.int .u8 x).wf = true) : ∃ c : UInt8, x = (c.toNat : Int) := by
  have bx : 0 ≤ x ∧ x < 256 := by simp [Lit.wf, IntKind.min, IntKind.max, IntKind.bits, IntKind.signed] at wx; omega
  refine ⟨UInt8.ofNat x.toNat, ?_⟩
  have e : (UInt8.ofNat x.toNat).toNat = x.toNat % 256 := UInt8.toNat_ofNat'
  rw [e]; omega
theorem trod_bytesf (n : Nat) (u : Value) (y : DataW H × List MemPlace) (h : DataW.trod enc Try.prog w base spare held n 32 [u] = some y) : ∃ a m c l, u = .slice a m c ∧ BAt w w.heap.size a m l ∧ m ≤ c ∧ c ≤ maxLen := by
  obtain ⟨a, m, c, e, hm, hc, l, hl, hr, _⟩ := trod_row1 (fun z : UInt8 => Value.int .u8 (z.toNat : Int)) (fun _ => True) Try.underlying32 (by kernel_rfl) h (fun k v y hv => by
    obtain ⟨x, e, _, wx⟩ := DataW.trod_int Try.underlying5 hv
    simp at e
    obtain ⟨z, rfl⟩ := u8c_of wx
    exact ⟨z, e, trivial⟩)
  refine ⟨a, m, c, l, e, ⟨hl, ?_⟩, hm, hc⟩
  rcases hr.2 with h0 | ⟨b, off, ha, hb, hcell⟩
  · exact .inl h0
  · exact .inr ⟨b, off, ha, hb, fun i hi => hcell i _ (by simp [List.getElem?_eq_getElem hi])⟩
def OpOk (w : World) (x : OpM) : Prop := BAt w w.heap.size x.a x.n x.l ∧ x.n ≤ maxLen
set_option maxRecDepth 100000 in
theorem trod_op (n : Nat) (c0 c1 c2 c3 c4 c5 : Value) (y : DataW H × List MemPlace) (h : DataW.trod enc Try.prog w base spare held n 34 [c0, c1, c2, c3, c4, c5] = some y) : ∃ x : OpM, [c0, c1, c2, c3, c4, c5] = opC x ∧ OpOk w x := by
  have k3 : Try.prog.cellsOf 3 = 1 := by kernel_rfl
  have k5 : Try.prog.cellsOf 32 = 1 := by kernel_rfl
  have hfi := trod_field Try.underlying34 h
  obtain ⟨m0, u0, g0⟩ := hfi 0 _ rfl
  obtain ⟨m1, u1, g1⟩ := hfi 1 _ rfl
  obtain ⟨m2, u2, g2⟩ := hfi 2 _ rfl
  obtain ⟨m3, u3, g3⟩ := hfi 3 _ rfl
  obtain ⟨m4, u4, g4⟩ := hfi 4 _ rfl
  obtain ⟨m5, u5, g5⟩ := hfi 5 _ rfl
  replace g0 : DataW.trod enc Try.prog w base spare held m0 3 (([c0, c1, c2, c3, c4, c5].drop 0).take (Try.prog.cellsOf 3)) = some u0 := g0
  replace g1 : DataW.trod enc Try.prog w base spare held m1 3 (([c0, c1, c2, c3, c4, c5].drop 1).take (Try.prog.cellsOf 3)) = some u1 := g1
  replace g2 : DataW.trod enc Try.prog w base spare held m2 3 (([c0, c1, c2, c3, c4, c5].drop 2).take (Try.prog.cellsOf 3)) = some u2 := g2
  replace g3 : DataW.trod enc Try.prog w base spare held m3 3 (([c0, c1, c2, c3, c4, c5].drop 3).take (Try.prog.cellsOf 3)) = some u3 := g3
  replace g4 : DataW.trod enc Try.prog w base spare held m4 3 (([c0, c1, c2, c3, c4, c5].drop 4).take (Try.prog.cellsOf 3)) = some u4 := g4
  replace g5 : DataW.trod enc Try.prog w base spare held m5 32 (([c0, c1, c2, c3, c4, c5].drop 5).take (Try.prog.cellsOf 32)) = some u5 := g5
  rw [k3] at g0 g1 g2 g3 g4
  rw [k5] at g5
  obtain ⟨x0, e0, _, _⟩ := DataW.trod_int Try.underlying3 g0
  obtain ⟨x1, e1, _, _⟩ := DataW.trod_int Try.underlying3 g1
  obtain ⟨x2, e2, _, _⟩ := DataW.trod_int Try.underlying3 g2
  obtain ⟨x3, e3, _, _⟩ := DataW.trod_int Try.underlying3 g3
  obtain ⟨x4, e4, _, _⟩ := DataW.trod_int Try.underlying3 g4
  simp at e0 e1 e2 e3 e4
  have g5' : DataW.trod enc Try.prog w base spare held m5 32 [c5] = some u5 := g5
  obtain ⟨a, m, c, l, rfl, hl, hm, hc⟩ := trod_bytesf m5 c5 u5 g5'
  exact ⟨⟨x0, x1, x2, x3, x4, a, m, c, l⟩, by rw [e0, e1, e2, e3, e4], hl, Nat.le_trans hm hc⟩
set_option maxRecDepth 100000 in
theorem open_op {v : Value} {d : DataW H} {p : List MemPlace} (hv : Value.okWide Try.prog w r b0 34 v) (h : DataW.Trod enc Try.prog w base spare held 34 v d p) :
    ∃ x : OpM, v = .agg ⟨opC x⟩ ∧ OpOk w x := by
  obtain ⟨cs, rfl, hl, fuel, y, hf⟩ := open_agg Try.underlying34 hv h
  have hc : Try.prog.cellsOf 34 = 6 := by kernel_rfl
  rw [hc] at hl
  obtain ⟨c0, r0, rfl, hl0⟩ := cons_of hl
  obtain ⟨c1, r1, rfl, hl1⟩ := cons_of hl0
  obtain ⟨c2, r2, rfl, hl2⟩ := cons_of hl1
  obtain ⟨c3, r3, rfl, hl3⟩ := cons_of hl2
  obtain ⟨c4, r4, rfl, hl4⟩ := cons_of hl3
  obtain ⟨c5, r5, rfl, hl5⟩ := cons_of hl4
  obtain rfl : r5 = [] := List.eq_nil_of_length_eq_zero hl5
  obtain ⟨x, e, hx⟩ := trod_op fuel c0 c1 c2 c3 c4 c5 y hf
  exact ⟨x, by rw [e], hx⟩
end

end Go.Proofs.Ytgdgjgcmglgfmaa
