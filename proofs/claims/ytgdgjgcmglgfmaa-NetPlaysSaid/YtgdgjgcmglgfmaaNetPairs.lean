/- What came in, opened: a list of pairs of bytes. No condition. -/
import Derived.Test.YtgdgjgcmglgfmaaNetOpen
namespace Go.Proofs.Ytgdgjgcmglgfmaa

open Go.ChangeShapes Go.WideShapes Go.ChangeAt Go.RowKit

set_option linter.unusedVariables false
set_option linter.unusedSimpArgs false

/-- A pair's cells. -/
abbrev pairC (x : UInt8 × UInt8) : List Value := [.int .u8 (x.1.toNat : Int), .int .u8 (x.2.toNat : Int)]
section

variable {H : Type} {enc : TypeId × Value → H} {w : World} {base : Nat} {spare : Nat → Bool} {held : Bool} {r : Reach} {b0 : Nat}

set_option maxRecDepth 100000 in
theorem trod_pair (n : Nat) (cs : List Value) (y : DataW H × List MemPlace) (hl : cs.length = 2) (h : DataW.trod enc Try.prog w base spare held n 53 cs = some y) : ∃ z : UInt8 × UInt8, cs = pairC z ∧ True := by
  obtain ⟨c0, r0, rfl, hl0⟩ := cons_of hl
  obtain ⟨c1, r1, rfl, hl1⟩ := cons_of hl0
  obtain rfl : r1 = [] := List.eq_nil_of_length_eq_zero hl1
  obtain ⟨ys, m, _, _, hyl, hn, hi⟩ := DataW.trod_array Try.underlying53 h
  have k5 : Try.prog.cellsOf 5 = 1 := by kernel_rfl
  have g0 := hi 0 (by omega)
  have g1 := hi 1 (by omega)
  rw [k5, List.getElem?_eq_getElem (by omega)] at g0 g1
  obtain ⟨x0, e0, _, w0⟩ := DataW.trod_int Try.underlying5 g0
  obtain ⟨x1, e1, _, w1⟩ := DataW.trod_int Try.underlying5 g1
  simp at e0 e1
  obtain ⟨z0, rfl⟩ := u8c_of w0
  obtain ⟨z1, rfl⟩ := u8c_of w1
  exact ⟨(z0, z1), by rw [e0, e1], trivial⟩
set_option maxRecDepth 100000 in
theorem open_pairs {v : Value} {d : DataW H} {p : List MemPlace} (hv : Value.okWide Try.prog w r b0 51 v) (h : DataW.Trod enc Try.prog w base spare held 51 v d p) :
    ∃ a n c, ∃ l : List (UInt8 × UInt8), v = .slice a n c ∧ l.length = n ∧ RowAt w w.heap.size a n 2 (l.flatMap pairC) ∧ n ≤ c ∧ c ≤ maxLen := by
  obtain ⟨a, n, c, rfl⟩ := okWide_slice Try.underlying51 hv
  obtain ⟨fuel, hf⟩ := h
  obtain ⟨a', n', c', e, h1, h2, l, h3, h4, _⟩ := trod_rowk pairC (fun _ => True) 2 (by omega) (fun x => rfl) Try.underlying51 (by kernel_rfl) hf (fun n cs y hl hy => trod_pair n cs y hl hy)
  injection e with e1 e2 e3
  subst e1; subst e2; subst e3
  exact ⟨_, _, _, l, rfl, h3, h4, h1, h2⟩
/-- A pair's two cells. -/
theorem pairs_at {W : World} {B : Nat} {a : Option Addr} {n : Nat} {l : List (UInt8 × UInt8)} (h : RowAt W B a n 2 (l.flatMap pairC)) {i : Nat} (hi : i < l.length) : ∃ b off, a = some ⟨b, off, none⟩ ∧ b < B ∧ W.cell? ⟨b, off + i * 2, none⟩ = some (.int .u8 (l[i].1.toNat : Int)) ∧ W.cell? ⟨b, off + (i * 2 + 1), none⟩ = some (.int .u8 (l[i].2.toNat : Int)) := by
  have hlen : (l.flatMap pairC).length = l.length * 2 := by
    clear h hi
    induction l with
    | nil => rfl
    | cons x r ih => rw [List.flatMap_cons, List.length_append, ih]; simp; omega
  have hg : ∀ (l : List (UInt8 × UInt8)) (i : Nat) (hi : i < l.length), (l.flatMap pairC)[i * 2]? = some (.int .u8 (l[i].1.toNat : Int)) ∧ (l.flatMap pairC)[i * 2 + 1]? = some (.int .u8 (l[i].2.toNat : Int)) := by
    intro l
    induction l with
    | nil => intro i hi; cases hi
    | cons x r ih =>
      intro i hi
      rw [List.flatMap_cons]
      cases i with
      | zero => exact ⟨rfl, rfl⟩
      | succ k =>
        have := ih k (by simpa using hi)
        rw [show (k + 1) * 2 = k * 2 + 1 + 1 by omega, show k * 2 + 1 + 1 + 1 = k * 2 + 1 + 1 + 1 from rfl]
        exact this
  obtain ⟨g0, g1⟩ := hg l i hi
  rcases h with ⟨hn, h0 | ⟨b, off, ha, hb, hc⟩⟩
  · subst h0; omega
  · exact ⟨b, off, ha, hb, hc _ _ g0, hc _ _ g1⟩
end

end Go.Proofs.Ytgdgjgcmglgfmaa
