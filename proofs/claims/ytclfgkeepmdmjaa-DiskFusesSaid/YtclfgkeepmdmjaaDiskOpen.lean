/- What came in, opened: an array of two slices of bytes. No condition. -/
import Derived.Test.YtclfgkeepmdmjaaDiskPlaysOpen

namespace Go.Proofs.Ytclfgkeepmdmjaa

open Go.ChangeShapes Go.WideShapes Go.ChangeAt Go.RowKit

set_option linter.unusedVariables false
section

variable {H : Type} {enc : TypeId × Value → H} {w : World} {base : Nat} {spare : Nat → Bool} {held : Bool}

theorem open_two {r : Reach} {b0 : Nat} {v : Value} {d : DataW H} {p : List MemPlace} (hv : Value.okWide Try.prog w r b0 50 v) (h : DataW.Trod enc Try.prog w base spare held 50 v d p) :
    ∃ a1 n1 c1 l1 a2 n2 c2 l2, v = .agg #[.slice a1 n1 c1, .slice a2 n2 c2] ∧ BAt w w.heap.size a1 n1 l1 ∧ BAt w w.heap.size a2 n2 l2 := by
  have hc : Try.prog.cellsOf 50 = 2 := by kernel_rfl
  have hce : Try.prog.cellsOf 33 = 1 := by kernel_rfl
  simp only [Value.okWide, Try.underlying50] at hv
  obtain ⟨cs, rfl, hsz, _⟩ := hv
  obtain ⟨fuel, hf⟩ := h
  obtain ⟨ys, m, _, _, hl, hn, hi⟩ := DataW.trod_array Try.underlying50 hf
  obtain ⟨l⟩ := cs
  have hsz' : l.length = 2 := hsz.trans hc
  have hp : ∀ u ∈ l, ∃ a n c x, u = .slice a n c ∧ BAt w w.heap.size a n x := by
    intro u hu
    obtain ⟨i, hil, rfl⟩ := List.getElem_of_mem hu
    have h1 := hi i (by omega)
    rw [List.getElem?_eq_getElem (by omega), hce, Nat.mul_one] at h1
    have h2 : ((Value.agg ⟨l⟩).cells.toList.drop i).take 1 = [l[i]] := by
      show (l.drop i).take 1 = _
      rw [List.drop_eq_getElem_cons hil]; rfl
    rw [h2] at h1
    obtain ⟨a, n, c, x, e, hb, _, _⟩ := trod_bytesd _ _ _ h1
    exact ⟨a, n, c, x, e, hb⟩
  obtain ⟨u1, r1, rfl, h1⟩ := cons_ofd hsz'
  obtain ⟨u2, r2, rfl, h2⟩ := cons_ofd h1
  obtain rfl : r2 = [] := List.eq_nil_of_length_eq_zero h2
  obtain ⟨a1, n1, c1, l1, rfl, hb1⟩ := hp u1 (List.mem_cons_self ..)
  obtain ⟨a2, n2, c2, l2, rfl, hb2⟩ := hp u2 (List.mem_cons_of_mem _ (List.mem_cons_self ..))
  exact ⟨a1, n1, c1, l1, a2, n2, c2, l2, rfl, hb1, hb2⟩
end

end Go.Proofs.Ytclfgkeepmdmjaa
