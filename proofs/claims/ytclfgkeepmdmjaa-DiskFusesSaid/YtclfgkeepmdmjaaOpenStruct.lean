/- What came in, opened: a struct of one-cell fields, by value. No condition. -/
import Derived.Test.YtclfgkeepmdmjaaCodeOpen

import Derived.Deep.Fields

import Derived.Deep.Slices

namespace Go.Proofs.Ytclfgkeepmdmjaa

open Go.ChangeShapes Go.WideShapes Go.ChangeAt Go.RowKit

section

variable {H : Type} {enc : TypeId × Value → H} {P : Program} {w : World} {base : Nat} {spare : Nat → Bool} {held : Bool}

theorem open_struct {r : Reach} {b0 : Nat} {t : TypeId} {fs : Array Field} {v : Value} {d : DataW H} {p : List MemPlace} (ht : P.underlying t = some (.struct fs)) (hone : Deep.oneCellFields P fs = true) (hC : P.cellsOf t = fs.size)
    (hv : Value.okWide P w r b0 t v) (h : DataW.Trod enc P w base spare held t v d p) :
    ∃ cs : List Value, v = .agg ⟨cs⟩ ∧ ∃ hl : cs.length = fs.size, ∀ (j : Nat) (f : Field) (hj : fs[j]? = some f), ∃ (k : Nat) (y : DataW H × List MemPlace), DataW.trod enc P w base spare held k f.type [cs[j]'(by have := (Array.getElem?_eq_some_iff.1 hj).1; omega)] = some y := by
  simp only [Value.okWide, ht] at hv
  obtain ⟨cs, rfl, hsz, _⟩ := hv
  obtain ⟨fuel, hf⟩ := h
  obtain ⟨l⟩ := cs
  have hl : l.length = fs.size := hsz.trans hC
  refine ⟨l, rfl, hl, fun j f hj => ?_⟩
  obtain ⟨ys, n', _, _, _, hyl, hg⟩ := DataW.trod_struct ht hf
  obtain ⟨ho, hk⟩ := Deep.hone_of hone j f hj
  have hjl : j < fs.size := (Array.getElem?_eq_some_iff.1 hj).1
  have h1 := hg j f hj
  rw [ho, hk] at h1
  have h2 : ((Value.agg ⟨l⟩).cells.toList.drop j).take 1 = [l[j]'(by omega)] := by
    show (l.drop j).take 1 = _
    rw [List.drop_eq_getElem_cons (by omega)]; rfl
  rw [h2, List.getElem?_eq_getElem (by omega)] at h1
  exact ⟨_, _, h1⟩
end

end Go.Proofs.Ytclfgkeepmdmjaa
