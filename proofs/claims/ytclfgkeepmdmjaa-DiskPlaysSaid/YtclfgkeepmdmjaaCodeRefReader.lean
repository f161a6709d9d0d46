/- Contracts of the document's own reader: Take, TakeText, Left, End. Conditions: it lies in memory as its literal lays it, in a block above its bytes. -/
import Derived.Test.YtclfgkeepmdmjaaCodeTake

import Derived.Test.YtclfgkeepmdmjaaCodeRef

import Derived.Deep.QuietTactic

import Derived.BigQuiet

namespace Go.Proofs.Ytclfgkeepmdmjaa

open Go.RowKit
theorem ref_cells {w : World} {g : Nat} {x y z : Value} {t : TypeId} (h : w.heap[g]? = some (.cells #[x, y, z] t (0, 0))) :
    w.cell? ⟨g, 0, none⟩ = some x ∧ w.cell? ⟨g, 1, none⟩ = some y ∧ w.cell? ⟨g, 2, none⟩ = some z ∧ w.frozen? ⟨g, 1, none⟩ = false ∧ w.frozen? ⟨g, 2, none⟩ = false := by
  refine ⟨by rw [cell_of_row _ _ _ _ _ _ h]; rfl, by rw [cell_of_row _ _ _ _ _ _ h]; rfl, by rw [cell_of_row _ _ _ _ _ _ h]; rfl, ?_, ?_⟩ <;> simp [World.frozen?, h]
theorem only_drewN (q : Nat) {g : Nat} {a w : World} (h : Only g a w) : Only g a (w.drewN q) := ⟨h.os, h.tape, h.output, h.size, h.block⟩
theorem only_set_drewN (q g i : Nat) (w : World) (u : Value) : Only g w ((w.drewN q).setCell ⟨g, i, none⟩ u) := (only_drewN q (Only.refl g w)).trans (only_set _ g i u)

end Go.Proofs.Ytclfgkeepmdmjaa
