/- A value in a box. No condition. -/
import Derived.Test.YtlkgpajpblhkeaaDoorValueFormed

namespace Go.Proofs.YtlkgpajpblhkeaaDoor

open Go.RowKit

theorem str_eq {S : ByteArray} {l : List UInt8} (h : S.data.toList = l) : S = ⟨l.toArray⟩ := by
  obtain ⟨d⟩ := S
  subst h; simp
theorem ret_str {S : ByteArray} {l : List UInt8} (h : S.data.toList = l) : Ending.returned (.string S) = .returned (.string ⟨l.toArray⟩) := by rw [str_eq h]
theorem three_cells {w : World} {g : Nat} {x y z : Value} {t : TypeId} (h : w.heap[g]? = some (.cells #[x, y, z] t (0, 0))) :
    w.cell? ⟨g, 0, none⟩ = some x ∧ w.cell? ⟨g, 1, none⟩ = some y ∧ w.cell? ⟨g, 2, none⟩ = some z ∧ w.frozen? ⟨g, 0, none⟩ = false ∧ w.frozen? ⟨g, 1, none⟩ = false ∧ w.frozen? ⟨g, 2, none⟩ = false := by
  refine ⟨by rw [cell_of_row _ _ _ _ _ _ h]; rfl, by rw [cell_of_row _ _ _ _ _ _ h]; rfl, by rw [cell_of_row _ _ _ _ _ _ h]; rfl, ?_, ?_, ?_⟩ <;> simp [World.frozen?, h]

/-- A value in a box. -/
def BoxV (w1 : World) (g : Nat) (k : Int) (b : Nat) (t : ByteArray) : Prop := w1.cell? ⟨g, 0, none⟩ = some (.int .i64 k) ∧ w1.cell? ⟨g, 1, none⟩ = some (.int .u64 (b : Nat)) ∧ w1.cell? ⟨g, 2, none⟩ = some (.string t)
theorem BoxV.below {w1 w2 : World} {g B : Nat} {k : Int} {b : Nat} {t : ByteArray} (h : BoxV w1 g k b t) (hb : Below B w1 w2) (hg : g < B) : BoxV w2 g k b t :=
  ⟨(hb.cell (p := ⟨g, 0, none⟩) hg).trans h.1, (hb.cell (p := ⟨g, 1, none⟩) hg).trans h.2.1, (hb.cell (p := ⟨g, 2, none⟩) hg).trans h.2.2⟩
theorem BoxV.new (w : World) (k : Int) (b : Nat) (t : ByteArray) (ty : TypeId) : BoxV (w.alloc (.cells #[.int .i64 k, .int .u64 b, .string t] ty)) w.heap.size k b t := box3 w _ _ _ ty
theorem BoxV.alloc {w : World} {g : Nat} {k : Int} {b : Nat} {t : ByteArray} (h : BoxV w g k b t) (o : Obj) (hg : g < w.heap.size) : BoxV (w.alloc o) g k b t := h.below ((Below.refl w.heap.size w).alloc (Nat.le_refl _) o) hg
theorem BoxV.drewN {w : World} {g : Nat} {k : Int} {b : Nat} {t : ByteArray} (q : Nat) (h : BoxV w g k b t) : BoxV (w.drewN q) g k b t := h
theorem BoxV.drew {w : World} {g : Nat} {k : Int} {b : Nat} {t : ByteArray} (h : BoxV w g k b t) : BoxV w.drew g k b t := h
theorem BoxV.only {w w' : World} {g r : Nat} {k : Int} {b : Nat} {t : ByteArray} (h : BoxV w g k b t) (ho : Only r w w') (hg : g < w.heap.size) (hr : g ≠ r) : BoxV w' g k b t := by
  have hb := ho.block g hg (fun e => by injection e with e; exact hr e)
  exact ⟨(World.cell?_of_block hb).trans h.1, (World.cell?_of_block hb).trans h.2.1, (World.cell?_of_block hb).trans h.2.2⟩
end Go.Proofs.YtlkgpajpblhkeaaDoor
