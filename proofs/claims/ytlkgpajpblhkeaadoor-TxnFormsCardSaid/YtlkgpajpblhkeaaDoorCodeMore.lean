/- The program's reader and the document's, carried on: whatever is done elsewhere leaves them as they are. No condition. -/
import Derived.Test.YtlkgpajpblhkeaaDoorCodeTake

import Derived.Test.YtlkgpajpblhkeaaDoorOwnRows

import Derived.Test.YtlkgpajpblhkeaaDoorCodeRefReader

namespace Go.Proofs.YtlkgpajpblhkeaaDoor

open Go.RowKit

theorem RdAt.keep {w w' : World} {g : Nat} {l : List UInt8} {ok : Bool} (h : RdAt w g l ok) (hk : ∀ b, b ≤ g → w'.heap[b]? = w.heap[b]?) : RdAt w' g l ok := by
  obtain ⟨a, n, c, hh, h1, h2, hl, hf⟩ := h
  exact ⟨a, n, c, (hk g (Nat.le_refl _)).trans hh, h1, h2, hl.keep fun p hp => World.cell?_of_block (hk _ (by omega)), hf⟩
theorem RdAt.lt {w : World} {g : Nat} {l : List UInt8} {ok : Bool} (h : RdAt w g l ok) : g < w.heap.size := by
  obtain ⟨a, n, c, hh, _⟩ := h; exact lt_of_heap hh
theorem RdAt.below {w w' : World} {g : Nat} {l : List UInt8} {ok : Bool} (h : RdAt w g l ok) (hb : Below w.heap.size w w') : RdAt w' g l ok := by
  obtain ⟨a, n, c, hh, h1, h2, hl, hf⟩ := h
  exact ⟨a, n, c, (hb.block g (lt_of_heap hh)).trans hh, h1, h2, hl.keep fun p hp => hb.cell (by have := lt_of_heap hh; omega), hf⟩
theorem RdAt.far {w w' : World} {g G : Nat} {l : List UInt8} {ok : Bool} (h : RdAt w g l ok) (ho : Only G w w') (hg : g < G) : RdAt w' g l ok := by
  obtain ⟨a, n, c, hh, h1, h2, hl, hf⟩ := h
  refine ⟨a, n, c, (ho.block g (lt_of_heap hh) (fun e => by injection e with e; omega)).trans hh, h1, h2, hl.moved (Nat.le_refl _) (fun b off _ _ hb => ho.block b (by have := lt_of_heap hh; omega) (fun e => by injection e with e; omega)), hf⟩
/-- A cell that holds a number is none of a reader's. -/
theorem RdAt.not_int {W : World} {g : Nat} {l : List UInt8} {ok : Bool} (h : RdAt W g l ok) {p : Addr} {k : IntKind} {v : Int} (hp : W.cell? p = some (.int k v)) : p.block ≠ g := by
  rintro rfl
  obtain ⟨a, n, c, hh, _⟩ := h
  obtain ⟨b, off, fld⟩ := p
  cases fld with
  | some x =>
    simp only [World.cell?] at hp
    split at hp <;> simp at hp
  | none =>
    rw [cell_of_row _ _ _ _ _ _ hh] at hp
    match off, hp with
    | 0, hp => simp at hp
    | 1, hp => simp at hp
    | n + 2, hp => simp at hp
theorem RefAt.keep {w w' : World} {B g k : Nat} {L : List UInt8} {ok : Bool} (h : RefAt w B g L k ok) (hk : ∀ b, b ≤ g → w'.heap[b]? = w.heap[b]?) : RefAt w' B g L k ok := by
  obtain ⟨a, n, c, hh, h1, h2, hl, h3, h4⟩ := h
  exact ⟨a, n, c, (hk g (Nat.le_refl _)).trans hh, h1, h2, hl.keep fun p hp => World.cell?_of_block (hk _ (by omega)), h3, h4⟩
theorem RefAt.lt {w : World} {B g k : Nat} {L : List UInt8} {ok : Bool} (h : RefAt w B g L k ok) : g < w.heap.size := by
  obtain ⟨a, n, c, hh, _⟩ := h; exact lt_of_heap hh
theorem RefAt.flag {w : World} {B g k : Nat} {L : List UInt8} {ok : Bool} (h : RefAt w B g L k ok) : w.cell? ⟨g, 2, none⟩ = some (.bool (!ok)) ∧ w.frozen? ⟨g, 2, none⟩ = false := by
  obtain ⟨a, n, c, hh, _⟩ := h
  obtain ⟨_, _, c2, _, f2⟩ := ref_cells hh
  exact ⟨c2, f2⟩
theorem RefAt.fails {w : World} {B g k : Nat} {L : List UInt8} {ok : Bool} (h : RefAt w B g L k ok) : RefAt (w.setCell ⟨g, 2, none⟩ (.bool true)) B g L k false := by
  obtain ⟨a, n, c, hh, h1, h2, hl, h3, h4⟩ := h
  exact (ref_failed (q := 0) hh h1 h2 hl h3 h4).1
theorem RefAt.far {w w' : World} {B g G k : Nat} {L : List UInt8} {ok : Bool} (h : RefAt w B G L k ok) (ho : Only g w w') (hg : B ≤ g) (hne : G ≠ g) : RefAt w' B G L k ok := by
  obtain ⟨a, n, c, hh, h1, h2, hl, h3, h4⟩ := h
  refine ⟨a, n, c, (ho.block G (lt_of_heap hh) (fun e => by injection e with e; exact hne e)).trans hh, h1, h2, hl.moved (Nat.le_refl _) (fun b off _ _ hb => ho.block b (by have := lt_of_heap hh; omega) (fun e => by injection e with e; omega)), h3, h4⟩
theorem RefAt.below {w w' : World} {B G k : Nat} {L : List UInt8} {ok : Bool} (h : RefAt w B G L k ok) (hb : Below w.heap.size w w') : RefAt w' B G L k ok := h.keep fun b hb' => hb.block _ (by have := h.lt; omega)
end Go.Proofs.YtlkgpajpblhkeaaDoor
