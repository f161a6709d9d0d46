/- Words for the lists of a transaction in memory: reads of two cells, writes of four. No condition. -/
import Derived.Test.YtlkgpajpblhkeaaDoorBox

namespace Go.Proofs.YtlkgpajpblhkeaaDoor

open Go.RowKit

/-- A read in memory: key and version; a write: key and value. -/
abbrev RdM := ByteArray × Nat
structure WrM where
  key : ByteArray
  k : Int
  b : Nat
  t : ByteArray
def readC (x : RdM) : List Value := [.string x.1, .int .u64 ((x.2 : Nat) : Int)]
def writeC (x : WrM) : List Value := [.string x.key, .int .i64 x.k, .int .u64 ((x.b : Nat) : Int), .string x.t]
theorem readC_len (x : RdM) : (readC x).length = 2 := rfl
theorem writeC_len (x : WrM) : (writeC x).length = 4 := rfl
theorem readC_cells (x : RdM) : ∀ u ∈ readC x, u.oneCell' = true := by
  intro u hu
  simp only [readC, List.mem_cons, List.not_mem_nil, or_false] at hu
  rcases hu with rfl | rfl <;> rfl
theorem writeC_cells (x : WrM) : ∀ u ∈ writeC x, u.oneCell' = true := by
  intro u hu
  simp only [writeC, List.mem_cons, List.not_mem_nil, or_false] at hu
  rcases hu with rfl | rfl | rfl | rfl <;> rfl
theorem reads_cells (l : List RdM) : ∀ u ∈ l.flatMap readC, u.oneCell' = true := by
  intro u hu
  obtain ⟨x, _, hx⟩ := List.mem_flatMap.1 hu
  exact readC_cells x u hx
theorem writes_cells (l : List WrM) : ∀ u ∈ l.flatMap writeC, u.oneCell' = true := by
  intro u hu
  obtain ⟨x, _, hx⟩ := List.mem_flatMap.1 hu
  exact writeC_cells x u hx
/-- A slice of reads, of writes, reads as the list l. -/
def RdsAt (w : World) (B : Nat) (a : Option Addr) (n : Nat) (l : List RdM) : Prop := l.length = n ∧ RowAt w B a n 2 (l.flatMap readC)
def WrsAt (w : World) (B : Nat) (a : Option Addr) (n : Nat) (l : List WrM) : Prop := l.length = n ∧ RowAt w B a n 4 (l.flatMap writeC)
section

variable {w w' : World} {B B' n : Nat} {a : Option Addr}

theorem RdsAt.nil : RdsAt w B a 0 [] := ⟨rfl, RowAt.nil⟩
theorem WrsAt.nil : WrsAt w B a 0 [] := ⟨rfl, RowAt.nil⟩
theorem RdsAt.later {l : List RdM} (h : RdsAt w w.heap.size a n l) (hb : Below w.heap.size w w') : RdsAt w' w'.heap.size a n l := ⟨h.1, (h.2.below hb (Nat.le_refl _)).more hb.size⟩
theorem WrsAt.later {l : List WrM} (h : WrsAt w w.heap.size a n l) (hb : Below w.heap.size w w') : WrsAt w' w'.heap.size a n l := ⟨h.1, (h.2.below hb (Nat.le_refl _)).more hb.size⟩
theorem RdsAt.at_ {l : List RdM} (h : RdsAt w B a n l) {i : Nat} (hi : i < l.length) : ∃ b off, a = some ⟨b, off, none⟩ ∧ b < B ∧ w.cell? ⟨b, off + i * 2, none⟩ = some (.string l[i].1) ∧ w.cell? ⟨b, off + i * 2 + 1, none⟩ = some (.int .u64 ((l[i].2 : Nat) : Int)) := by
  obtain ⟨b, off, ha, hb, hc⟩ := h.2.addr (by have := h.1; omega)
  have h0 := hc (i * 2 + 0) _ (flat_get readC 2 readC_len l i 0 hi (by omega))
  have h1 := hc (i * 2 + 1) _ (flat_get readC 2 readC_len l i 1 hi (by omega))
  exact ⟨b, off, ha, hb, h0, by rw [Nat.add_assoc]; exact h1⟩
theorem WrsAt.at_ {l : List WrM} (h : WrsAt w B a n l) {i : Nat} (hi : i < l.length) : ∃ b off, a = some ⟨b, off, none⟩ ∧ b < B ∧ w.cell? ⟨b, off + i * 4, none⟩ = some (.string l[i].key) ∧ w.cell? ⟨b, off + i * 4 + 1, none⟩ = some (.int .i64 l[i].k) ∧ w.cell? ⟨b, off + i * 4 + 2, none⟩ = some (.int .u64 ((l[i].b : Nat) : Int)) ∧ w.cell? ⟨b, off + i * 4 + 3, none⟩ = some (.string l[i].t) := by
  obtain ⟨b, off, ha, hb, hc⟩ := h.2.addr (by have := h.1; omega)
  have h0 := hc (i * 4 + 0) _ (flat_get writeC 4 writeC_len l i 0 hi (by omega))
  have h1 := hc (i * 4 + 1) _ (flat_get writeC 4 writeC_len l i 1 hi (by omega))
  have h2 := hc (i * 4 + 2) _ (flat_get writeC 4 writeC_len l i 2 hi (by omega))
  have h3 := hc (i * 4 + 3) _ (flat_get writeC 4 writeC_len l i 3 hi (by omega))
  exact ⟨b, off, ha, hb, h0, by rw [Nat.add_assoc]; exact h1, by rw [Nat.add_assoc]; exact h2, by rw [Nat.add_assoc]; exact h3⟩
end

end Go.Proofs.YtlkgpajpblhkeaaDoor
