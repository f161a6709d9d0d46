/- Contract of quorum.List: a new row of the numbers that are in the set. Condition: a set is below 2^64. -/
import Derived.Test.YtlkgpajpblhkeaaDoorQuorumProg
import Derived.OwnWalk
import Derived.WalkSpells
namespace Go.Proofs.YtlkgpajpblhkeaaDoor

open Go.RowKit

theorem Tryd.qInfo3 : (Tryd.prog.info? 3).map (fun i => (i.zero, i.size, i.bytes)) = some (some (.int .i64 0), 1, 8) := by kernel_rfl

def nrow (l : List Nat) : List Value := l.map fun i => .int .i64 ((i : Nat) : Int)
/-- What a loop holds: the list made so far. -/
def MadeN (w wr : World) (v : Value) (l : List Nat) : Prop := wr.ownsRow w.heap.size 3 1 v l.length (nrow l) ∧ Below w.heap.size w wr
theorem MadeN.start (w : World) : MadeN w w (.slice none 0 0) [] := ⟨World.ownsRow_nil _ _ _ _, Below.refl _ _⟩
theorem MadeN.own {w wr : World} {v : Value} {l : List Nat} (h : MadeN w wr v l) : wr.ownsRow w.heap.size 3 1 v l.length (nrow l) := h.1
theorem MadeN.bel {w wr : World} {v : Value} {l : List Nat} (h : MadeN w wr v l) : Below w.heap.size w wr := h.2
theorem MadeN.next {w wr w1 : World} {v v' : Value} {l : List Nat} {k : Nat} {o : Obj} (h : MadeN w wr v l)
    (ho : w1.ownsRow w.heap.size 3 1 v' (l.length + 1) (nrow l ++ [.int .i64 ((k : Nat) : Int)])) (hg : (wr.alloc o).grownBy w1 v.ownBlock) : MadeN w w1 v' (l ++ [k]) := by
  refine ⟨?_, ?_⟩
  · have e : nrow (l ++ [k]) = nrow l ++ [.int .i64 ((k : Nat) : Int)] := by unfold nrow; rw [List.map_append]; rfl
    rw [e, List.length_append]; exact ho
  · have hs := h.2.size
    exact (h.2.alloc hs o).grown hg (by simp; omega) fun j hj => (h.1.lt j hj).1

/-- A slice that reads as a list of numbers. -/
def NAt (w : World) (a : Option Addr) (l : List Nat) : Prop :=
  l = [] ∨ ∃ b off, a = some ⟨b, off, none⟩ ∧ ∀ i (h : i < l.length), w.cell? ⟨b, off + i, none⟩ = some (.int .i64 ((l[i] : Nat) : Int))
theorem NAt.later {w w' : World} {a : Option Addr} {l : List Nat} (h : NAt w a l) (hb : Below w.heap.size w w') : NAt w' a l := by
  rcases h with h | ⟨b, off, ha, hc⟩
  · exact .inl h
  · exact .inr ⟨b, off, ha, fun i hi => cell_later hb (hc i hi)⟩
theorem NAt.at_ {w : World} {a : Option Addr} {l : List Nat} (h : NAt w a l) {i : Nat} (hi : i < l.length) :
    ∃ b off, a = some ⟨b, off, none⟩ ∧ w.cell? ⟨b, off + i, none⟩ = some (.int .i64 ((l[i] : Nat) : Int)) := by
  rcases h with h | ⟨b, off, ha, hc⟩
  · subst h; simp at hi
  · exact ⟨b, off, ha, hc i hi⟩
theorem MadeN.lies {w wr : World} {v : Value} {l : List Nat} (h : MadeN w wr v l) : ∃ a cap, v = .slice a l.length cap ∧ NAt wr a l := by
  obtain ⟨hlen, h0 | ⟨g, cap, cur, rfl, hbg, hg, hnc, hcm, hcs, htake⟩⟩ := h.1
  · obtain ⟨rfl, h1⟩ := h0
    have : l = [] := by cases l with
      | nil => rfl
      | cons x t => simp at h1
    subst this
    exact ⟨none, 0, rfl, .inl rfl⟩
  · refine ⟨_, cap, rfl, .inr ⟨g, 0, rfl, fun i hi => ?_⟩⟩
    have := h.1.cells (g := g) rfl i (.int .i64 ((l[i] : Nat) : Int)) (by simp [nrow, hi])
    have ha : (⟨g, 0, none⟩ : Addr).add i = ⟨g, 0 + i, none⟩ := by by_cases c : i = 0 <;> simp [Addr.add, c]
    rw [ha] at this
    exact this

/-- What a call that answers a new list of numbers does. -/
def NewN (w : World) (l : List Nat) (e : Ending) (w' : World) : Prop := ∃ a cap, e = .returned (.slice a l.length cap) ∧ NAt w' a l ∧ Below w.heap.size w w'

theorem list_yes (s k : Nat) (hk : k ≤ 63) (h : hasB s (k : Int) = true) : listN s (k + 1) = listN s k ++ [k] := by
  rw [has_yes s k (by omega) (by omega)] at h
  have h' : s.testBit k = true := h
  rw [listN, h']; rfl
theorem list_no (s k : Nat) (hk : k ≤ 63) (h : hasB s (k : Int) = false) : listN s (k + 1) = listN s k := by
  rw [has_yes s k (by omega) (by omega)] at h
  have h' : s.testBit k = false := h
  rw [listN, h']; simp

end Go.Proofs.YtlkgpajpblhkeaaDoor
