/- Words for a reader that is taken from while the call makes boxes of its own: the program's reader, and the document's. No condition. -/
import Derived.Test.YtcmboanepllgjaaBox

namespace Go.Proofs.Ytcmboanepllgjaa

open Go.RowKit

/-- What holds while something is taken: the reader, and boxes of the call's own. -/
def RdW (w W : World) (g : Nat) (l : List UInt8) (ok : Bool) (bs : List (Nat × Array Value × TypeId)) : Prop :=
  RdAt W g l ok ∧ Only g w W ∧ g < w.heap.size ∧ ∀ b ∈ bs, w.heap.size ≤ b.1 ∧ BoxC W b.1 b.2.1 b.2.2
section

variable {w W W' : World} {G i : Nat} {bs : List (Nat × Array Value × TypeId)} {cs : Array Value} {t : TypeId} {g : Nat} {l l' : List UInt8} {ok ok' : Bool}

theorem RdW.start (h : RdAt w g l ok) : RdW w w g l ok [] := ⟨h, Only.refl _ _, h.lt, fun b hb => by cases hb⟩
theorem RdW.rd (h : RdW w W g l ok bs) : RdAt W g l ok := h.1
theorem RdW.size (h : RdW w W g l ok bs) : w.heap.size ≤ W.heap.size := h.2.1.size
theorem RdW.get (h : RdW w W g l ok bs) (i : Nat) (G : Nat) (cs : Array Value) (t : TypeId) (hi : bs[i]? = some (G, cs, t)) : BoxC W G cs t := (h.2.2.2 _ (List.mem_of_getElem? hi)).2
theorem RdW.only (h : RdW w W g l ok bs) (hr : RdAt W' g l' ok') (ho : Only g W W') : RdW w W' g l' ok' bs :=
  ⟨hr, h.2.1.trans ho, h.2.2.1, fun b hb => ⟨(h.2.2.2 b hb).1, (h.2.2.2 b hb).2.only ho (by have := (h.2.2.2 b hb).1; have := h.2.2.1; omega)⟩⟩
theorem RdW.below (h : RdW w W g l ok bs) (hb : Below W.heap.size W W') : RdW w W' g l ok bs :=
  h.only (h.1.below hb) ⟨hb.os, hb.tape, hb.output, hb.size, fun _ hb' _ => hb.block _ hb'⟩
theorem RdW.more (h : RdW w W g l ok bs) (cs : Array Value) (t : TypeId) : RdW w (W.alloc (.cells cs t)) g l ok ((W.heap.size, cs, t) :: bs) := by
  have h' := h.below ((Below.refl W.heap.size W).alloc (Nat.le_refl _) (.cells cs t))
  refine ⟨h'.1, h'.2.1, h'.2.2.1, fun b hb => ?_⟩
  rcases List.mem_cons.1 hb with rfl | hb
  · exact ⟨h.2.1.size, BoxC.new W cs t⟩
  · exact h'.2.2.2 b hb
theorem RdW.out (h : RdW w W g l ok bs) (hG : w.heap.size ≤ G) (u : Value) : RdW w (W.setCell ⟨G, i, none⟩ u) g l ok [] := by
  have hg := h.2.2.1
  have hb : ∀ b, b < w.heap.size → (W.setCell ⟨G, i, none⟩ u).heap[b]? = W.heap[b]? := fun b hb => Below.heap_setCell _ _ _ _ (by show b ≠ G; omega)
  exact ⟨h.1.keep fun b hb' => hb b (by omega), ⟨h.2.1.os, h.2.1.tape, h.2.1.output, by have := h.2.1.size; simpa [World.setCell] using this, fun b hb' hne => (hb b hb').trans (h.2.1.block b hb' hne)⟩, hg, fun b hb => by cases hb⟩
theorem RdW.set (h : RdW w W g l ok ((G, cs, t) :: bs)) (hl : ∀ b ∈ bs, b.1 ≠ G) (i : Nat) (u : Value) : RdW w (W.setCell ⟨G, i, none⟩ u) g l ok ((G, cs.setIfInBounds i u, t) :: bs) := by
  have hG := (h.2.2.2 (G, cs, t) (List.mem_cons_self ..))
  have h' := RdW.out (i := i) h hG.1 u
  refine ⟨h'.1, h'.2.1, h'.2.2.1, fun b hb => ?_⟩
  rcases List.mem_cons.1 hb with rfl | hb
  · exact ⟨hG.1, hG.2.set i u⟩
  · exact ⟨(h.2.2.2 b (List.mem_cons_of_mem _ hb)).1, ((h.2.2.2 b (List.mem_cons_of_mem _ hb)).2).far i u (hl b hb)⟩
end

/-- What holds while something is taken: the reader, and boxes of the call's own. -/
def RfW (w W : World) (B g : Nat) (L : List UInt8) (k : Nat) (ok : Bool) (bs : List (Nat × Array Value × TypeId)) : Prop :=
  RefAt W B g L k ok ∧ Only g w W ∧ g < w.heap.size ∧ ∀ b ∈ bs, w.heap.size ≤ b.1 ∧ BoxC W b.1 b.2.1 b.2.2
section

variable {w W W' : World} {G i : Nat} {bs : List (Nat × Array Value × TypeId)} {cs : Array Value} {t : TypeId} {B g : Nat} {L : List UInt8} {k k' : Nat} {ok ok' : Bool}

theorem RfW.start (h : RefAt w B g L k ok) : RfW w w B g L k ok [] := ⟨h, Only.refl _ _, h.lt, fun b hb => by cases hb⟩
theorem RfW.rd (h : RfW w W B g L k ok bs) : RefAt W B g L k ok := h.1
theorem RfW.size (h : RfW w W B g L k ok bs) : w.heap.size ≤ W.heap.size := h.2.1.size
theorem RfW.get (h : RfW w W B g L k ok bs) (i : Nat) (G : Nat) (cs : Array Value) (t : TypeId) (hi : bs[i]? = some (G, cs, t)) : BoxC W G cs t := (h.2.2.2 _ (List.mem_of_getElem? hi)).2
theorem RfW.only (h : RfW w W B g L k ok bs) (hr : RefAt W' B g L k' ok') (ho : Only g W W') : RfW w W' B g L k' ok' bs :=
  ⟨hr, h.2.1.trans ho, h.2.2.1, fun b hb => ⟨(h.2.2.2 b hb).1, (h.2.2.2 b hb).2.only ho (by have := (h.2.2.2 b hb).1; have := h.2.2.1; omega)⟩⟩
theorem RfW.below (h : RfW w W B g L k ok bs) (hb : Below W.heap.size W W') : RfW w W' B g L k ok bs :=
  h.only (h.1.below hb) ⟨hb.os, hb.tape, hb.output, hb.size, fun _ hb' _ => hb.block _ hb'⟩
theorem RfW.more (h : RfW w W B g L k ok bs) (cs : Array Value) (t : TypeId) : RfW w (W.alloc (.cells cs t)) B g L k ok ((W.heap.size, cs, t) :: bs) := by
  have h' := h.below ((Below.refl W.heap.size W).alloc (Nat.le_refl _) (.cells cs t))
  refine ⟨h'.1, h'.2.1, h'.2.2.1, fun b hb => ?_⟩
  rcases List.mem_cons.1 hb with rfl | hb
  · exact ⟨h.2.1.size, BoxC.new W cs t⟩
  · exact h'.2.2.2 b hb
theorem RfW.out (h : RfW w W B g L k ok bs) (hG : w.heap.size ≤ G) (u : Value) : RfW w (W.setCell ⟨G, i, none⟩ u) B g L k ok [] := by
  have hg := h.2.2.1
  have hb : ∀ b, b < w.heap.size → (W.setCell ⟨G, i, none⟩ u).heap[b]? = W.heap[b]? := fun b hb => Below.heap_setCell _ _ _ _ (by show b ≠ G; omega)
  exact ⟨h.1.keep fun b hb' => hb b (by omega), ⟨h.2.1.os, h.2.1.tape, h.2.1.output, by have := h.2.1.size; simpa [World.setCell] using this, fun b hb' hne => (hb b hb').trans (h.2.1.block b hb' hne)⟩, hg, fun b hb => by cases hb⟩
theorem RfW.set (h : RfW w W B g L k ok ((G, cs, t) :: bs)) (hl : ∀ b ∈ bs, b.1 ≠ G) (i : Nat) (u : Value) : RfW w (W.setCell ⟨G, i, none⟩ u) B g L k ok ((G, cs.setIfInBounds i u, t) :: bs) := by
  have hG := (h.2.2.2 (G, cs, t) (List.mem_cons_self ..))
  have h' := RfW.out (i := i) h hG.1 u
  refine ⟨h'.1, h'.2.1, h'.2.2.1, fun b hb => ?_⟩
  rcases List.mem_cons.1 hb with rfl | hb
  · exact ⟨hG.1, hG.2.set i u⟩
  · exact ⟨(h.2.2.2 b (List.mem_cons_of_mem _ hb)).1, ((h.2.2.2 b (List.mem_cons_of_mem _ hb)).2).far i u (hl b hb)⟩
end

theorem RfW.fails {w W : World} {B g : Nat} {L : List UInt8} {k : Nat} {ok : Bool} {bs : List (Nat × Array Value × TypeId)} (h : RfW w W B g L k ok bs) : RfW w (W.setCell ⟨g, 2, none⟩ (.bool true)) B g L k false bs := h.only h.1.fails (only_set W g 2 _)
end Go.Proofs.Ytcmboanepllgjaa
