/- Words for disks in memory: the program's and the document's. No condition. -/
import Derived.Test.YtclfgkeepmdmjaaDiskMath

import Derived.Test.YtclfgkeepmdmjaaFr

import Derived.Test.YtclfgkeepmdmjaaBytesClone

namespace Go.Proofs.Ytclfgkeepmdmjaa

open Go.RowKit

set_option linter.unusedVariables false
set_option linter.unusedSimpArgs false

/-- A row of bytes that is nobody else's. -/
def OwnB (W : World) (v : Value) (l : List UInt8) : Prop := W.ownsRow 0 5 1 v l.length (bcells l)
def Far (v v' : Value) : Prop := ∀ j, v.ownBlock = some j → v'.ownBlock ≠ some j
section

variable {W W' : World} {v v' : Value} {l : List UInt8} {g : Nat} {cs : Array Value} {t : TypeId}

theorem OwnB.nil (W : World) : OwnB W (.slice none 0 0) [] := World.ownsRow_nil _ _ _ _
theorem OwnB.of_own {B n : Nat} (h : W.ownsRow B 5 1 v n (bcells l)) : OwnB W v l := by
  have e := own_len h
  subst e
  exact own_base h (Nat.zero_le _)
theorem OwnB.form (h : OwnB W v l) : ∃ a c, v = .slice a l.length c ∧ l.length ≤ c ∧ c ≤ maxLen := by
  obtain ⟨a, c, h1, h2, h3, _⟩ := own_form h
  exact ⟨a, c, h1, h2, h3⟩
theorem OwnB.bat {a : Option Addr} {n c : Nat} (h : OwnB W (.slice a n c) l) (hn : n = l.length) : BAt W W.heap.size a n l := by subst hn; exact BAt.of_own h
theorem OwnB.lt (h : OwnB W v l) : ∀ j, v.ownBlock = some j → j < W.heap.size := own_lt h
theorem OwnB.moved (h : OwnB W v l) (hk : ∀ j, v.ownBlock = some j → j < W.heap.size → W'.heap[j]? = W.heap[j]?) : OwnB W' v l := by
  refine ⟨h.1, ?_⟩
  rcases h.2 with h1 | ⟨j, c, cur, hv, hb, hh, hr⟩
  · exact .inl h1
  · exact .inr ⟨j, c, cur, hv, hb, (hk j (by rw [hv]; rfl) (lt_of_heap hh)).trans hh, hr⟩
theorem OwnB.below (h : OwnB W v l) (hb : Below W.heap.size W W') : OwnB W' v l := h.moved fun j _ hj => hb.block j hj
theorem OwnB.not_box (h : OwnB W v l) (hb : BoxC W g cs t) (ht : t ≠ 5) : v.ownBlock ≠ some g := by
  intro e
  rcases h.2 with ⟨h1, _⟩ | ⟨j, c, cur, hv, _, hh, _⟩
  · rw [h1] at e; cases e
  · rw [hv] at e
    injection e with e
    have e' : j = g := e
    rw [e', show W.heap[g]? = _ from hb] at hh
    injection hh with hh
    injection hh with _ hh _
    exact ht hh
theorem OwnB.set (h : OwnB W v l) (hne : v.ownBlock ≠ some g) (i : Nat) (u : Value) : OwnB (W.setCell ⟨g, i, none⟩ u) v l :=
  h.moved fun j hj _ => Below.heap_setCell _ _ _ _ (fun e => hne (by rw [hj]; exact congrArg some e))
theorem OwnB.fr {own : List Nat} (h : OwnB W v l) (hF : Fr W W' own) (hn : ∀ j, v.ownBlock = some j → j ∉ own) : OwnB W' v l := h.moved fun j hj hlt => hF.block j hlt (hn j hj)
theorem Fr.set (W : World) (g i : Nat) (u : Value) : Fr W (W.setCell ⟨g, i, none⟩ u) [g] :=
  ⟨by simp [World.setCell], by simp [World.setCell], by simp [World.setCell], by simp [World.setCell], fun j _ hj => Below.heap_setCell _ _ _ _ (fun e => hj (by simp; exact e))⟩
theorem Fr.refl (W : World) (own : List Nat) : Fr W W own := ⟨rfl, rfl, rfl, Nat.le_refl _, fun _ _ _ => rfl⟩
theorem Fr.wide {own own' : List Nat} (h : Fr W W' own) (ho : ∀ i ∈ own, i ∈ own') : Fr W W' own' := ⟨h.os, h.tape, h.output, h.size, fun i hi hn => h.block i hi fun e => hn (ho i e)⟩
theorem Far.nil : Far v (.slice none 0 0) := fun j _ e => by cases e
theorem Far.nil' : Far (.slice none 0 0) v := fun j e => by cases e
theorem Far.symm (h : Far v v') : Far v' v := fun j hj e => h j e hj
end

def bk (v : Value) : List Nat := v.ownBlock.toList
theorem bk_mem {v : Value} {j : Nat} : j ∈ bk v ↔ v.ownBlock = some j := by unfold bk; simp
theorem bk_nil : bk (.slice none 0 0) = [] := rfl

/-- The program's disk in block g. -/
structure DkP (W : World) (g : Nat) (d : Dk) (v nx : Value) (left : Int) : Prop where
  box : BoxC W g #[.int .i64 d.size, v, .int .i64 d.la.length, .bool (decide (0 ≤ d.fuse)), .int .i64 left, .bool d.down, .bool d.torn, nx] 53
  row : OwnB W v (d.la ++ d.re)
  nxt : OwnB W nx d.half
  left : 0 ≤ d.fuse → left = d.fuse
  sz : 0 ≤ d.size ∧ d.size < 9223372036854775808
  far : Far v nx
/-- The document's disk in block g. -/
structure DkR (W : World) (g : Nat) (d : Dk) (vl vr vh : Value) : Prop where
  box : BoxC W g #[.int .i64 d.size, vl, vr, .int .i64 d.fuse, .bool d.down, .bool d.torn, vh] 37
  rl : OwnB W vl d.la
  rr : OwnB W vr d.re
  rh : OwnB W vh d.half
  sz : 0 ≤ d.size ∧ d.size < 9223372036854775808
  f1 : Far vl vr
  f2 : Far vl vh
  f3 : Far vr vh
def PD (W : World) (g : Nat) (d : Dk) (own : List Nat) : Prop := ∃ v nx left, DkP W g d v nx left ∧ own = g :: (bk v ++ bk nx)
def RD (W : World) (g : Nat) (d : Dk) (own : List Nat) : Prop := ∃ vl vr vh, DkR W g d vl vr vh ∧ own = g :: (bk vl ++ bk vr ++ bk vh)
/-- What an operation leaves. -/
def Stp (K : World → List Nat → Prop) (W W' : World) (own : List Nat) : Prop := ∃ own', K W' own' ∧ Fr W W' own ∧ ∀ i ∈ own', i ∈ own ∨ W.heap.size ≤ i

section

variable {W W' : World} {g : Nat} {d : Dk} {v nx vl vr vh : Value} {left : Int} {own : List Nat}

theorem BoxC.eight {w : World} {g : Nat} {c0 c1 c2 c3 c4 c5 c6 c7 : Value} {t : TypeId} (h : BoxC w g #[c0, c1, c2, c3, c4, c5, c6, c7] t) : w.cell? ⟨g, 0, none⟩ = some c0 ∧ w.cell? ⟨g, 1, none⟩ = some c1 ∧ w.cell? ⟨g, 2, none⟩ = some c2 ∧ w.cell? ⟨g, 3, none⟩ = some c3 ∧ w.cell? ⟨g, 4, none⟩ = some c4 ∧ w.cell? ⟨g, 5, none⟩ = some c5 ∧ w.cell? ⟨g, 6, none⟩ = some c6 ∧ w.cell? ⟨g, 7, none⟩ = some c7 :=
  ⟨h.cell 0 c0 rfl, h.cell 1 c1 rfl, h.cell 2 c2 rfl, h.cell 3 c3 rfl, h.cell 4 c4 rfl, h.cell 5 c5 rfl, h.cell 6 c6 rfl, h.cell 7 c7 rfl⟩
theorem BoxC.seven {w : World} {g : Nat} {c0 c1 c2 c3 c4 c5 c6 : Value} {t : TypeId} (h : BoxC w g #[c0, c1, c2, c3, c4, c5, c6] t) : w.cell? ⟨g, 0, none⟩ = some c0 ∧ w.cell? ⟨g, 1, none⟩ = some c1 ∧ w.cell? ⟨g, 2, none⟩ = some c2 ∧ w.cell? ⟨g, 3, none⟩ = some c3 ∧ w.cell? ⟨g, 4, none⟩ = some c4 ∧ w.cell? ⟨g, 5, none⟩ = some c5 ∧ w.cell? ⟨g, 6, none⟩ = some c6 :=
  ⟨h.cell 0 c0 rfl, h.cell 1 c1 rfl, h.cell 2 c2 rfl, h.cell 3 c3 rfl, h.cell 4 c4 rfl, h.cell 5 c5 rfl, h.cell 6 c6 rfl⟩
theorem DkP.far_box (h : DkP W g d v nx left) : v.ownBlock ≠ some g ∧ nx.ownBlock ≠ some g := ⟨h.row.not_box h.box (by decide), h.nxt.not_box h.box (by decide)⟩
theorem DkR.far_box (h : DkR W g d vl vr vh) : vl.ownBlock ≠ some g ∧ vr.ownBlock ≠ some g ∧ vh.ownBlock ≠ some g := ⟨h.rl.not_box h.box (by decide), h.rr.not_box h.box (by decide), h.rh.not_box h.box (by decide)⟩
theorem DkP.kept (h : DkP W g d v nx left) (hk : ∀ j ∈ g :: (bk v ++ bk nx), j < W.heap.size → W'.heap[j]? = W.heap[j]?) : DkP W' g d v nx left :=
  ⟨(hk g (List.mem_cons_self ..) h.box.lt).trans h.box, h.row.moved fun j hj hlt => hk j (List.mem_cons_of_mem _ (List.mem_append_left _ (bk_mem.2 hj))) hlt, h.nxt.moved fun j hj hlt => hk j (List.mem_cons_of_mem _ (List.mem_append_right _ (bk_mem.2 hj))) hlt, h.left, h.sz, h.far⟩
theorem DkR.kept (h : DkR W g d vl vr vh) (hk : ∀ j ∈ g :: (bk vl ++ bk vr ++ bk vh), j < W.heap.size → W'.heap[j]? = W.heap[j]?) : DkR W' g d vl vr vh :=
  ⟨(hk g (List.mem_cons_self ..) h.box.lt).trans h.box, h.rl.moved fun j hj hlt => hk j (List.mem_cons_of_mem _ (List.mem_append_left _ (List.mem_append_left _ (bk_mem.2 hj)))) hlt, h.rr.moved fun j hj hlt => hk j (List.mem_cons_of_mem _ (List.mem_append_left _ (List.mem_append_right _ (bk_mem.2 hj)))) hlt, h.rh.moved fun j hj hlt => hk j (List.mem_cons_of_mem _ (List.mem_append_right _ (bk_mem.2 hj))) hlt, h.sz, h.f1, h.f2, h.f3⟩
theorem DkP.below (h : DkP W g d v nx left) (hb : Below W.heap.size W W') : DkP W' g d v nx left := h.kept fun j _ hj => hb.block j hj
theorem DkR.below (h : DkR W g d vl vr vh) (hb : Below W.heap.size W W') : DkR W' g d vl vr vh := h.kept fun j _ hj => hb.block j hj
theorem PD.below (h : PD W g d own) (hb : Below W.heap.size W W') : PD W' g d own := by obtain ⟨v, nx, left, h1, e⟩ := h; exact ⟨v, nx, left, h1.below hb, e⟩
theorem RD.below (h : RD W g d own) (hb : Below W.heap.size W W') : RD W' g d own := by obtain ⟨vl, vr, vh, h1, e⟩ := h; exact ⟨vl, vr, vh, h1.below hb, e⟩
theorem PD.kept (h : PD W g d own) (hk : ∀ j ∈ own, j < W.heap.size → W'.heap[j]? = W.heap[j]?) : PD W' g d own := by obtain ⟨v, nx, left, h1, rfl⟩ := h; exact ⟨v, nx, left, h1.kept hk, rfl⟩
theorem RD.kept (h : RD W g d own) (hk : ∀ j ∈ own, j < W.heap.size → W'.heap[j]? = W.heap[j]?) : RD W' g d own := by obtain ⟨vl, vr, vh, h1, rfl⟩ := h; exact ⟨vl, vr, vh, h1.kept hk, rfl⟩
theorem PD.lt (h : PD W g d own) : ∀ i ∈ own, i < W.heap.size := by
  obtain ⟨v, nx, left, h1, rfl⟩ := h
  intro i hi
  rcases List.mem_cons.1 hi with rfl | hi
  · exact h1.box.lt
  · rcases List.mem_append.1 hi with hi | hi
    · exact h1.row.lt i (bk_mem.1 hi)
    · exact h1.nxt.lt i (bk_mem.1 hi)
theorem RD.lt (h : RD W g d own) : ∀ i ∈ own, i < W.heap.size := by
  obtain ⟨vl, vr, vh, h1, rfl⟩ := h
  intro i hi
  rcases List.mem_cons.1 hi with rfl | hi
  · exact h1.box.lt
  · rcases List.mem_append.1 hi with hi | hi
    · rcases List.mem_append.1 hi with hi | hi
      · exact h1.rl.lt i (bk_mem.1 hi)
      · exact h1.rr.lt i (bk_mem.1 hi)
    · exact h1.rh.lt i (bk_mem.1 hi)
theorem Stp.same {K : World → List Nat → Prop} (h : K W' own) (hb : Below W.heap.size W W') : Stp K W W' own := ⟨own, h, Fr.of_below hb, fun i hi => .inl hi⟩
end

end Go.Proofs.Ytclfgkeepmdmjaa
