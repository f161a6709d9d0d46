/- What an operation leaves alone. No condition. -/
import Derived.Test.YtclfgkeepmdmjaaBox

namespace Go.Proofs.Ytclfgkeepmdmjaa

open Go.RowKit

set_option linter.unusedVariables false

/-- Nothing but what is named has turned. -/
structure Fr (W W' : World) (own : List Nat) : Prop where
  os : W'.os = W.os
  tape : W'.tape = W.tape
  output : W'.output = W.output
  size : W.heap.size ≤ W'.heap.size
  block : ∀ i, i < W.heap.size → i ∉ own → W'.heap[i]? = W.heap[i]?
theorem Fr.of_below {W W' : World} {own : List Nat} (h : Below W.heap.size W W') : Fr W W' own := ⟨h.os, h.tape, h.output, h.size, fun i hi _ => h.block i hi⟩
section

variable {W W' W'' : World} {own : List Nat}

theorem Fr.trans {own' : List Nat} (h : Fr W W' own) (h' : Fr W' W'' own') (ho : ∀ i ∈ own', i ∈ own ∨ W.heap.size ≤ i) : Fr W W'' own :=
  ⟨h'.os.trans h.os, h'.tape.trans h.tape, h'.output.trans h.output, Nat.le_trans h.size h'.size, fun i hi hn => (h'.block i (Nat.lt_of_lt_of_le hi h.size) (fun e => by
    rcases ho i e with h1 | h1
    · exact hn h1
    · omega)).trans (h.block i hi hn)⟩
theorem Fr.below {B : Nat} {w0 : World} (hb : Below B w0 W) (h : Fr W W' own) (hB : B ≤ W.heap.size) (ho : ∀ i ∈ own, B ≤ i) : Below B w0 W' :=
  ⟨h.os.trans hb.os, h.tape.trans hb.tape, h.output.trans hb.output, Nat.le_trans hb.size h.size, fun i hi => (h.block i (by omega) (fun e => by have := ho i e; omega)).trans (hb.block i hi)⟩
end

theorem box_fr {W V : World} {G : Nat} {cs : Array Value} {t : TypeId} {own : List Nat} (h : BoxC W G cs t) (hF : Fr W V own) (hn : G ∉ own) : BoxC V G cs t := (hF.block G (lt_of_heap h) hn).trans h
end Go.Proofs.Ytclfgkeepmdmjaa
