/- The program's disk and the document's, side by side, with boxes beside them. No condition. -/
import Derived.Test.YtclfgkeepmdmjaaDiskRefCut

import Derived.Test.YtclfgkeepmdmjaaDiskLaw

namespace Go.Proofs.Ytclfgkeepmdmjaa

open Go.RowKit

set_option linter.unusedVariables false
set_option linter.unusedSimpArgs false

/-- Boxes beside them: where each lies, what it holds. -/
abbrev Bxd := List (Nat × Array Value × TypeId)
def Duo (W V : World) (g h : Nat) (d e : Dk) (L : Bxd) : Prop := ∃ o1 o2, PD V g d o1 ∧ RD V h e o2 ∧ Below W.heap.size W V ∧ (∀ i ∈ o1, W.heap.size ≤ i) ∧ (∀ i ∈ o2, W.heap.size ≤ i ∧ i ∉ o1) ∧ ∀ b ∈ L, BoxC V b.1 b.2.1 b.2.2 ∧ W.heap.size ≤ b.1 ∧ b.1 ∉ o1 ∧ b.1 ∉ o2
section

variable {W V V' : World} {g h g' h' : Nat} {d e d' e' : Dk} {L : Bxd}

theorem Duo.bel (T : Duo W V g h d e L) : Below W.heap.size W V := by obtain ⟨_, _, _, _, h, _⟩ := T; exact h
theorem Duo.box (T : Duo W V g h d e L) (i G : Nat) (cs : Array Value) (t : TypeId) (hi : L[i]? = some (G, cs, t)) : BoxC V G cs t := by
  obtain ⟨_, _, _, _, _, _, _, h⟩ := T
  exact (h _ (List.mem_of_getElem? hi)).1
theorem Duo.later (T : Duo W V g h d e L) (hb : Below V.heap.size V V') : Duo W V' g h d e L := by
  obtain ⟨o1, o2, h1, h2, h3, h4, h5, h6⟩ := T
  exact ⟨o1, o2, h1.below hb, h2.below hb, h3.trans (hb.mono h3.size), h4, h5, fun b hm => ⟨(h6 b hm).1.below hb, (h6 b hm).2⟩⟩
theorem Duo.drewN (T : Duo W V g h d e L) (q : Nat) : Duo W (V.drewN q) g h d e L := T.later (below_drewN q (Below.refl _ _))
theorem Duo.drew (T : Duo W V g h d e L) : Duo W V.drew g h d e L := T.drewN 1
theorem Duo.sub (T : Duo W V g h d e L) (L' : Bxd) (hs : ∀ b ∈ L', b ∈ L) : Duo W V g h d e L' := by
  obtain ⟨o1, o2, h1, h2, h3, h4, h5, h6⟩ := T
  exact ⟨o1, o2, h1, h2, h3, h4, h5, fun b hm => h6 b (hs b hm)⟩
theorem Duo.more (T : Duo W V g h d e L) (cs : Array Value) (t : TypeId) : Duo W (V.alloc (.cells cs t)) g h d e ((V.heap.size, cs, t) :: L) := by
  obtain ⟨o1, o2, h1, h2, h3, h4, h5, h6⟩ := T
  have hb : Below V.heap.size V (V.alloc (.cells cs t)) := (Below.refl _ _).alloc (Nat.le_refl _) _
  refine ⟨o1, o2, h1.below hb, h2.below hb, h3.trans (hb.mono h3.size), h4, h5, fun b hm => ?_⟩
  rcases List.mem_cons.1 hm with rfl | hm
  · exact ⟨BoxC.new V cs t, h3.size, fun e => by have := h1.lt _ e; simp at this, fun e => by have := h2.lt _ e; simp at this⟩
  · exact ⟨(h6 b hm).1.below hb, (h6 b hm).2⟩
/-- The first box is written to. -/
theorem Duo.set {G : Nat} {cs : Array Value} {t : TypeId} (T : Duo W V g h d e ((G, cs, t) :: L)) (hl : ∀ b ∈ L, b.1 ≠ G) (i : Nat) (u : Value) : Duo W (V.setCell ⟨G, i, none⟩ u) g h d e ((G, cs.setIfInBounds i u, t) :: L) := by
  obtain ⟨o1, o2, h1, h2, h3, h4, h5, h6⟩ := T
  obtain ⟨hb, hG, hn1, hn2⟩ := h6 _ (List.mem_cons_self ..)
  refine ⟨o1, o2, h1.kept fun j hj _ => Below.heap_setCell _ _ _ _ (fun e => hn1 (by rw [show G = j from e.symm]; exact hj)), h2.kept fun j hj _ => Below.heap_setCell _ _ _ _ (fun e => hn2 (by rw [show G = j from e.symm]; exact hj)), h3.setCell hG _, h4, h5, fun b hm => ?_⟩
  rcases List.mem_cons.1 hm with rfl | hm
  · exact ⟨hb.set i u, hG, hn1, hn2⟩
  · exact ⟨(h6 b (List.mem_cons_of_mem _ hm)).1.far i u (hl b hm), (h6 b (List.mem_cons_of_mem _ hm)).2⟩
theorem Duo.onP {o1 o2 o1' : List Nat} (h1 : PD V g d o1) (h2 : RD V h e o2) (h3 : Below W.heap.size W V) (h4 : ∀ i ∈ o1, W.heap.size ≤ i) (h5 : ∀ i ∈ o2, W.heap.size ≤ i ∧ i ∉ o1) (h6 : ∀ b ∈ L, BoxC V b.1 b.2.1 b.2.2 ∧ W.heap.size ≤ b.1 ∧ b.1 ∉ o1 ∧ b.1 ∉ o2)
    (k1 : PD V' g' d' o1') (k2 : Fr V V' o1) (k3 : ∀ i ∈ o1', i ∈ o1 ∨ V.heap.size ≤ i) : Duo W V' g' h d' e L := by
  refine ⟨o1', o2, k1, h2.kept fun j hj hlt => k2.block j hlt (h5 j hj).2, k2.below h3 h3.size h4, fun i hi => (k3 i hi).elim (h4 i) fun h => Nat.le_trans h3.size h, fun i hi => ⟨(h5 i hi).1, fun e => ?_⟩, fun b hm => ?_⟩
  · rcases k3 i e with h | h
    · exact (h5 i hi).2 h
    · have := h2.lt i hi; omega
  · obtain ⟨m1, m2, m3, m4⟩ := h6 b hm
    refine ⟨box_fr m1 k2 m3, m2, fun e => ?_, m4⟩
    rcases k3 _ e with h | h
    · exact m3 h
    · have := m1.lt; omega
theorem Duo.onR {o1 o2 o2' : List Nat} (h1 : PD V g d o1) (h2 : RD V h e o2) (h3 : Below W.heap.size W V) (h4 : ∀ i ∈ o1, W.heap.size ≤ i) (h5 : ∀ i ∈ o2, W.heap.size ≤ i ∧ i ∉ o1) (h6 : ∀ b ∈ L, BoxC V b.1 b.2.1 b.2.2 ∧ W.heap.size ≤ b.1 ∧ b.1 ∉ o1 ∧ b.1 ∉ o2)
    (k1 : RD V' h' e' o2') (k2 : Fr V V' o2) (k3 : ∀ i ∈ o2', i ∈ o2 ∨ V.heap.size ≤ i) : Duo W V' g h' d e' L := by
  refine ⟨o1, o2', h1.kept fun j hj hlt => k2.block j hlt (fun e => (h5 j e).2 hj), k1, k2.below h3 h3.size (fun i hi => (h5 i hi).1), h4, fun i hi => ?_, fun b hm => ?_⟩
  · rcases k3 i hi with h | h
    · exact h5 i h
    · exact ⟨Nat.le_trans h3.size h, fun e => by have := h1.lt i e; omega⟩
  · obtain ⟨m1, m2, m3, m4⟩ := h6 b hm
    refine ⟨box_fr m1 k2 m4, m2, m3, fun e => ?_⟩
    rcases k3 _ e with h | h
    · exact m4 h
    · have := m1.lt; omega
/-- The document's box. -/
theorem Duo.rbox (T : Duo W V g h d e L) : ∃ vl vr vh, DkR V h e vl vr vh := by
  obtain ⟨_, _, _, ⟨vl, vr, vh, h2, _⟩, _⟩ := T
  exact ⟨vl, vr, vh, h2⟩
section

variable {a : Option Addr} {n c : Nat} {l : List UInt8} {k : Int}

theorem Duo.far (T : Duo W V g h d e L) (hb : BAt W W.heap.size a n l) : ∀ b off, a = some ⟨b, off, none⟩ → 0 < n → b ≠ h := by
  obtain ⟨o1, o2, _, ⟨vl, vr, vh, _, rfl⟩, _, _, h5, _⟩ := T
  intro b off ha hn e
  obtain ⟨b', off', e', hlt⟩ := hb.addr hn
  rw [ha] at e'; injection e' with e'; injection e' with e'
  have := (h5 h (List.mem_cons_self ..)).1
  omega
theorem Duo.bat (T : Duo W V g h d e L) (hb : BAt W W.heap.size a n l) : BAt V V.heap.size a n l := (hb.below T.bel (Nat.le_refl _)).more T.bel.size
theorem pAppend (T : Duo W V g h d e L) (hl : d.fuse < 9223372036854775808) (hM : BndD d 1099511627776) (hb : BAt W W.heap.size a n l) (hn : n ≤ 1099511627776) :
    Calls Try.prog 18 #[.pointer (some ⟨g, 0, none⟩), .slice a n c] V fun x w' => x = .returned (.int .i64 (appE d l)) ∧ Duo W w' g h (appD d l) e L := by
  have hb' := T.bat hb
  obtain ⟨o1, o2, h1, h2, h3, h4, h5, h6⟩ := T
  exact (append_any h1 hl hM.1 hb' hn).mono fun x w' ⟨hx, o', k1, k2, k3⟩ => ⟨hx, Duo.onP h1 h2 h3 h4 h5 h6 k1 k2 k3⟩
theorem dAppend (T : Duo W V g h d e L) (hl : e.fuse < 9223372036854775808) (hM : BndD e 1099511627776) (hb : BAt W W.heap.size a n l) (hn : n ≤ 1099511627776) :
    Calls Try.prog 24 #[.pointer (some ⟨h, 0, none⟩), .slice a n c] V fun x w' => x = .returned (.int .i64 (appE e l)) ∧ Duo W w' g h d (appD e l) L := by
  have hb' := T.bat hb
  have hf := T.far hb
  obtain ⟨o1, o2, h1, h2, h3, h4, h5, h6⟩ := T
  exact (rappend_any h2 hl hM.1 hb' hn hf).mono fun x w' ⟨hx, o', k1, k2, k3⟩ => ⟨hx, Duo.onR h1 h2 h3 h4 h5 h6 k1 k2 k3⟩
theorem pReplace (T : Duo W V g h d e L) (hl : d.fuse < 9223372036854775808) (hb : BAt W W.heap.size a n l) (hn : n ≤ 1099511627776) :
    Calls Try.prog 23 #[.pointer (some ⟨g, 0, none⟩), .slice a n c] V fun x w' => x = .returned (.int .i64 (repE d l)) ∧ Duo W w' g h (repD d l) e L := by
  have hb' := T.bat hb
  obtain ⟨o1, o2, h1, h2, h3, h4, h5, h6⟩ := T
  exact (replace_any h1 hl hb' hn).mono fun x w' ⟨hx, o', k1, k2, k3⟩ => ⟨hx, Duo.onP h1 h2 h3 h4 h5 h6 k1 k2 k3⟩
theorem dReplace (T : Duo W V g h d e L) (hl : e.fuse < 9223372036854775808) (hb : BAt W W.heap.size a n l) (hn : n ≤ 1099511627776) :
    Calls Try.prog 26 #[.pointer (some ⟨h, 0, none⟩), .slice a n c] V fun x w' => x = .returned (.int .i64 (repE e l)) ∧ Duo W w' g h d (repD e l) L := by
  have hb' := T.bat hb
  obtain ⟨o1, o2, h1, h2, h3, h4, h5, h6⟩ := T
  exact (rreplace_any h2 hl hb' hn).mono fun x w' ⟨hx, o', k1, k2, k3⟩ => ⟨hx, Duo.onR h1 h2 h3 h4 h5 h6 k1 k2 k3⟩
end

theorem pSync (T : Duo W V g h d e L) (hl : d.fuse < 9223372036854775808) :
    Calls Try.prog 19 #[.pointer (some ⟨g, 0, none⟩)] V fun x w' => x = .returned (.int .i64 (synE d)) ∧ Duo W w' g h (synD d) e L := by
  obtain ⟨o1, o2, h1, h2, h3, h4, h5, h6⟩ := T
  have h1' := h1
  obtain ⟨v, nx, left, hp, rfl⟩ := h1'
  exact (sync_any hp hl).mono fun x w' ⟨hx, ⟨left', hd⟩, hf⟩ => ⟨hx, Duo.onP h1 h2 h3 h4 h5 h6 ⟨v, nx, _, hd, rfl⟩ (hf.wide fun i hi => by simp at hi; simp [hi]) fun i hi => .inl hi⟩
theorem dSync (T : Duo W V g h d e L) (hl : e.fuse < 9223372036854775808) (hM : BndD e 1099511627776) :
    Calls Try.prog 25 #[.pointer (some ⟨h, 0, none⟩)] V fun x w' => x = .returned (.int .i64 (synE e)) ∧ Duo W w' g h d (synD e) L := by
  obtain ⟨o1, o2, h1, h2, h3, h4, h5, h6⟩ := T
  exact (rsync_any h2 hl hM.1).mono fun x w' ⟨hx, o', k1, k2, k3⟩ => ⟨hx, Duo.onR h1 h2 h3 h4 h5 h6 k1 k2 k3⟩
theorem pFuse (n : Int) (T : Duo W V g h d e L) : Calls Try.prog 22 #[.pointer (some ⟨g, 0, none⟩), .int .i64 n] V fun x w' => x = .returned (.tuple #[]) ∧ Duo W w' g h (fusD d n) e L := by
  obtain ⟨o1, o2, h1, h2, h3, h4, h5, h6⟩ := T
  have h1' := h1
  obtain ⟨v, nx, left, hp, rfl⟩ := h1'
  exact (fuse_any n hp).mono fun x w' ⟨hx, hd, hf⟩ => ⟨hx, Duo.onP h1 h2 h3 h4 h5 h6 ⟨v, nx, _, hd, rfl⟩ (hf.wide fun i hi => by simp at hi; simp [hi]) fun i hi => .inl hi⟩
theorem Duo.dFuse (n : Int) (T : Duo W V g h d e L) : Duo W (V.setCell ⟨h, 3, none⟩ (.int .i64 (max n (-1)))) g h d (fusD e n) L := by
  obtain ⟨o1, o2, h1, h2, h3, h4, h5, h6⟩ := T
  have h2' := h2
  obtain ⟨vl, vr, vh, hp, rfl⟩ := h2'
  exact Duo.onR h1 h2 h3 h4 h5 h6 ⟨vl, vr, vh, hp.setFuse _, rfl⟩ ((Fr.set V h 3 _).wide fun i hi => by simp at hi; simp [hi]) fun i hi => .inl hi
theorem pCut (k : Int) (T : Duo W V g h d e L) (hM : BndD d 1099511627776) (hk1 : -9223372036854775808 ≤ k) (hk2 : k < 9223372036854775808) :
    Calls Try.prog 20 #[.pointer (some ⟨g, 0, none⟩), .int .i64 k] V fun x w' => ∃ g', x = .returned (.pointer (some ⟨g', 0, none⟩)) ∧ Duo W w' g' h (cutD d k) e L ∧ ∃ own, PD w' g (downD d) own := by
  obtain ⟨o1, o2, h1, h2, h3, h4, h5, h6⟩ := T
  refine (cut_any k h1 hM hk1 hk2).mono fun x w' ⟨g', o', hx, k1, k2, k3, k4⟩ => ?_
  have hf : Fr V w' o1 := k3.wide fun i hi => by
    obtain ⟨v, nx, left, _, rfl⟩ := h1
    simp at hi; simp [hi]
  exact ⟨g', hx, Duo.onP h1 h2 h3 h4 h5 h6 k2 hf fun i hi => .inr (k4 i hi), _, k1⟩
theorem dCut (k : Int) (T : Duo W V g h d e L) (hM : BndD e 1099511627776) (hk1 : -9223372036854775808 ≤ k) (hk2 : k < 9223372036854775808) :
    Calls Try.prog 27 #[.pointer (some ⟨h, 0, none⟩), .int .i64 k] V fun x w' => ∃ h', x = .returned (.pointer (some ⟨h', 0, none⟩)) ∧ Duo W w' g h' d (cutD e k) L := by
  obtain ⟨o1, o2, h1, h2, h3, h4, h5, h6⟩ := T
  refine (rcut_any k h2 hM hk1 hk2).mono fun x w' ⟨g', o', hx, k1, k2, k3, k4⟩ => ?_
  have hf : Fr V w' o2 := k3.wide fun i hi => by
    obtain ⟨vl, vr, vh, _, rfl⟩ := h2
    simp at hi; simp [hi]
  exact ⟨g', hx, Duo.onR h1 h2 h3 h4 h5 h6 k2 hf fun i hi => .inr (k4 i hi)⟩
theorem pd_down {own : List Nat} (h : PD V g d own) : Calls Try.prog 13 #[.pointer (some ⟨g, 0, none⟩)] V fun x w' => x = .returned (.bool d.down) ∧ V = w' := by
  obtain ⟨v, nx, left, hp, _⟩ := h
  exact down_any hp.box
theorem pDown (T : Duo W V g h d e L) : Calls Try.prog 13 #[.pointer (some ⟨g, 0, none⟩)] V fun x w' => x = .returned (.bool d.down) ∧ V = w' := by
  obtain ⟨o1, _, h1, _⟩ := T
  exact pd_down h1
theorem pLasting (T : Duo W V g h d e L) : Calls Try.prog 14 #[.pointer (some ⟨g, 0, none⟩)] V fun x w' => x = .returned (.int .i64 d.la.length) ∧ V = w' := by
  obtain ⟨o1, _, ⟨v, nx, left, hp, _⟩, _⟩ := T
  exact lasting_any hp
theorem pBytes (T : Duo W V g h d e L) (hM : BndD d 1099511627776) : Calls Try.prog 16 #[.pointer (some ⟨g, 0, none⟩)] V fun x w' => ∃ a n c, x = .returned (.slice a n c) ∧ BAt w' w'.heap.size a n (d.la ++ d.re) ∧ n ≤ maxLen ∧ Duo W w' g h d e L ∧ Below V.heap.size V w' := by
  have T0 := T
  obtain ⟨o1, _, ⟨v, nx, left, hp, _⟩, _⟩ := T
  refine (bytes_any hp hM.1).mono fun x w' ⟨a, n, c, hx, ho, hb⟩ => ?_
  obtain ⟨hnc, hcm⟩ := own_caps ho
  exact ⟨a, n, c, hx, BAt.of_own ho, Nat.le_trans hnc hcm, T0.later hb, hb⟩
theorem dBytes (T : Duo W V g h d e L) (hM : BndD e 1099511627776) : Calls Try.prog 17 #[.pointer (some ⟨h, 0, none⟩)] V fun x w' => ∃ a n c, x = .returned (.slice a n c) ∧ BAt w' w'.heap.size a n (e.la ++ e.re) ∧ n ≤ maxLen ∧ Duo W w' g h d e L ∧ Below V.heap.size V w' := by
  have T0 := T
  obtain ⟨_, o2, _, ⟨vl, vr, vh, hp, _⟩, _⟩ := T
  refine (rbytes_any hp hM.1).mono fun x w' ⟨a, n, c, hx, ho, hb⟩ => ?_
  obtain ⟨hnc, hcm⟩ := own_caps ho
  exact ⟨a, n, c, hx, BAt.of_own ho, Nat.le_trans hnc hcm, T0.later hb, hb⟩
/-- Both are made. -/
theorem Duo.made {n : Int} {w1 w2 : World} (hb : Below W.heap.size W V) (b1 : Below V.heap.size V w1) (h1 : DkP w1 V.heap.size (newD n) (.slice none 0 0) (.slice none 0 0) 0) (b2 : Below w1.heap.size w1 w2) (h2 : DkR w2 w1.heap.size (newD n) (.slice none 0 0) (.slice none 0 0) (.slice none 0 0)) :
    Duo W w2 V.heap.size w1.heap.size (newD n) (newD n) [] := by
  have hs := hb.size
  have hs1 := b1.size
  have hlt := h1.box.lt
  refine ⟨[V.heap.size], [w1.heap.size], ⟨_, _, _, h1.below b2, rfl⟩, ⟨_, _, _, h2, rfl⟩, (hb.trans (b1.mono hs)).trans (b2.mono (Nat.le_trans hs hs1)), fun i hi => by simp at hi; omega, fun i hi => ?_, fun b hb => by cases hb⟩
  simp at hi
  exact ⟨by omega, by simp; omega⟩
end

end Go.Proofs.Ytclfgkeepmdmjaa
