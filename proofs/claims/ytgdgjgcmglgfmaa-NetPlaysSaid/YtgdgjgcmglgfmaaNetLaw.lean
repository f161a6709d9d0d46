/- The contracts in a law's words: a net that the law made, and nothing that was there has turned. No condition. -/
import Derived.Test.YtgdgjgcmglgfmaaNetTake
import Derived.Test.YtgdgjgcmglgfmaaNetNil
namespace Go.Proofs.Ytgdgjgcmglgfmaa

open Go.RowKit

open Go.ChangeMaps (setBlock)

set_option linter.unusedVariables false
set_option linter.unusedSimpArgs false

/-- Boxes of the law's own: where each lies, what it holds. -/
abbrev Bxs := List (Nat × Array Value × TypeId)
/-- The law's net holds these bags, boxes stand beside it, and nothing that was there at W has turned. -/
def LawN (W V : World) (g : Nat) (bs : Bags) (L : Bxs) : Prop := ∃ own, NetC V g bs own ∧ Below W.heap.size W V ∧ (∀ i ∈ own, W.heap.size ≤ i) ∧ ∀ b ∈ L, BoxC V b.1 b.2.1 b.2.2 ∧ W.heap.size ≤ b.1 ∧ b.1 ∉ own
section

variable {W V V' : World} {g : Nat} {bs bs' : Bags} {L : Bxs}

theorem LawN.made (W : World) : LawN W (W.alloc (.cells #[.map none] 62)) W.heap.size [] [] :=
  ⟨[W.heap.size], NetC.made W, (Below.refl _ _).alloc (Nat.le_refl _) _, (fun i hi => by simp at hi; omega), fun b hb => by cases hb⟩
theorem LawN.madeB (hb : Below W.heap.size W V) : LawN W (V.alloc (.cells #[.map none] 62)) V.heap.size [] [] :=
  ⟨[V.heap.size], NetC.made V, hb.alloc hb.size _, (fun i hi => by simp at hi; have := hb.size; omega), fun b hb => by cases hb⟩
theorem LawN.bel (h : LawN W V g bs L) : Below W.heap.size W V := by obtain ⟨_, _, h, _⟩ := h; exact h
theorem LawN.good (h : LawN W V g bs L) : Good bs := by obtain ⟨_, h, _, _⟩ := h; exact h.good
theorem LawN.box (h : LawN W V g bs L) (i G : Nat) (cs : Array Value) (t : TypeId) (hi : L[i]? = some (G, cs, t)) : BoxC V G cs t := by
  obtain ⟨_, _, _, _, h⟩ := h
  exact (h _ (List.mem_of_getElem? hi)).1
theorem LawN.later (h : LawN W V g bs L) (hb : Below V.heap.size V V') : LawN W V' g bs L := by
  obtain ⟨own, h1, h2, h3, h4⟩ := h
  exact ⟨own, h1.below hb, h2.trans (hb.mono h2.size), h3, fun b hbm => ⟨(h4 b hbm).1.below hb, (h4 b hbm).2⟩⟩
theorem LawN.more (h : LawN W V g bs L) (cs : Array Value) (t : TypeId) : LawN W (V.alloc (.cells cs t)) g bs ((V.heap.size, cs, t) :: L) := by
  obtain ⟨own, h1, h2, h3, h4⟩ := h.later ((Below.refl _ _).alloc (Nat.le_refl _) (.cells cs t))
  obtain ⟨own0, g1, g2, g3, g4⟩ := h
  refine ⟨own0, g1.below ((Below.refl _ _).alloc (Nat.le_refl _) _), h2, g3, fun b hb => ?_⟩
  rcases List.mem_cons.1 hb with rfl | hb
  · exact ⟨BoxC.new V cs t, g2.size, fun e => by have := g1.lt _ e; simp at this⟩
  · exact ⟨(g4 b hb).1.below ((Below.refl _ _).alloc (Nat.le_refl _) _), (g4 b hb).2⟩
/-- The first box is written to. -/
theorem LawN.set {G : Nat} {cs : Array Value} {t : TypeId} (h : LawN W V g bs ((G, cs, t) :: L)) (hl : ∀ b ∈ L, b.1 ≠ G) (ht : t ≠ 5) (i : Nat) (u : Value) : LawN W (V.setCell ⟨G, i, none⟩ u) g bs ((G, cs.setIfInBounds i u, t) :: L) := by
  obtain ⟨own, h1, h2, h3, h4⟩ := h
  obtain ⟨hb, hG, hn⟩ := h4 _ (List.mem_cons_self ..)
  refine ⟨own, h1.moved (by simp [World.setCell]) (fun b cur fr hc => Below.heap_setCell _ _ _ _ (fun e => ?_)) (fun j hj => Below.heap_setCell _ _ _ _ (fun e => hn (by rw [show G = j from e.symm]; exact hj))), h2.setCell hG _, h3, fun b hbm => ?_⟩
  · have e' : b = G := e
    rw [e', show V.heap[G]? = _ from hb] at hc
    injection hc with hc; injection hc with _ hc2
    exact ht hc2
  · rcases List.mem_cons.1 hbm with rfl | hbm
    · exact ⟨hb.set i u, hG, hn⟩
    · exact ⟨(h4 b (List.mem_cons_of_mem _ hbm)).1.far i u (hl b hbm), (h4 b (List.mem_cons_of_mem _ hbm)).2⟩
theorem LawN.on {own : List Nat} (h2 : Below W.heap.size W V) (h3 : ∀ i ∈ own, W.heap.size ≤ i) (h4 : ∀ b ∈ L, BoxC V b.1 b.2.1 b.2.2 ∧ W.heap.size ≤ b.1 ∧ b.1 ∉ own) (hs : Step V V' g own bs') : LawN W V' g bs' L := by
  obtain ⟨own', g4, g5, g6⟩ := hs
  refine ⟨own', g4, g5.below h2 h2.size h3, fun i hi => (g6 i hi).elim (h3 i) fun h => Nat.le_trans h2.size h, fun b hb => ?_⟩
  obtain ⟨k1, k2, k3⟩ := h4 b hb
  refine ⟨box_fr k1 g5 k3, k2, fun e => ?_⟩
  rcases g6 _ e with h | h
  · exact k3 h
  · have := k1.lt; omega
variable (f t i : Int) (a : Option Addr) (n c : Nat) (l : Pk)

theorem send_yes_law (h : LawN W V g bs L) (hl : BAt V V.heap.size a n l) (hm : n ≤ 1099511627776) (hlt : (getB bs (f, t)).length < 64) :
    Calls Try.prog 18 #[.pointer (some ⟨g, 0, none⟩), .int .i64 f, .int .i64 t, .slice a n c] V fun e w' => e = .returned (.bool true) ∧ LawN W w' g (keepB bs (f, t) (getB bs (f, t) ++ [l])) L := by
  obtain ⟨own, h1, h2, h3, h4⟩ := h
  refine (send_any V g bs own f t a n c l h1 hl hm).mono fun e w' ⟨he, hs⟩ => ?_
  rw [decide_eq_true hlt] at he
  rw [if_pos hlt] at hs
  exact ⟨he, LawN.on h2 h3 h4 hs⟩
theorem send_no_law (h : LawN W V g bs L) (hl : BAt V V.heap.size a n l) (hm : n ≤ 1099511627776) (hlt : ¬ (getB bs (f, t)).length < 64) :
    Calls Try.prog 18 #[.pointer (some ⟨g, 0, none⟩), .int .i64 f, .int .i64 t, .slice a n c] V fun e w' => e = .returned (.bool false) ∧ LawN W w' g bs L := by
  obtain ⟨own, h1, h2, h3, h4⟩ := h
  refine (send_any V g bs own f t a n c l h1 hl hm).mono fun e w' ⟨he, hs⟩ => ?_
  rw [decide_eq_false hlt] at he
  rw [if_neg hlt] at hs
  exact ⟨he, LawN.on h2 h3 h4 hs⟩
theorem count_law (h : LawN W V g bs L) (ht : tot bs < 9223372036854775808) :
    Calls Try.prog 12 #[.pointer (some ⟨g, 0, none⟩)] V fun e w' => e = .returned (.int .i64 (tot bs : Nat)) ∧ LawN W w' g bs L := by
  have h0 := h
  obtain ⟨own, h1, h2, h3, h4⟩ := h
  exact (count_any V g bs own h1 ht).mono fun e w' ⟨he, hb⟩ => ⟨he, h0.later hb⟩
theorem take_yes_law (j : Nat) (h : LawN W V g bs L) (hm : (getB bs (f, t)).length ≤ 1099511627776) (hj : j < (getB bs (f, t)).length) :
    Calls Try.prog 20 #[.pointer (some ⟨g, 0, none⟩), .int .i64 f, .int .i64 t, .int .i64 (j : Nat)] V fun e w' => ∃ v, e = .returned (.tuple #[v, .bool true]) ∧ PkAt w' v ((getB bs (f, t))[j]) ∧ LawN W w' g (keepB bs (f, t) ((getB bs (f, t)).eraseIdx j)) L := by
  obtain ⟨own, h1, h2, h3, h4⟩ := h
  refine (take_any V g bs own f t (j : Nat) h1 hm).mono fun e w' hr => ?_
  rcases hr with ⟨j', hj', v, e1, he, hp, hs⟩ | ⟨hno, _⟩
  · have : j = j' := by omega
    subst this
    exact ⟨v, he, hp, LawN.on h2 h3 h4 hs⟩
  · exact absurd ⟨by omega, by omega⟩ hno
theorem take_no_law (h : LawN W V g bs L) (hm : (getB bs (f, t)).length ≤ 1099511627776) (hj : ¬ (0 ≤ i ∧ i < (getB bs (f, t)).length)) :
    Calls Try.prog 20 #[.pointer (some ⟨g, 0, none⟩), .int .i64 f, .int .i64 t, .int .i64 i] V fun e w' => e = .returned (.tuple #[.slice none 0 0, .bool false]) ∧ LawN W w' g bs L := by
  obtain ⟨own, h1, h2, h3, h4⟩ := h
  refine (take_any V g bs own f t i h1 hm).mono fun e w' hr => ?_
  rcases hr with ⟨j', hj', v, e1, _⟩ | ⟨_, he, hs⟩
  · exact absurd ⟨by omega, by omega⟩ hj
  · exact ⟨he, LawN.on h2 h3 h4 hs⟩
theorem double_full_law (h : LawN W V g bs L) (hB : ∀ l ∈ getB bs (f, t), l.length ≤ 1099511627776) (hlt : ¬ (getB bs (f, t)).length < 64) :
    Calls Try.prog 19 #[.pointer (some ⟨g, 0, none⟩), .int .i64 f, .int .i64 t, .int .i64 i] V fun e w' => e = .returned (.bool false) ∧ LawN W w' g bs L := by
  obtain ⟨own, h1, h2, h3, h4⟩ := h
  refine (double_any V g bs own f t i h1 hB).mono fun e w' hr => ?_
  rcases hr with ⟨j', hj', e1, he, hs⟩ | ⟨_, he, hs⟩
  · rw [decide_eq_false hlt] at he
    rw [if_neg hlt] at hs
    exact ⟨he, LawN.on h2 h3 h4 hs⟩
  · exact ⟨he, LawN.on h2 h3 h4 hs⟩
end

/-- A packet's slice and its first byte. -/
theorem PkAt.byte {W : World} {v : Value} {x : UInt8} (h : PkAt W v [x]) : ∃ b off c, v = .slice (some ⟨b, off, none⟩) 1 c ∧ W.cell? ⟨b, off, none⟩ = some (.int .u8 (x.toNat : Int)) := by
  obtain ⟨a, n, c, rfl, hb, _⟩ := h
  have hn : n = 1 := by have := hb.len; simpa using this.symm
  subst hn
  rcases hb with ⟨_, h | ⟨b, off, rfl, _, hc⟩⟩
  · cases h
  · exact ⟨b, off, c, rfl, by have := hc 0 (by simp); simpa using this⟩
end Go.Proofs.Ytgdgjgcmglgfmaa
