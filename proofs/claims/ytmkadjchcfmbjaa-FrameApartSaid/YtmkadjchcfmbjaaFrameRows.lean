/- Words for lists of lists of bytes in memory: a row of the call's own that holds slices, and append onto it; the document's comparison of two such lists. No condition. -/
import Derived.Test.YtmkadjchcfmbjaaFrameUnwrap
namespace Go.Proofs.Ytmkadjchcfmbjaa
open Go.RowKit

theorem Try.info22 : (Try.prog.info? 22).map (fun i => (i.zero, i.size, i.bytes)) = some (some (.slice none 0 0), 1, 24) := by kernel_rfl

theorem BAt.moved {w w' : World} {B B' n : Nat} {a : Option Addr} {l : List UInt8} (h : BAt w B a n l) (hB : B ≤ B') (hk : ∀ b off, a = some ⟨b, off, none⟩ → 0 < n → b < B → w'.heap[b]? = w.heap[b]?) : BAt w' B' a n l := by
  rcases h with ⟨hn, h | ⟨b, off, ha, hb, hc⟩⟩
  · exact ⟨hn, .inl h⟩
  · rcases Nat.eq_zero_or_pos n with h0 | h0
    · exact ⟨hn, .inl h0⟩
    · exact ⟨hn, .inr ⟨b, off, ha, by omega, fun i hi => (World.cell?_of_block (hk b off ha h0 hb)).trans (hc i hi)⟩⟩

/-- Slices xs that read as the lists ls, each in a block of S, none in block g. -/
def Els (w : World) (S : Nat → Prop) (g : Option Nat) (xs : List Value) (ls : List (List UInt8)) : Prop :=
  xs.length = ls.length ∧ ∀ i (h : i < ls.length), ∃ a m c, xs[i]? = some (.slice a m c) ∧ BAt w w.heap.size a m ls[i] ∧ (∀ b off, a = some ⟨b, off, none⟩ → 0 < m → S b ∧ some b ≠ g)

section
variable {w w' : World} {S : Nat → Prop} {g g' : Option Nat} {xs ys : List Value} {ls ms : List (List UInt8)}
theorem Els.nil : Els w S g [] [] := ⟨rfl, fun i h => by simp at h⟩
theorem Els.grown (h : Els w S g xs ls) (hg : w.grownBy w' g) : Els w' S g xs ls := by
  refine ⟨h.1, fun i hi => ?_⟩
  obtain ⟨a, m, c, h1, h2, h3⟩ := h.2 i hi
  exact ⟨a, m, c, h1, h2.moved hg.size fun b off ha hm hb => hg.block b hb (fun e => (h3 b off ha hm).2 e), h3⟩
theorem Els.below (h : Els w S g xs ls) (hb : Below w.heap.size w w') : Els w' S g xs ls := by
  refine ⟨h.1, fun i hi => ?_⟩
  obtain ⟨a, m, c, h1, h2, h3⟩ := h.2 i hi
  exact ⟨a, m, c, h1, (h2.below hb (Nat.le_refl _)).more hb.size, h3⟩
theorem Els.to {k : Nat} (h : Els w S g xs ls) (hk : g = some k ∨ w.heap.size ≤ k) : Els w S (some k) xs ls := by
  rcases hk with rfl | hk
  · exact h
  · refine ⟨h.1, fun i hi => ?_⟩
    obtain ⟨a, m, c, h1, h2, h3⟩ := h.2 i hi
    refine ⟨a, m, c, h1, h2, fun b off ha hm => ⟨(h3 b off ha hm).1, ?_⟩⟩
    obtain ⟨b', off', e, hlt⟩ := h2.addr hm
    rw [ha] at e; injection e with e; injection e with e; subst e
    intro e2; injection e2 with e2; omega
theorem Els.grown_to {k : Nat} (h : Els w S g xs ls) (hg : w.grownBy w' g) (hk : g = some k ∨ w.heap.size ≤ k) : Els w' S (some k) xs ls := by
  refine ⟨h.1, fun i hi => ?_⟩
  obtain ⟨a, m, c, h1, h2, h3⟩ := h.2 i hi
  refine ⟨a, m, c, h1, h2.moved hg.size fun b off ha hm hb => hg.block b hb (fun e => (h3 b off ha hm).2 e), fun b off ha hm => ⟨(h3 b off ha hm).1, ?_⟩⟩
  obtain ⟨b', off', e, hlt⟩ := h2.addr hm
  rw [ha] at e; injection e with e; injection e with e; subst e
  rcases hk with rfl | hk
  · exact (h3 b off ha hm).2
  · intro e2; injection e2 with e2; omega
theorem Els.app (h : Els w S g xs ls) (h' : Els w S g ys ms) : Els w S g (xs ++ ys) (ls ++ ms) := by
  refine ⟨by simp [h.1, h'.1], fun i hi => ?_⟩
  by_cases e : i < ls.length
  · obtain ⟨a, m, c, h1, h2, h3⟩ := h.2 i e
    refine ⟨a, m, c, ?_, ?_, h3⟩
    · rw [List.getElem?_append_left (by rw [h.1]; exact e)]; exact h1
    · rw [List.getElem_append_left e]; exact h2
  · have hi' : i - ls.length < ms.length := by simp at hi; omega
    obtain ⟨a, m, c, h1, h2, h3⟩ := h'.2 _ hi'
    refine ⟨a, m, c, ?_, ?_, h3⟩
    · rw [List.getElem?_append_right (by rw [h.1]; omega), h.1]; exact h1
    · rw [List.getElem_append_right (by omega)]; exact h2
theorem Els.one {a : Option Addr} {m c : Nat} {l : List UInt8} (h : BAt w w.heap.size a m l) (h3 : ∀ b off, a = some ⟨b, off, none⟩ → 0 < m → S b ∧ some b ≠ g) : Els w S g [.slice a m c] [l] := by
  refine ⟨rfl, fun i hi => ?_⟩
  have h0 : i = 0 := by simp at hi; exact hi
  subst h0
  exact ⟨a, m, c, rfl, h, h3⟩
theorem Els.weak {T : Nat → Prop} (h : Els w S g xs ls) (hT : ∀ b, b < w.heap.size → S b → some b ≠ g → T b ∧ some b ≠ g') : Els w T g' xs ls := by
  refine ⟨h.1, fun i hi => ?_⟩
  obtain ⟨a, m, c, h1, h2, h3⟩ := h.2 i hi
  refine ⟨a, m, c, h1, h2, fun b off ha hm => ?_⟩
  obtain ⟨b', off', e, hlt⟩ := h2.addr hm
  rw [ha] at e; injection e with e; injection e with e; subst e
  exact hT b hlt (h3 b off ha hm).1 (h3 b off ha hm).2
theorem Els.cells (h : Els w S g xs ls) : ∀ u ∈ xs, u.oneCell' = true := by
  intro u hu
  obtain ⟨i, hi, rfl⟩ := List.getElem_of_mem hu
  obtain ⟨a, m, c, h1, _, _⟩ := h.2 i (by rw [← h.1]; exact hi)
  rw [List.getElem?_eq_getElem hi] at h1
  injection h1 with h1
  rw [h1]; rfl
end

/-- A row of the call's own that reads as the lists ls; what it names lies in blocks of S. -/
def OwnRows (w0 w : World) (S : Nat → Prop) (v : Value) (n : Nat) (ls : List (List UInt8)) : Prop :=
  Below w0.heap.size w0 w ∧ ∃ xs, w.ownsRow w0.heap.size 22 1 v n xs ∧ Els w S v.ownBlock xs ls
section
variable {w0 w w' : World} {S : Nat → Prop} {v : Value} {n : Nat} {ls : List (List UInt8)}
theorem OwnRows.nil (w : World) : OwnRows w w S (.slice none 0 0) 0 [] := ⟨Below.refl _ _, [], World.ownsRow_nil _ _ _ _, Els.nil⟩
theorem OwnRows.below (h : OwnRows w0 w S v n ls) (hb : Below w.heap.size w w') : OwnRows w0 w' S v n ls := by
  obtain ⟨hB, xs, ho, he⟩ := h
  exact ⟨hB.trans (hb.mono hB.size), xs, own_below ho hb, he.below hb⟩
theorem OwnRows.len (h : OwnRows w0 w S v n ls) : ls.length = n := by
  obtain ⟨hB, xs, ho, he⟩ := h
  rw [← he.1, ho.1, Nat.mul_one]
theorem OwnRows.cast {ms : List (List UInt8)} (h : OwnRows w0 w S v n ls) (e : ls = ms) : OwnRows w0 w S v n ms := e ▸ h

/-- append of a list's slice onto such a row. -/
theorem OwnRows.push {w1 : World} {g cap m c : Nat} {a : Option Addr} {l : List UInt8} {xs : List Value} {o : Obj} (hB : Below w0.heap.size w0 w) (he : Els w S v.ownBlock xs ls) (hv : ∀ k, v.ownBlock = some k → w0.heap.size ≤ k)
    (hl : BAt w w.heap.size a m l) (hS : ∀ b off, a = some ⟨b, off, none⟩ → 0 < m → S b ∧ some b ≠ v.ownBlock)
    (ho : w1.ownsRow w0.heap.size 22 1 (.slice (some ⟨g, 0, none⟩) (n + 1) cap) (n + 1) (xs ++ [.slice a m c])) (hg : (w.alloc o).grownBy w1 v.ownBlock) (hat : v.ownBlock = some g ∨ g = w.heap.size + 1) :
    OwnRows w0 w1 S (.slice (some ⟨g, 0, none⟩) (n + 1) cap) (n + 1) (ls ++ [l]) := by
  have hb1 : Below w.heap.size w (w.alloc o) := (Below.refl _ _).alloc (Nat.le_refl _) o
  have e1 : Els (w.alloc o) S v.ownBlock (xs ++ [.slice a m c]) (ls ++ [l]) := (he.app (Els.one hl hS)).below hb1
  have hk : v.ownBlock = some g ∨ (w.alloc o).heap.size ≤ g := by
    rcases hat with h | h
    · exact .inl h
    · exact .inr (by simp; omega)
  exact ⟨(hB.alloc hB.size o).grown hg (by simp; have := hB.size; omega) hv, _, ho, e1.grown_to hg hk⟩
end

/-- A slice of slices that reads as the lists ls. -/
def RowsAt (w : World) (a : Option Addr) (n : Nat) (ls : List (List UInt8)) : Prop :=
  ls.length = n ∧ ∀ i (h : i < ls.length), ∃ b off a' m c, a = some ⟨b, off, none⟩ ∧ w.cell? ⟨b, off + i, none⟩ = some (.slice a' m c) ∧ BAt w w.heap.size a' m ls[i] ∧ m ≤ maxLen
section
variable {w0 w : World} {S : Nat → Prop} {a : Option Addr} {n c : Nat} {ls : List (List UInt8)}
theorem OwnRows.rows (h : OwnRows w0 w S (.slice a n c) n ls) (hm : ∀ l ∈ ls, l.length ≤ maxLen) : RowsAt w a n ls := by
  refine ⟨h.len, fun i hi => ?_⟩
  obtain ⟨hB, xs, ho, he⟩ := h
  obtain ⟨a', m, c', h1, h2, _⟩ := he.2 i hi
  have hn : 0 < n := by have := ho.1; have := he.1; omega
  obtain ⟨g, cap, hv, _, _⟩ := ho.form hn
  have hA : a = some ⟨g, 0, none⟩ := by injection hv
  subst hA
  have := ho.cells (g := g) rfl i _ h1
  rw [add_plain] at this
  exact ⟨g, 0, a', m, c', rfl, this, h2, by rw [← h2.len]; exact hm _ (List.getElem_mem hi)⟩
end

theorem quiet_reads {P : Program} {f : FuncId} {args : Array Value} {w : World} {n : Nat} {v : Value}
    (h : Calls P f args (w.drewN n) (Reads1 (w.drewN n) v)) : Calls P f args (w.drewN n) fun e w'' => e = .returned v ∧ ∃ m, w'' = w.drewN m :=
  h.mono fun _ _ ⟨he, k, hk⟩ => ⟨he, n + k, by rw [hk, World.drewN_drewN]⟩

set_option maxHeartbeats 1000000 in
theorem rows_same (a a' : Option Addr) (n n' c c' : Nat) (ls : List (List UInt8)) (w : World) (h : RowsAt w a n ls) (h' : RowsAt w a' n' ls) (hn : n ≤ maxLen) :
    Calls Try.prog 19 #[.slice a n c, .slice a' n' c'] w (Reads1 w (.bool true)) := by
  obtain rfl : n' = n := by rw [← h.1, ← h'.1]
  unfold maxLen at hn
  go_enter Try.func19, Try.ntmps19
  go_wp2
  go_loopw [5] (fun i wr => ∃ (k q : Nat), k ≤ n' ∧ i = .int .i64 k ∧ wr = w.drewN q) (fun i _ => n' - (intOf i).toNat)
  case atStart => exact ⟨0, 0, by omega, rfl, rfl⟩
  case round =>
    obtain ⟨k, q, hk, rfl, hwr⟩ := hrel
    have HW := Lib.hid hwr
    clear hwr
    have hlen := h.1
    by_cases hlt : k < n'
    · obtain ⟨b, off, a1, m1, c1, rfl, hc, hb1, hm1⟩ := h.2 k (by omega)
      obtain ⟨b', off', a2, m2, c2, rfl, hc', hb2, hm2⟩ := h'.2 k (by omega)
      generalize ls[k] = l at *
      have hS : ∀ q, Calls Try.prog 14 #[.slice a1 m1 c1, .slice a2 m2 c2] (wr.drewN q) (Reads1 (wr.drewN q) (.bool true)) := fun q => by rw [HW.out]; exact same_two a1 a2 m1 m2 c1 c2 _ _ l _ (hb1.drewN 0) (hb2.drewN 0) hm1
      have hd : wr.cell? ⟨b, off + k, none⟩ = some (.slice a1 m1 c1) := by rw [HW.out]; exact hc
      have hd' : wr.cell? ⟨b', off' + k, none⟩ = some (.slice a2 m2 c2) := by rw [HW.out]; exact hc'
      clear h h' hlen hb1 hb2 hc hc'
      go_upto_region 6 with (fail)
      go_quiet ((go_at_call 14; exact quiet_reads (hS _)))
      go_wp2
      go_roundw
      case rel => exact ⟨k + 1, _, by omega, by go_num, by rw [HW.out, World.drewN_drewN]⟩
      case measure => simp [intOf]; omega
    · clear hlen h h'
      go_wp2
      go_ret
      exact ⟨rfl, q, HW.out⟩
end Go.Proofs.Ytmkadjchcfmbjaa
