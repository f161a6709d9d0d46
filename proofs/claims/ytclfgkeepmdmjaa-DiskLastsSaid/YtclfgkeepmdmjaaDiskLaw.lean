/- The disk's contracts in a law's words: a disk that the law made, its rows beside it; the law's awake. No condition. -/
import Derived.Test.YtclfgkeepmdmjaaDiskCut

import Derived.Lib.SlBytesConst

namespace Go.Proofs.Ytclfgkeepmdmjaa

open Go.RowKit

set_option linter.unusedVariables false
set_option linter.unusedSimpArgs false

/-- Rows of bytes of the law's own: the slice, its bytes. -/
abbrev Rws := List (Value × List UInt8)
/-- The law's disk, rows beside it, and nothing that was there at W has turned. -/
def LawD (W V : World) (g : Nat) (d : Dk) (R : Rws) : Prop := ∃ own, PD V g d own ∧ Below W.heap.size W V ∧ (∀ i ∈ own, W.heap.size ≤ i) ∧ ∀ r ∈ R, OwnB V r.1 r.2 ∧ ∀ j, r.1.ownBlock = some j → W.heap.size ≤ j ∧ j ∉ own
section

variable {W V V' : World} {g : Nat} {d d' : Dk} {R : Rws}

theorem LawD.bel (h : LawD W V g d R) : Below W.heap.size W V := by obtain ⟨_, _, h, _⟩ := h; exact h
theorem LawD.later (h : LawD W V g d R) (hb : Below V.heap.size V V') : LawD W V' g d R := by
  obtain ⟨own, h1, h2, h3, h4⟩ := h
  exact ⟨own, h1.below hb, h2.trans (hb.mono h2.size), h3, fun r hr => ⟨(h4 r hr).1.below hb, (h4 r hr).2⟩⟩
theorem LawD.drewN (h : LawD W V g d R) (q : Nat) : LawD W (V.drewN q) g d R := h.later (below_drewN q (Below.refl _ _))
theorem LawD.drop (h : LawD W V g d R) : LawD W V g d [] := by
  obtain ⟨own, h1, h2, h3, _⟩ := h
  exact ⟨own, h1, h2, h3, fun r hr => by cases hr⟩
theorem LawD.row (h : LawD W V g d R) (i : Nat) (v : Value) (l : List UInt8) (hi : R[i]? = some (v, l)) : OwnB V v l := by
  obtain ⟨own, _, _, _, h4⟩ := h
  exact (h4 _ (List.mem_of_getElem? hi)).1
theorem LawD.on {own own' : List Nat} (h2 : Below W.heap.size W V) (h3 : ∀ i ∈ own, W.heap.size ≤ i) (h4 : ∀ r ∈ R, OwnB V r.1 r.2 ∧ ∀ j, r.1.ownBlock = some j → W.heap.size ≤ j ∧ j ∉ own)
    (g4 : PD V' g d own') (g5 : Fr V V' own) (g6 : ∀ i ∈ own', i ∈ own ∨ V.heap.size ≤ i) : LawD W V' g d R := by
  refine ⟨own', g4, g5.below h2 h2.size h3, fun i hi => (g6 i hi).elim (h3 i) fun h => Nat.le_trans h2.size h, fun r hr => ?_⟩
  obtain ⟨k1, k2⟩ := h4 r hr
  refine ⟨k1.fr g5 fun j hj => (k2 j hj).2, fun j hj => ⟨(k2 j hj).1, fun e => ?_⟩⟩
  rcases g6 _ e with h | h
  · exact (k2 j hj).2 h
  · have := k1.lt j hj; omega
theorem new_law (n : Int) (hn : n < 9223372036854775808) (hb : Below W.heap.size W V) : Calls Try.prog 10 #[.int .i64 n] V fun e w' => e = .returned (.pointer (some ⟨V.heap.size, 0, none⟩)) ∧ LawD W w' V.heap.size (newD n) [] :=
  (new_any n hn V).mono fun e w' ⟨he, hB, hD⟩ => ⟨he, [V.heap.size], ⟨_, _, _, hD, rfl⟩, hb.trans (hB.mono hb.size), fun i hi => by simp at hi; have := hb.size; omega, fun r hr => by cases hr⟩
theorem down_law (h : LawD W V g d R) : Calls Try.prog 13 #[.pointer (some ⟨g, 0, none⟩)] V fun e w' => e = .returned (.bool d.down) ∧ V = w' := by
  obtain ⟨own, ⟨v, nx, left, hp, _⟩, _⟩ := h
  exact down_any hp.box
theorem lasting_law (h : LawD W V g d R) : Calls Try.prog 14 #[.pointer (some ⟨g, 0, none⟩)] V fun e w' => e = .returned (.int .i64 d.la.length) ∧ V = w' := by
  obtain ⟨own, ⟨v, nx, left, hp, _⟩, _⟩ := h
  exact lasting_any hp
theorem bytes_law (h : LawD W V g d R) (hM : BndD d 1099511627776) : Calls Try.prog 16 #[.pointer (some ⟨g, 0, none⟩)] V fun e w' => ∃ a n c, e = .returned (.slice a n c) ∧ BAt w' w'.heap.size a n (d.la ++ d.re) ∧ n = d.la.length + d.re.length ∧ n ≤ c ∧ c ≤ maxLen ∧ LawD W w' g d R ∧ Below V.heap.size V w' := by
  have h0 := h
  obtain ⟨own, ⟨v, nx, left, hp, _⟩, _⟩ := h
  refine (bytes_any hp hM.1).mono fun e w' ⟨a, n, c, he, ho, hb⟩ => ?_
  obtain ⟨hnc, hcm⟩ := own_caps ho
  exact ⟨a, n, c, he, BAt.of_own ho, by rw [← own_len ho, List.length_append], hnc, hcm, h0.later hb, hb⟩
theorem fuse_law (n : Int) (h : LawD W V g d R) : Calls Try.prog 22 #[.pointer (some ⟨g, 0, none⟩), .int .i64 n] V fun e w' => e = .returned (.tuple #[]) ∧ LawD W w' g (fusD d n) R := by
  obtain ⟨own, ⟨v, nx, left, hp, rfl⟩, h2, h3, h4⟩ := h
  exact (fuse_any n hp).mono fun e w' ⟨he, hd, hf⟩ => ⟨he, LawD.on h2 h3 h4 ⟨v, nx, _, hd, rfl⟩ (hf.wide fun i hi => by simp at hi; simp [hi]) fun i hi => .inl hi⟩
theorem sync_law (h : LawD W V g d R) (hl : d.fuse < 9223372036854775808) : Calls Try.prog 19 #[.pointer (some ⟨g, 0, none⟩)] V fun e w' => e = .returned (.int .i64 (synE d)) ∧ LawD W w' g (synD d) R := by
  obtain ⟨own, ⟨v, nx, left, hp, rfl⟩, h2, h3, h4⟩ := h
  exact (sync_any hp hl).mono fun e w' ⟨he, ⟨left', hd⟩, hf⟩ => ⟨he, LawD.on h2 h3 h4 ⟨v, nx, _, hd, rfl⟩ (hf.wide fun i hi => by simp at hi; simp [hi]) fun i hi => .inl hi⟩
theorem append_law {a : Option Addr} {n c : Nat} {l : List UInt8} (h : LawD W V g d R) (hl : d.fuse < 9223372036854775808) (hM : BndD d 1099511627776) (hb : BAt V V.heap.size a n l) (hn : n ≤ 1099511627776) :
    Calls Try.prog 18 #[.pointer (some ⟨g, 0, none⟩), .slice a n c] V fun e w' => e = .returned (.int .i64 (appE d l)) ∧ LawD W w' g (appD d l) R := by
  obtain ⟨own, hp, h2, h3, h4⟩ := h
  exact (append_any hp hl hM.1 hb hn).mono fun e w' ⟨he, own', g4, g5, g6⟩ => ⟨he, LawD.on h2 h3 h4 g4 g5 g6⟩
theorem replace_law {a : Option Addr} {n c : Nat} {l : List UInt8} (h : LawD W V g d R) (hl : d.fuse < 9223372036854775808) (hb : BAt V V.heap.size a n l) (hn : n ≤ 1099511627776) :
    Calls Try.prog 23 #[.pointer (some ⟨g, 0, none⟩), .slice a n c] V fun e w' => e = .returned (.int .i64 (repE d l)) ∧ LawD W w' g (repD d l) R := by
  obtain ⟨own, hp, h2, h3, h4⟩ := h
  exact (replace_any hp hl hb hn).mono fun e w' ⟨he, own', g4, g5, g6⟩ => ⟨he, LawD.on h2 h3 h4 g4 g5 g6⟩
theorem cut_law (k : Int) (h : LawD W V g d R) (hM : BndD d 1099511627776) (hk1 : -9223372036854775808 ≤ k) (hk2 : k < 9223372036854775808) :
    Calls Try.prog 20 #[.pointer (some ⟨g, 0, none⟩), .int .i64 k] V fun e w' => ∃ g', e = .returned (.pointer (some ⟨g', 0, none⟩)) ∧ LawD W w' g (downD d) R ∧ LawD W w' g' (cutD d k) R := by
  obtain ⟨own, hp, h2, h3, h4⟩ := h
  refine (cut_any k hp hM hk1 hk2).mono fun e w' ⟨g', own', he, k1, k2, k3, k4⟩ => ?_
  have hg : Fr V w' own := k3.wide fun i hi => by
    obtain ⟨v, nx, left, _, rfl⟩ := hp
    simp at hi; simp [hi]
  have h5 := LawD.on h2 h3 h4 k1 hg fun i hi => .inl hi
  refine ⟨g', he, h5, own', k2, h5.bel, fun i hi => Nat.le_trans h2.size (k4 i hi), fun r hr => ?_⟩
  obtain ⟨m1, m2⟩ := h4 r hr
  exact ⟨m1.fr hg fun j hj => (m2 j hj).2, fun j hj => ⟨(m2 j hj).1, fun e => by have := k4 j e; have := m1.lt j hj; omega⟩⟩
end

def Quiet2 (W : World) (v : Value) (e : Ending) (w' : World) : Prop := e = .returned v ∧ Below W.heap.size W w'
theorem BAt.lit (w : World) (cs : Array Value) (l : List UInt8) (h : cs = (bcells l).toArray) (n : Nat) (hn : l.length = n) (fr : Nat × Nat) : BAt (w.alloc (.cells cs 5 fr)) (w.alloc (.cells cs 5 fr)).heap.size (some ⟨w.heap.size, 0, none⟩) n l := by
  subst hn
  have := BAt.made w l cs 5 fr h
  simpa using this

set_option maxHeartbeats 1000000 in
theorem awake12_any (W : World) : Calls Try.prog 8 #[] W (Quiet2 W (.bool true)) := by
  have cN : ∀ V, Below W.heap.size W V → Calls Try.prog 10 #[.int .i64 10] V fun e w' => e = .returned (.pointer (some ⟨V.heap.size, 0, none⟩)) ∧ LawD W w' V.heap.size (newD 10) [] := fun V hb => new_law 10 (by omega) hb
  have kc := fun (w : World) (C : Array Value) (n c : Nat) => Lib.run_convert_bytes_const (P := Try.prog) w 33 5 C n c Try.underlying33 Try.underlying5
  go_enter Try.func8, Try.ntmps8
  go_wp2_with (first
    | (go_at_call 10; ((with_reducible refine (cN _ (Below.refl _ _)).mono ?_); rintro e w1 ⟨rfl, h1⟩; have H1 := Lib.hid h1; have cD : Calls Try.prog 13 #[.pointer (some ⟨W.heap.size, 0, none⟩)] w1 fun e w' => e = .returned (.bool false) ∧ w1 = w' := down_law h1; clear h1))
    | (go_at_call 13; ((with_reducible refine cD.mono ?_); rintro e w2 ⟨rfl, rfl⟩; have cA : ∀ fr : Nat × Nat, Calls Try.prog 18 #[.pointer (some ⟨W.heap.size, 0, none⟩), .slice (some ⟨w1.heap.size, 0, none⟩) 2 2] (w1.alloc (.cells #[.int .u8 97, .int .u8 98] 5 fr)) (fun e w' => e = .returned (.int .i64 0) ∧ LawD W w' W.heap.size (appD (newD 10) [97, 98]) []) := fun fr => append_law (H1.out.later ((Below.refl _ _).alloc (Nat.le_refl _) _)) (by decide) ((BndD.new 10).mono (by omega)) (BAt.lit w1 _ [97, 98] rfl 2 rfl fr) (by omega)))
    | (go_at_call 18; ((with_reducible refine (cA _).mono ?_); rintro e w3 ⟨rfl, h3⟩; have H3 := Lib.hid h3; clear h3))
    | (go_at_call 16; ((with_reducible refine (bytes_law H3.out (((BndD.new 10).app (K := 2) (l := [97, 98]) (by decide)).mono (by omega))).mono ?_); rintro e w4 ⟨a4, n4, c4, rfl, hb4, hn4, hc4, hm4, h4, _⟩; have H4 := Lib.hid h4; obtain rfl : n4 = 2 := hn4; clear h4 hb4 hc4 hm4)))
  go_ret
  exact ⟨rfl, H4.out.bel⟩
section

variable {W V : World} {g : Nat} {d d' : Dk} {R : Rws} {x : Int}

theorem append_to {a : Option Addr} {n c : Nat} {l : List UInt8} (hx : appE d l = x) (hd : appD d l = d') (h : LawD W V g d R) (hl : d.fuse < 9223372036854775808) (hM : BndD d 1099511627776) (hb : BAt V V.heap.size a n l) (hn : n ≤ 1099511627776) :
    Calls Try.prog 18 #[.pointer (some ⟨g, 0, none⟩), .slice a n c] V fun e w' => e = .returned (.int .i64 x) ∧ LawD W w' g d' R := by subst hx; subst hd; exact append_law h hl hM hb hn
theorem sync_to (hx : synE d = x) (hd : synD d = d') (h : LawD W V g d R) (hl : d.fuse < 9223372036854775808) : Calls Try.prog 19 #[.pointer (some ⟨g, 0, none⟩)] V fun e w' => e = .returned (.int .i64 x) ∧ LawD W w' g d' R := by subst hx; subst hd; exact sync_law h hl
theorem replace_to {a : Option Addr} {n c : Nat} {l : List UInt8} (hx : repE d l = x) (hd : repD d l = d') (h : LawD W V g d R) (hl : d.fuse < 9223372036854775808) (hb : BAt V V.heap.size a n l) (hn : n ≤ 1099511627776) :
    Calls Try.prog 23 #[.pointer (some ⟨g, 0, none⟩), .slice a n c] V fun e w' => e = .returned (.int .i64 x) ∧ LawD W w' g d' R := by subst hx; subst hd; exact replace_law h hl hb hn
theorem fuse_to (n : Int) (hd : fusD d n = d') (h : LawD W V g d R) : Calls Try.prog 22 #[.pointer (some ⟨g, 0, none⟩), .int .i64 n] V fun e w' => e = .returned (.tuple #[]) ∧ LawD W w' g d' R := by subst hd; exact fuse_law n h
theorem cut_to (k : Int) (hd : cutD d k = d') (h : LawD W V g d R) (hM : BndD d 1099511627776) (hk1 : -9223372036854775808 ≤ k) (hk2 : k < 9223372036854775808) :
    Calls Try.prog 20 #[.pointer (some ⟨g, 0, none⟩), .int .i64 k] V fun e w' => ∃ g', e = .returned (.pointer (some ⟨g', 0, none⟩)) ∧ LawD W w' g (downD d) R ∧ LawD W w' g' d' R := by subst hd; exact cut_law k h hM hk1 hk2
theorem LawD.bat {B : Nat} {a : Option Addr} {n : Nat} {l : List UInt8} (h : LawD W V g d R) (hb : BAt W B a n l) (hB : B ≤ W.heap.size) : BAt V V.heap.size a n l := (hb.below h.bel hB).more (Nat.le_trans hB h.bel.size)
end

end Go.Proofs.Ytclfgkeepmdmjaa
