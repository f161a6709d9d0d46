
/- What a disk is, and what each act makes of it: plain mathematics. No condition. What an operation leaves alone. No condition. Words for disks in memory: the program's and the document's. No condition. Contracts of disk's New, Down, Lasting, blows, SetFuse, Bytes, Sync. Conditions: the disk lies in memory. Contracts of disk's Bytes, Sync, Append. Conditions: the disk lies in memory. -/
import Derived.Tactics
import Derived.Test.YtcfmifongbapkaaGreatDoorQF
import Derived.Test.YtcfmifongbapkaaGreatDoorQZ
/- DiskMath -/
namespace Go.Proofs.YtcfmifongbapkaaGreatDoor

/-- A disk: its size, what lasts, what doesn't, its fuse (below 0: none), whether it is down, within a Replace, by what. -/
structure Dk where
  size : Int
  la : List UInt8
  re : List UInt8
  fuse : Int
  down : Bool
  torn : Bool
  half : List UInt8
def newD (n : Int) : Dk := ⟨max n 0, [], [], -1, false, false, []⟩
/-- Does the power go within this act? -/
def goesB (d : Dk) : Bool := decide (d.fuse = 0)
def goesD (d : Dk) : Dk := if d.fuse = 0 then { d with down := true } else if 0 < d.fuse then { d with fuse := d.fuse - 1 } else d
def fullA (d : Dk) (l : List UInt8) : Bool := decide (d.size < (d.la.length : Int) + d.re.length + l.length)
def fullR (d : Dk) (l : List UInt8) : Bool := decide (d.size < (l.length : Int))
def appE (d : Dk) (l : List UInt8) : Int := if d.down then 8 else if fullA d l then 7 else if goesB d then 8 else 0
def appD (d : Dk) (l : List UInt8) : Dk := if d.down then d else if fullA d l then d else { goesD d with re := d.re ++ l }
def synE (d : Dk) : Int := if d.down then 8 else if goesB d then 8 else 0
def synD (d : Dk) : Dk := if d.down then d else if goesB d then goesD d else { goesD d with la := d.la ++ d.re, re := [] }
def repE (d : Dk) (l : List UInt8) : Int := if d.down then 8 else if fullR d l then 7 else if goesB d then 8 else 0
def repD (d : Dk) (l : List UInt8) : Dk := if d.down then d else if fullR d l then d else if goesB d then { goesD d with torn := true, half := l } else { goesD d with la := l, re := [] }
def fusD (d : Dk) (n : Int) : Dk := { d with fuse := max n (-1) }
def downD (d : Dk) : Dk := { d with down := true }
/-- What is there behind a cut. -/
def behD (d : Dk) (k : Int) : List UInt8 := if d.torn then (if 0 < k then d.half else d.la) else d.la ++ d.re.take k.toNat
def cutD (d : Dk) (k : Int) : Dk := ⟨d.size, behD d k, [], -1, false, false, []⟩
/-- A bound of what is there. -/
def BndD (d : Dk) (M : Nat) : Prop := d.la.length + d.re.length ≤ M ∧ d.half.length ≤ M

theorem goes_la (d : Dk) : (goesD d).la = d.la := by unfold goesD; split <;> (try split) <;> rfl
theorem goes_half (d : Dk) : (goesD d).half = d.half := by unfold goesD; split <;> (try split) <;> rfl
theorem BndD.mono {d : Dk} {M N : Nat} (h : BndD d M) (hN : M ≤ N) : BndD d N := ⟨Nat.le_trans h.1 hN, Nat.le_trans h.2 hN⟩
theorem BndD.new (n : Int) : BndD (newD n) 0 := ⟨Nat.le_refl _, Nat.le_refl _⟩
end Go.Proofs.YtcfmifongbapkaaGreatDoor

/- Fr -/
namespace Go.Proofs.YtcfmifongbapkaaGreatDoor

open Go.RowKit

set_option linter.unusedVariables false

/-- Nothing but what is named has turned. -/
structure Fr (W W' : World) (own : List Nat) : Prop where
  os : W'.os = W.os
  tape : W'.tape = W.tape
  output : W'.output = W.output
  size : W.heap.size ≤ W'.heap.size
  block : ∀ i, i < W.heap.size → i ∉ own → W'.heap[i]? = W.heap[i]?
theorem Fr.of_below {W W' : World} {own : List Nat} (h : Below W.heap.size W W') : Fr W W' own := ⟨h.os, h.tape, h.output, h.size, fun i hi _ => h.block i hi⟩
section

variable {W W' W'' : World} {own : List Nat}

theorem Fr.trans {own' : List Nat} (h : Fr W W' own) (h' : Fr W' W'' own') (ho : ∀ i ∈ own', i ∈ own ∨ W.heap.size ≤ i) : Fr W W'' own :=
  ⟨h'.os.trans h.os, h'.tape.trans h.tape, h'.output.trans h.output, Nat.le_trans h.size h'.size, fun i hi hn => (h'.block i (Nat.lt_of_lt_of_le hi h.size) (fun e => by
    rcases ho i e with h1 | h1
    · exact hn h1
    · omega)).trans (h.block i hi hn)⟩
theorem Fr.below {B : Nat} {w0 : World} (hb : Below B w0 W) (h : Fr W W' own) (hB : B ≤ W.heap.size) (ho : ∀ i ∈ own, B ≤ i) : Below B w0 W' :=
  ⟨h.os.trans hb.os, h.tape.trans hb.tape, h.output.trans hb.output, Nat.le_trans hb.size h.size, fun i hi => (h.block i (by omega) (fun e => by have := ho i e; omega)).trans (hb.block i hi)⟩
end

end Go.Proofs.YtcfmifongbapkaaGreatDoor

/- DiskMem -/
namespace Go.Proofs.YtcfmifongbapkaaGreatDoor

open Go.RowKit

set_option linter.unusedVariables false
set_option linter.unusedSimpArgs false

/-- A row of bytes that is nobody else's. -/
def OwnB (W : World) (v : Value) (l : List UInt8) : Prop := W.ownsRow 0 5 1 v l.length (bcells l)
def Far (v v' : Value) : Prop := ∀ j, v.ownBlock = some j → v'.ownBlock ≠ some j
section

variable {W W' : World} {v v' : Value} {l : List UInt8} {g : Nat} {cs : Array Value} {t : TypeId}

theorem OwnB.nil (W : World) : OwnB W (.slice none 0 0) [] := World.ownsRow_nil _ _ _ _
theorem OwnB.of_own {B n : Nat} (h : W.ownsRow B 5 1 v n (bcells l)) : OwnB W v l := by
  have e := own_len h
  subst e
  exact own_base h (Nat.zero_le _)
theorem OwnB.form (h : OwnB W v l) : ∃ a c, v = .slice a l.length c ∧ l.length ≤ c ∧ c ≤ maxLen := by
  obtain ⟨a, c, h1, h2, h3, _⟩ := own_form h
  exact ⟨a, c, h1, h2, h3⟩
theorem OwnB.lt (h : OwnB W v l) : ∀ j, v.ownBlock = some j → j < W.heap.size := own_lt h
theorem OwnB.moved (h : OwnB W v l) (hk : ∀ j, v.ownBlock = some j → j < W.heap.size → W'.heap[j]? = W.heap[j]?) : OwnB W' v l := by
  refine ⟨h.1, ?_⟩
  rcases h.2 with h1 | ⟨j, c, cur, hv, hb, hh, hr⟩
  · exact .inl h1
  · exact .inr ⟨j, c, cur, hv, hb, (hk j (by rw [hv]; rfl) (lt_of_heap hh)).trans hh, hr⟩
theorem OwnB.not_box (h : OwnB W v l) (hb : BoxC W g cs t) (ht : t ≠ 5) : v.ownBlock ≠ some g := by
  intro e
  rcases h.2 with ⟨h1, _⟩ | ⟨j, c, cur, hv, _, hh, _⟩
  · rw [h1] at e; cases e
  · rw [hv] at e
    injection e with e
    have e' : j = g := e
    rw [e', show W.heap[g]? = _ from hb] at hh
    injection hh with hh
    injection hh with _ hh _
    exact ht hh
theorem OwnB.set (h : OwnB W v l) (hne : v.ownBlock ≠ some g) (i : Nat) (u : Value) : OwnB (W.setCell ⟨g, i, none⟩ u) v l :=
  h.moved fun j hj _ => Below.heap_setCell _ _ _ _ (fun e => hne (by rw [hj]; exact congrArg some e))
theorem OwnB.fr {own : List Nat} (h : OwnB W v l) (hF : Fr W W' own) (hn : ∀ j, v.ownBlock = some j → j ∉ own) : OwnB W' v l := h.moved fun j hj hlt => hF.block j hlt (hn j hj)
theorem Fr.set (W : World) (g i : Nat) (u : Value) : Fr W (W.setCell ⟨g, i, none⟩ u) [g] :=
  ⟨by simp [World.setCell], by simp [World.setCell], by simp [World.setCell], by simp [World.setCell], fun j _ hj => Below.heap_setCell _ _ _ _ (fun e => hj (by simp; exact e))⟩
theorem Fr.refl (W : World) (own : List Nat) : Fr W W own := ⟨rfl, rfl, rfl, Nat.le_refl _, fun _ _ _ => rfl⟩
theorem Fr.wide {own own' : List Nat} (h : Fr W W' own) (ho : ∀ i ∈ own, i ∈ own') : Fr W W' own' := ⟨h.os, h.tape, h.output, h.size, fun i hi hn => h.block i hi fun e => hn (ho i e)⟩
theorem Far.nil : Far v (.slice none 0 0) := fun j _ e => by cases e
end

def bk (v : Value) : List Nat := v.ownBlock.toList
theorem bk_mem {v : Value} {j : Nat} : j ∈ bk v ↔ v.ownBlock = some j := by unfold bk; simp
/-- The program's disk in block g. -/
structure DkP (W : World) (g : Nat) (d : Dk) (v nx : Value) (left : Int) : Prop where
  box : BoxC W g #[.int .i64 d.size, v, .int .i64 d.la.length, .bool (decide (0 ≤ d.fuse)), .int .i64 left, .bool d.down, .bool d.torn, nx] 111
  row : OwnB W v (d.la ++ d.re)
  nxt : OwnB W nx d.half
  left : 0 ≤ d.fuse → left = d.fuse
  sz : 0 ≤ d.size ∧ d.size < 9223372036854775808
  far : Far v nx
/-- The document's disk in block g. -/
structure DkR (W : World) (g : Nat) (d : Dk) (vl vr vh : Value) : Prop where
  box : BoxC W g #[.int .i64 d.size, vl, vr, .int .i64 d.fuse, .bool d.down, .bool d.torn, vh] 73
  rl : OwnB W vl d.la
  rr : OwnB W vr d.re
  rh : OwnB W vh d.half
  sz : 0 ≤ d.size ∧ d.size < 9223372036854775808
  f1 : Far vl vr
  f2 : Far vl vh
  f3 : Far vr vh
def PD (W : World) (g : Nat) (d : Dk) (own : List Nat) : Prop := ∃ v nx left, DkP W g d v nx left ∧ own = g :: (bk v ++ bk nx)
def RD (W : World) (g : Nat) (d : Dk) (own : List Nat) : Prop := ∃ vl vr vh, DkR W g d vl vr vh ∧ own = g :: (bk vl ++ bk vr ++ bk vh)
/-- What an operation leaves. -/
def Stp (K : World → List Nat → Prop) (W W' : World) (own : List Nat) : Prop := ∃ own', K W' own' ∧ Fr W W' own ∧ ∀ i ∈ own', i ∈ own ∨ W.heap.size ≤ i

section

variable {W W' : World} {g : Nat} {d : Dk} {v nx vl vr vh : Value} {left : Int} {own : List Nat}

theorem BoxC.eight {w : World} {g : Nat} {c0 c1 c2 c3 c4 c5 c6 c7 : Value} {t : TypeId} (h : BoxC w g #[c0, c1, c2, c3, c4, c5, c6, c7] t) : w.cell? ⟨g, 0, none⟩ = some c0 ∧ w.cell? ⟨g, 1, none⟩ = some c1 ∧ w.cell? ⟨g, 2, none⟩ = some c2 ∧ w.cell? ⟨g, 3, none⟩ = some c3 ∧ w.cell? ⟨g, 4, none⟩ = some c4 ∧ w.cell? ⟨g, 5, none⟩ = some c5 ∧ w.cell? ⟨g, 6, none⟩ = some c6 ∧ w.cell? ⟨g, 7, none⟩ = some c7 :=
  ⟨h.cell 0 c0 rfl, h.cell 1 c1 rfl, h.cell 2 c2 rfl, h.cell 3 c3 rfl, h.cell 4 c4 rfl, h.cell 5 c5 rfl, h.cell 6 c6 rfl, h.cell 7 c7 rfl⟩
theorem DkP.far_box (h : DkP W g d v nx left) : v.ownBlock ≠ some g ∧ nx.ownBlock ≠ some g := ⟨h.row.not_box h.box (by decide), h.nxt.not_box h.box (by decide)⟩
theorem DkP.kept (h : DkP W g d v nx left) (hk : ∀ j ∈ g :: (bk v ++ bk nx), j < W.heap.size → W'.heap[j]? = W.heap[j]?) : DkP W' g d v nx left :=
  ⟨(hk g (List.mem_cons_self ..) h.box.lt).trans h.box, h.row.moved fun j hj hlt => hk j (List.mem_cons_of_mem _ (List.mem_append_left _ (bk_mem.2 hj))) hlt, h.nxt.moved fun j hj hlt => hk j (List.mem_cons_of_mem _ (List.mem_append_right _ (bk_mem.2 hj))) hlt, h.left, h.sz, h.far⟩
theorem DkP.below (h : DkP W g d v nx left) (hb : Below W.heap.size W W') : DkP W' g d v nx left := h.kept fun j _ hj => hb.block j hj
theorem PD.below (h : PD W g d own) (hb : Below W.heap.size W W') : PD W' g d own := by obtain ⟨v, nx, left, h1, e⟩ := h; exact ⟨v, nx, left, h1.below hb, e⟩
theorem PD.lt (h : PD W g d own) : ∀ i ∈ own, i < W.heap.size := by
  obtain ⟨v, nx, left, h1, rfl⟩ := h
  intro i hi
  rcases List.mem_cons.1 hi with rfl | hi
  · exact h1.box.lt
  · rcases List.mem_append.1 hi with hi | hi
    · exact h1.row.lt i (bk_mem.1 hi)
    · exact h1.nxt.lt i (bk_mem.1 hi)
theorem Stp.same {K : World → List Nat → Prop} (h : K W' own) (hb : Below W.heap.size W W') : Stp K W W' own := ⟨own, h, Fr.of_below hb, fun i hi => .inl hi⟩
end

end Go.Proofs.YtcfmifongbapkaaGreatDoor

/- DiskProg -/
namespace Go.Proofs.YtcfmifongbapkaaGreatDoor

open Go.RowKit

set_option linter.unusedVariables false
set_option linter.unusedSimpArgs false

section

variable {W : World} {g : Nat} {d : Dk} {v nx : Value} {left : Int} {own : List Nat}

theorem DkP.setDown (h : DkP W g d v nx left) : DkP (W.setCell ⟨g, 5, none⟩ (.bool true)) g (downD d) v nx left :=
  ⟨h.box.set 5 (.bool true), h.row.set h.far_box.1 _ _, h.nxt.set h.far_box.2 _ _, h.left, h.sz, h.far⟩
theorem DkP.setLeft (h : DkP W g d v nx left) (hf : 0 < d.fuse) : DkP (W.setCell ⟨g, 4, none⟩ (.int .i64 (d.fuse - 1))) g { d with fuse := d.fuse - 1 } v nx (d.fuse - 1) := by
  refine ⟨?_, h.row.set h.far_box.1 _ _, h.nxt.set h.far_box.2 _ _, fun _ => rfl, h.sz, h.far⟩
  have e : decide (0 ≤ d.fuse - 1) = decide (0 ≤ d.fuse) := by rw [decide_eq_true (by omega), decide_eq_true (by omega)]
  show BoxC _ g #[.int .i64 d.size, v, .int .i64 d.la.length, .bool (decide (0 ≤ d.fuse - 1)), .int .i64 (d.fuse - 1), .bool d.down, .bool d.torn, nx] _
  rw [e]
  exact h.box.set 4 (.int .i64 (d.fuse - 1))
theorem down_any (h : BoxC W g #[.int .i64 d.size, v, .int .i64 d.la.length, .bool (decide (0 ≤ d.fuse)), .int .i64 left, .bool d.down, .bool d.torn, nx] 111) :
    Calls Tryz.prog 66 #[.pointer (some ⟨g, 0, none⟩)] W fun e w' => e = .returned (.bool d.down) ∧ W = w' := by
  obtain ⟨y0, y1, y2, y3, y4, y5, y6, y7⟩ := h.eight
  clear h
  go_enter Tryz.func66, Tryz.ntmps66
  go_wp2
  go_ret
  exact ⟨rfl, rfl⟩
theorem blows_any (h : DkP W g d v nx left) (hl : d.fuse < 9223372036854775808) : Calls Tryz.prog 67 #[.pointer (some ⟨g, 0, none⟩)] W fun e w' => e = .returned (.bool (goesB d)) ∧ (∃ left', DkP w' g (goesD d) v nx left') ∧ Fr W w' [g] := by
  obtain ⟨y0, y1, y2, y3, y4, y5, y6, y7⟩ := h.box.eight
  have fz := h.box.frozen
  have z4 := fz 4
  have z5 := fz 5
  clear fz
  by_cases h0 : 0 ≤ d.fuse
  · rw [h.left h0] at y4
    rw [decide_eq_true h0] at y3
    by_cases hz : d.fuse = 0
    · rw [hz] at y4
      have HR : Hid ((∃ left', DkP (W.setCell ⟨g, 5, none⟩ (.bool true)) g (goesD d) v nx left') ∧ Fr W (W.setCell ⟨g, 5, none⟩ (.bool true)) [g]) := ⟨⟨left, by unfold goesD; rw [if_pos hz]; exact h.setDown⟩, Fr.set W g 5 _⟩
      have eg : goesB d = true := decide_eq_true hz
      rw [eg]
      clear h h0 hz eg hl
      go_enter Tryz.func67, Tryz.ntmps67
      go_wp2
      go_ret
      exact ⟨rfl, HR.out⟩
    · have hp : 0 < d.fuse := by omega
      have HR : Hid ((∃ left', DkP (W.setCell ⟨g, 4, none⟩ (.int .i64 (d.fuse - 1))) g (goesD d) v nx left') ∧ Fr W (W.setCell ⟨g, 4, none⟩ (.int .i64 (d.fuse - 1))) [g]) := ⟨⟨_, by unfold goesD; rw [if_neg hz, if_pos hp]; exact h.setLeft hp⟩, Fr.set W g 4 _⟩
      have eg : goesB d = false := decide_eq_false hz
      rw [eg]
      have hd : decide (d.fuse > 0) = true := decide_eq_true hp
      generalize d.fuse = f at *
      clear h h0 hz eg
      go_enter Tryz.func67, Tryz.ntmps67
      go_wp2
      go_ret
      exact ⟨rfl, HR.out⟩
  · rw [decide_eq_false h0] at y3
    have eg : goesB d = false := decide_eq_false (by omega)
    have ed : goesD d = d := by unfold goesD; rw [if_neg (by omega), if_neg (by omega)]
    rw [eg, ed]
    have HR : Hid ((∃ left', DkP W g d v nx left') ∧ Fr W W [g]) := ⟨⟨left, h⟩, Fr.refl W [g]⟩
    clear h h0 eg ed hl
    go_enter Tryz.func67, Tryz.ntmps67
    go_wp2
    go_ret
    exact ⟨rfl, HR.out⟩
end

theorem dkNew_any (n : Int) (hn : n < 9223372036854775808) (W : World) : Calls Tryz.prog 20 #[.int .i64 n] W fun e w' => e = .returned (.pointer (some ⟨W.heap.size, 0, none⟩)) ∧ Below W.heap.size W w' ∧ DkP w' W.heap.size (newD n) (.slice none 0 0) (.slice none 0 0) 0 := by
  have HR : ∀ m : Int, m = max n 0 → Hid (Below W.heap.size W (W.alloc (.cells #[.int .i64 m, .slice none 0 0, .int .i64 0, .bool false, .int .i64 0, .bool false, .bool false, .slice none 0 0] 111)) ∧ DkP (W.alloc (.cells #[.int .i64 m, .slice none 0 0, .int .i64 0, .bool false, .int .i64 0, .bool false, .bool false, .slice none 0 0] 111)) W.heap.size (newD n) (.slice none 0 0) (.slice none 0 0) 0) := by
    intro m hm
    subst hm
    exact ⟨(Below.refl _ _).alloc (Nat.le_refl _) _, ⟨BoxC.new _ _ _, OwnB.nil _, OwnB.nil _, (fun e => absurd (show (0 : Int) ≤ -1 from e) (by decide)), ⟨by show 0 ≤ max n 0; omega, by show max n 0 < _; omega⟩, Far.nil⟩⟩
  by_cases h : 0 ≤ n
  · have hm := HR n (by omega)
    have hM := HR (max n 0) rfl
    clear HR
    have hd : decide (n < 0) = false := decide_eq_false (by omega)
    go_enter Tryz.func20, Tryz.ntmps20
    go_wp2
    go_ret
    first | exact ⟨rfl, hm.out⟩ | exact ⟨rfl, hM.out⟩
  · have hm := HR 0 (by omega)
    have hM := HR (max n 0) rfl
    clear HR
    have hd : decide (n < 0) = true := decide_eq_true (by omega)
    go_enter Tryz.func20, Tryz.ntmps20
    go_wp2
    go_ret
    first | exact ⟨rfl, hm.out⟩ | exact ⟨rfl, hM.out⟩
end Go.Proofs.YtcfmifongbapkaaGreatDoor

/- DiskAct -/
namespace Go.Proofs.YtcfmifongbapkaaGreatDoor

open Go.RowKit

set_option linter.unusedVariables false
set_option linter.unusedSimpArgs false

theorem BAt.cells {w : World} {B m : Nat} {a : Option Addr} {l : List UInt8} (h : BAt w B a m l) : CellsAt w a m (bcells l) := by
  refine ⟨by rw [bcells_len, h.len], ?_⟩
  rcases h with ⟨hn, h | ⟨b, off, ha, hb, hc⟩⟩
  · exact .inl h
  · refine .inr ⟨b, off, ha, fun j u hu => ?_⟩
    obtain ⟨hj, rfl⟩ := bcells_get hu
    exact hc j hj
theorem OwnB.parts {W : World} {v : Value} {l : List UInt8} (h : OwnB W v l) : ∃ a n c, v = .slice a n c ∧ n = l.length ∧ W.ownsRow 0 5 1 (.slice a n c) n (bcells l) ∧ BAt W W.heap.size a n l ∧ n ≤ c ∧ c ≤ maxLen := by
  obtain ⟨a, c, rfl, h2, h3⟩ := h.form
  exact ⟨a, _, c, rfl, rfl, h, BAt.of_own h, h2, h3⟩
theorem Fr.grown {W W' : World} {v : Value} (hg : W.grownBy W' v.ownBlock) : Fr W W' (bk v) :=
  ⟨hg.os, hg.tape, hg.output, hg.size, fun i hi hn => hg.block i hi fun e => hn (bk_mem.2 e.symm)⟩
theorem Far.grown {W : World} {v v1 nx : Value} {l : List UInt8} (h : Far v nx) (hn : OwnB W nx l) (hat : v1.ownBlock = v.ownBlock ∨ v1.ownBlock = some W.heap.size) : Far v1 nx := by
  intro j hj e
  rcases hat with h1 | h1
  · exact h j (h1 ▸ hj) e
  · rw [hj] at h1; injection h1 with h1
    have := hn.lt j e; omega

section

variable {W w1 : World} {g : Nat} {d : Dk} {v nx v1 : Value} {left : Int} {l : List UInt8}

theorem DkP.box_grown (h : DkP W g d v nx left) (hg : W.grownBy w1 v.ownBlock) : BoxC w1 g #[.int .i64 d.size, v, .int .i64 d.la.length, .bool (decide (0 ≤ d.fuse)), .int .i64 left, .bool d.down, .bool d.torn, nx] 111 := h.box.grown hg (fun e => h.far_box.1 e.symm)
theorem DkP.appended {k n : Nat} (h : DkP W g d v nx left) (ho : w1.ownsRow 0 5 1 v1 (k + n) (bcells (d.la ++ d.re) ++ bcells l)) (hg : W.grownBy w1 v.ownBlock) (hat : v1.ownBlock = v.ownBlock ∨ v1.ownBlock = some W.heap.size) :
    DkP (w1.setCell ⟨g, 1, none⟩ v1) g { d with re := d.re ++ l } v1 nx left ∧ Fr W (w1.setCell ⟨g, 1, none⟩ v1) (g :: (bk v ++ bk nx)) := by
  have hb := h.box_grown hg
  have ho1 : OwnB w1 v1 (d.la ++ (d.re ++ l)) := by
    rw [← List.append_assoc]
    rw [← bcells_app] at ho
    exact OwnB.of_own ho
  have hne : v1.ownBlock ≠ some g := ho1.not_box hb (by decide)
  have hnx : OwnB w1 nx d.half := h.nxt.fr (Fr.grown hg) fun j hj e => h.far j (bk_mem.1 e) hj
  refine ⟨⟨hb.set 1 v1, ho1.set hne _ _, hnx.set h.far_box.2 _ _, h.left, h.sz, h.far.grown h.nxt hat⟩, ?_⟩
  exact ((Fr.grown hg).wide (fun i hi => List.mem_cons_of_mem _ (List.mem_append_left _ hi))).trans (Fr.set w1 g 1 v1) (fun i hi => .inl (by simp at hi; simp [hi]))

theorem bytes_any (h : DkP W g d v nx left) (hM : d.la.length + d.re.length ≤ 1099511627776) : Calls Tryz.prog 24 #[.pointer (some ⟨g, 0, none⟩)] W (NewB W (d.la ++ d.re)) := by
  obtain ⟨a, n, c, rfl, hn, ho, hb, hnc, hcm⟩ := h.row.parts
  obtain ⟨y0, y1, y2, y3, y4, y5, y6, y7⟩ := h.box.eight
  have cC := bclone_any a n c _ W hb (by rw [hn, List.length_append]; exact hM)
  clear h hn ho hb hM
  go_enter Tryz.func24, Tryz.ntmps24
  go_wp2_with (go_at_call 65; ((with_reducible refine cC.mono ?_); rintro e w1 ⟨a1, n1, c1, rfl, ho, hb⟩; have H1 := Lib.hid (And.intro ho hb); clear ho hb))
  go_ret
  exact ⟨a1, n1, c1, rfl, H1.out.1, H1.out.2⟩
end

end Go.Proofs.YtcfmifongbapkaaGreatDoor
