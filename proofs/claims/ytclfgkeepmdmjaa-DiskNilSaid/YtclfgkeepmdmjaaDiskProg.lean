/- Contracts of disk's New, Down, Lasting, blows, SetFuse, Bytes, Sync. Conditions: the disk lies in memory. -/
import Derived.Test.YtclfgkeepmdmjaaDiskMem

namespace Go.Proofs.Ytclfgkeepmdmjaa

open Go.RowKit

set_option linter.unusedVariables false
set_option linter.unusedSimpArgs false

theorem two_bytes (b : List UInt8) (h : b = []) : b.length = 0 := by subst h; rfl
section

variable {W : World} {g : Nat} {d : Dk} {v nx : Value} {left : Int} {own : List Nat}

theorem DkP.setFuse (h : DkP W g d v nx left) (n : Int) : DkP ((W.setCell ⟨g, 3, none⟩ (.bool (decide (0 ≤ n)))).setCell ⟨g, 4, none⟩ (.int .i64 n)) g (fusD d n) v nx n := by
  refine ⟨?_, ((h.row.set h.far_box.1 _ _).set h.far_box.1 _ _), ((h.nxt.set h.far_box.2 _ _).set h.far_box.2 _ _), fun e => ?_, h.sz, h.far⟩
  · have e : decide (0 ≤ (fusD d n).fuse) = decide (0 ≤ n) := by
      show decide (0 ≤ max n (-1)) = _
      by_cases hn : 0 ≤ n
      · rw [decide_eq_true hn]; exact decide_eq_true (by omega)
      · rw [decide_eq_false hn]; exact decide_eq_false (by omega)
    have hb := (h.box.set 3 (.bool (decide (0 ≤ n)))).set 4 (.int .i64 n)
    rw [e]
    exact hb
  · have e' : 0 ≤ max n (-1) := e
    show n = max n (-1)
    omega
theorem DkP.setDown (h : DkP W g d v nx left) : DkP (W.setCell ⟨g, 5, none⟩ (.bool true)) g (downD d) v nx left :=
  ⟨h.box.set 5 (.bool true), h.row.set h.far_box.1 _ _, h.nxt.set h.far_box.2 _ _, h.left, h.sz, h.far⟩
theorem DkP.setLeft (h : DkP W g d v nx left) (hf : 0 < d.fuse) : DkP (W.setCell ⟨g, 4, none⟩ (.int .i64 (d.fuse - 1))) g { d with fuse := d.fuse - 1 } v nx (d.fuse - 1) := by
  refine ⟨?_, h.row.set h.far_box.1 _ _, h.nxt.set h.far_box.2 _ _, fun _ => rfl, h.sz, h.far⟩
  have e : decide (0 ≤ d.fuse - 1) = decide (0 ≤ d.fuse) := by rw [decide_eq_true (by omega), decide_eq_true (by omega)]
  show BoxC _ g #[.int .i64 d.size, v, .int .i64 d.la.length, .bool (decide (0 ≤ d.fuse - 1)), .int .i64 (d.fuse - 1), .bool d.down, .bool d.torn, nx] _
  rw [e]
  exact h.box.set 4 (.int .i64 (d.fuse - 1))
/-- All bytes last. -/
theorem DkP.setLast (h : DkP W g d v nx left) : DkP (W.setCell ⟨g, 2, none⟩ (.int .i64 (d.la ++ d.re).length)) g { d with la := d.la ++ d.re, re := [] } v nx left := by
  refine ⟨h.box.set 2 _, ?_, h.nxt.set h.far_box.2 _ _, h.left, h.sz, h.far⟩
  show OwnB _ v ((d.la ++ d.re) ++ [])
  rw [List.append_nil]
  exact h.row.set h.far_box.1 _ _

theorem down_any (h : BoxC W g #[.int .i64 d.size, v, .int .i64 d.la.length, .bool (decide (0 ≤ d.fuse)), .int .i64 left, .bool d.down, .bool d.torn, nx] 53) :
    Calls Try.prog 13 #[.pointer (some ⟨g, 0, none⟩)] W fun e w' => e = .returned (.bool d.down) ∧ W = w' := by
  obtain ⟨y0, y1, y2, y3, y4, y5, y6, y7⟩ := h.eight
  clear h
  go_enter Try.func13, Try.ntmps13
  go_wp2
  go_ret
  exact ⟨rfl, rfl⟩
theorem down_nil (W : World) : Calls Try.prog 13 #[.pointer none] W fun e w' => e = .returned (.bool true) ∧ W = w' := by
  go_enter Try.func13, Try.ntmps13
  go_wp2
  go_ret
  exact ⟨rfl, rfl⟩
theorem lasting_any (h : DkP W g d v nx left) : Calls Try.prog 14 #[.pointer (some ⟨g, 0, none⟩)] W fun e w' => e = .returned (.int .i64 d.la.length) ∧ W = w' := by
  obtain ⟨y0, y1, y2, y3, y4, y5, y6, y7⟩ := h.box.eight
  clear h
  go_enter Try.func14, Try.ntmps14
  go_wp2
  go_ret
  exact ⟨rfl, rfl⟩
theorem lasting_nil (W : World) : Calls Try.prog 14 #[.pointer none] W fun e w' => e = .returned (.int .i64 0) ∧ W = w' := by
  go_enter Try.func14, Try.ntmps14
  go_wp2
  go_ret
  exact ⟨rfl, rfl⟩
theorem fuse_any (n : Int) (h : DkP W g d v nx left) : Calls Try.prog 22 #[.pointer (some ⟨g, 0, none⟩), .int .i64 n] W fun e w' => e = .returned (.tuple #[]) ∧ DkP w' g (fusD d n) v nx n ∧ Fr W w' [g] := by
  obtain ⟨y0, y1, y2, y3, y4, y5, y6, y7⟩ := h.box.eight
  have fz := h.box.frozen
  have z3 := fz 3
  have z4 := fz 4
  have HR : Hid (DkP ((W.setCell ⟨g, 3, none⟩ (.bool (decide (0 ≤ n)))).setCell ⟨g, 4, none⟩ (.int .i64 n)) g (fusD d n) v nx n ∧ Fr W ((W.setCell ⟨g, 3, none⟩ (.bool (decide (0 ≤ n)))).setCell ⟨g, 4, none⟩ (.int .i64 n)) [g]) := ⟨h.setFuse n, (Fr.set W g 3 _).trans (Fr.set _ g 4 _) (fun i hi => .inl hi)⟩
  have hd : decide (n ≥ 0) = decide (0 ≤ n) := rfl
  clear h fz
  go_enter Try.func22, Try.ntmps22
  go_wp2
  go_end0
  exact ⟨rfl, HR.out⟩
theorem fuse_nil (n : Int) (W : World) : Calls Try.prog 22 #[.pointer none, .int .i64 n] W fun e w' => e = .returned (.tuple #[]) ∧ W = w' := by
  go_enter Try.func22, Try.ntmps22
  go_wp2
  refine bodyPost_ret (v := .tuple #[]) (by simp [results, Try.results22]) rfl ⟨rfl, rfl⟩
theorem blows_any (h : DkP W g d v nx left) (hl : d.fuse < 9223372036854775808) : Calls Try.prog 29 #[.pointer (some ⟨g, 0, none⟩)] W fun e w' => e = .returned (.bool (goesB d)) ∧ (∃ left', DkP w' g (goesD d) v nx left') ∧ Fr W w' [g] := by
  obtain ⟨y0, y1, y2, y3, y4, y5, y6, y7⟩ := h.box.eight
  have fz := h.box.frozen
  have z4 := fz 4
  have z5 := fz 5
  clear fz
  by_cases h0 : 0 ≤ d.fuse
  · rw [h.left h0] at y4
    rw [decide_eq_true h0] at y3
    by_cases hz : d.fuse = 0
    · rw [hz] at y4
      have HR : Hid ((∃ left', DkP (W.setCell ⟨g, 5, none⟩ (.bool true)) g (goesD d) v nx left') ∧ Fr W (W.setCell ⟨g, 5, none⟩ (.bool true)) [g]) := ⟨⟨left, by unfold goesD; rw [if_pos hz]; exact h.setDown⟩, Fr.set W g 5 _⟩
      have eg : goesB d = true := decide_eq_true hz
      rw [eg]
      clear h h0 hz eg hl
      go_enter Try.func29, Try.ntmps29
      go_wp2
      go_ret
      exact ⟨rfl, HR.out⟩
    · have hp : 0 < d.fuse := by omega
      have HR : Hid ((∃ left', DkP (W.setCell ⟨g, 4, none⟩ (.int .i64 (d.fuse - 1))) g (goesD d) v nx left') ∧ Fr W (W.setCell ⟨g, 4, none⟩ (.int .i64 (d.fuse - 1))) [g]) := ⟨⟨_, by unfold goesD; rw [if_neg hz, if_pos hp]; exact h.setLeft hp⟩, Fr.set W g 4 _⟩
      have eg : goesB d = false := decide_eq_false hz
      rw [eg]
      have hd : decide (d.fuse > 0) = true := decide_eq_true hp
      generalize d.fuse = f at *
      clear h h0 hz eg
      go_enter Try.func29, Try.ntmps29
      go_wp2
      go_ret
      exact ⟨rfl, HR.out⟩
  · rw [decide_eq_false h0] at y3
    have eg : goesB d = false := decide_eq_false (by omega)
    have ed : goesD d = d := by unfold goesD; rw [if_neg (by omega), if_neg (by omega)]
    rw [eg, ed]
    have HR : Hid ((∃ left', DkP W g d v nx left') ∧ Fr W W [g]) := ⟨⟨left, h⟩, Fr.refl W [g]⟩
    clear h h0 eg ed hl
    go_enter Try.func29, Try.ntmps29
    go_wp2
    go_ret
    exact ⟨rfl, HR.out⟩
end

theorem new_any (n : Int) (hn : n < 9223372036854775808) (W : World) : Calls Try.prog 10 #[.int .i64 n] W fun e w' => e = .returned (.pointer (some ⟨W.heap.size, 0, none⟩)) ∧ Below W.heap.size W w' ∧ DkP w' W.heap.size (newD n) (.slice none 0 0) (.slice none 0 0) 0 := by
  have HR : ∀ m : Int, m = max n 0 → Hid (Below W.heap.size W (W.alloc (.cells #[.int .i64 m, .slice none 0 0, .int .i64 0, .bool false, .int .i64 0, .bool false, .bool false, .slice none 0 0] 53)) ∧ DkP (W.alloc (.cells #[.int .i64 m, .slice none 0 0, .int .i64 0, .bool false, .int .i64 0, .bool false, .bool false, .slice none 0 0] 53)) W.heap.size (newD n) (.slice none 0 0) (.slice none 0 0) 0) := by
    intro m hm
    subst hm
    exact ⟨(Below.refl _ _).alloc (Nat.le_refl _) _, ⟨BoxC.new _ _ _, OwnB.nil _, OwnB.nil _, (fun e => absurd (show (0 : Int) ≤ -1 from e) (by decide)), ⟨by show 0 ≤ max n 0; omega, by show max n 0 < _; omega⟩, Far.nil⟩⟩
  by_cases h : 0 ≤ n
  · have hm := HR n (by omega)
    clear HR
    have hd : decide (n < 0) = false := decide_eq_false (by omega)
    go_enter Try.func10, Try.ntmps10
    go_wp2
    go_ret
    exact ⟨rfl, hm.out⟩
  · have hm := HR 0 (by omega)
    clear HR
    have hd : decide (n < 0) = true := decide_eq_true (by omega)
    go_enter Try.func10, Try.ntmps10
    go_wp2
    go_ret
    exact ⟨rfl, hm.out⟩
end Go.Proofs.Ytclfgkeepmdmjaa
