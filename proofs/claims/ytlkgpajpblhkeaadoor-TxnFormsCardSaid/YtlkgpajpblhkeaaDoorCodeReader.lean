/- Contracts of code.New and of a code.Reader's methods OK, Left, End, fail, next. Conditions: the reader lies in memory as New lays it. -/
import Derived.Test.YtlkgpajpblhkeaaDoorCodePut

import Derived.Deep.AppendLies

import Derived.Lib.SliceRun

namespace Go.Proofs.YtlkgpajpblhkeaaDoor

open Go.RowKit

/-- A reader in block g: the bytes that are left, and whether it is well. -/
def RdAt (w : World) (g : Nat) (l : List UInt8) (ok : Bool) : Prop :=
  ∃ a n c, w.heap[g]? = some (.cells #[.slice a n c, .bool (!ok)] 81 (0, 0)) ∧ n ≤ c ∧ c ≤ maxLen ∧ BAt w g a n l ∧ (ok = false → l = [])
/-- A new reader is answered. -/
def NewR (w : World) (l : List UInt8) (e : Ending) (w' : World) : Prop :=
  ∃ g, e = .returned (.pointer (some ⟨g, 0, none⟩)) ∧ RdAt w' g l true ∧ w.heap.size ≤ g ∧ g < w'.heap.size ∧ Below w.heap.size w w'

theorem own_empty (w : World) : (w.alloc (.cells #[] 5)).ownsRow w.heap.size 5 1 (.slice (some ⟨w.heap.size, 0, none⟩) 0 0) 0 (bcells []) :=
  ⟨rfl, .inr ⟨w.heap.size, 0, _, rfl, Nat.le_refl _, heap_alloc_new w _, by simp, by unfold maxLen; omega, rfl, rfl⟩⟩

set_option maxHeartbeats 1000000 in
theorem clone_any (a : Option Addr) (m c : Nat) (l : List UInt8) (w : World) (hl : BAt w w.heap.size a m l) (hlen : m ≤ 1099511627776) :
    Calls Tryd.prog 54 #[.slice a m c] w (NewB w l) := by
  obtain ⟨i0, hi, hz0, hz1, hz2⟩ := info_parts Tryd.info5
  rcases a with _ | ad
  · have hm : m = 0 := by
      rcases hl with ⟨_, h | ⟨b, off, h, _⟩⟩
      · exact h
      · cases h
    obtain rfl : l = [] := List.eq_nil_of_length_eq_zero (by rw [hl.len, hm])
    have heq : ∀ W : World, (binOp .eql 43 (.slice none m c) (.slice none 0 0)).run Tryd.prog W = .ok (.bool true) W := fun W => Lib.run_eql_slice_nil W 43 5 _ _ _ _ _ Tryd.underlying43
    clear hm
    go_enter Tryd.func54, Tryd.ntmps54
    go_wp2
    go_ret
    exact ⟨none, 0, 0, rfl, World.ownsRow_nil _ _ _ _, Below.refl _ _⟩
  · have heq : ∀ W : World, (binOp .eql 43 (.slice (some ad) m c) (.slice none 0 0)).run Tryd.prog W = .ok (.bool false) W := fun W => Lib.run_eql_slice_nil W 43 5 _ _ _ _ _ Tryd.underlying43
    go_enter Tryd.func54, Tryd.ntmps54
    go_wp2_with (at_builtin; (refine wpList_append_bytes _ rfl _ _ 43 rfl w.heap.size 5 i0 Tryd.underlying43 hi hz0 hz1 hz2 _ 0 [] rfl (own_empty w) w.heap.size (some ad) m l c rfl (hl.alloc (Nat.le_refl _) _) (by omega) (by simp) ?_; intro v' w1 hown hg; have R : PutIn w w1 v' (0 + m) ([] ++ l) := ⟨hown, ((Below.refl _ _).alloc (Nat.le_refl _) _).grown hg (by simp) (own_block (own_empty w))⟩; clear hown hg))
    go_ret
    exact R.out

theorem new_any (a : Option Addr) (m c : Nat) (l : List UInt8) (w : World) (hl : BAt w w.heap.size a m l) (hlen : m ≤ 1099511627776) :
    Calls Tryd.prog 26 #[.slice a m c] w (NewR w l) := by
  go_enter Tryd.func26, Tryd.ntmps26
  go_wp2_with (go_at_call 54; ((with_reducible refine (clone_any _ _ _ _ _ hl hlen).mono ?_); rintro e w1 ⟨a1, n1, c1, rfl, ho, hb⟩))
  go_ret
  obtain ⟨_, _, e1, h1, h2, _⟩ := own_form ho
  injection e1 with e1 e2 e3
  subst e1; subst e3
  exact ⟨w1.heap.size, rfl, ⟨a1, n1, c1, heap_alloc_new _ _, h1, h2, (BAt.of_own ho).alloc (Nat.le_refl _) _, fun h => by cases h⟩, hb.size, by simp, hb.alloc hb.size _⟩

/-- Only block g has turned. -/
def Only (g : Nat) (w w' : World) : Prop := w.grownBy w' (some g)
theorem Only.refl (g : Nat) (w : World) : Only g w w := World.grownBy.refl w _
theorem Only.trans {g : Nat} {a b c : World} (h : Only g a b) (k : Only g b c) : Only g a c := World.grownBy.trans h k
theorem Only.below {B g : Nat} {w0 w w' : World} (hb : Below B w0 w) (h : Only g w w') (h1 : B ≤ g) (h2 : B ≤ w.heap.size) : Below B w0 w' :=
  hb.grown h h2 fun k hk => by injection hk; omega

theorem rd_cells {w : World} {g : Nat} {x y : Value} {t : TypeId} (h : w.heap[g]? = some (.cells #[x, y] t (0, 0))) :
    w.cell? ⟨g, 0, none⟩ = some x ∧ w.cell? ⟨g, 1, none⟩ = some y ∧ w.frozen? ⟨g, 0, none⟩ = false ∧ w.frozen? ⟨g, 1, none⟩ = false := by
  refine ⟨by rw [cell_of_row _ _ _ _ _ _ h]; rfl, by rw [cell_of_row _ _ _ _ _ _ h]; rfl, ?_, ?_⟩ <;> simp [World.frozen?, h]

theorem ok_any (g : Nat) (l : List UInt8) (ok : Bool) (w : World) (h : RdAt w g l ok) :
    Calls Tryd.prog 31 #[.pointer (some ⟨g, 0, none⟩)] w fun e w' => e = .returned (.bool ok) ∧ w = w' := by
  obtain ⟨a, n, c, hh, h1, h2, hl, hf⟩ := h
  obtain ⟨c0, c1, _, _⟩ := rd_cells hh
  clear hh hf
  cases ok
  all_goals
    go_enter Tryd.func31, Tryd.ntmps31
    go_wp2
    go_ret
    exact ⟨rfl, rfl⟩
theorem ok_nil (w : World) : Calls Tryd.prog 31 #[.pointer none] w fun e w' => e = .returned (.bool false) ∧ w = w' := by
  go_enter Tryd.func31, Tryd.ntmps31
  go_wp2
  go_ret
  exact ⟨rfl, rfl⟩
theorem left_yes (g : Nat) (l : List UInt8) (w : World) (h : RdAt w g l true) :
    Calls Tryd.prog 37 #[.pointer (some ⟨g, 0, none⟩)] w fun e w' => e = .returned (.int .i64 l.length) ∧ w = w' := by
  have hok := ok_any g l true w h
  obtain ⟨a, n, c, hh, h1, h2, hl, hf⟩ := h
  obtain ⟨c0, c1, _, _⟩ := rd_cells hh
  have hlen := Lib.hid hl.len
  clear hh hf
  go_enter Tryd.func37, Tryd.ntmps37
  go_wp2_with (go_at_call 31; ((with_reducible refine hok.mono ?_); rintro e w' ⟨rfl, rfl⟩))
  go_ret
  exact ⟨by rw [hlen.out]; rfl, rfl⟩
theorem left_no (g : Nat) (l : List UInt8) (w : World) (h : RdAt w g l false) :
    Calls Tryd.prog 37 #[.pointer (some ⟨g, 0, none⟩)] w fun e w' => e = .returned (.int .i64 0) ∧ w = w' := by
  go_enter Tryd.func37, Tryd.ntmps37
  go_wp2_with (go_at_call 31; ((with_reducible refine (ok_any g l false _ h).mono ?_); rintro e w' ⟨rfl, rfl⟩))
  go_ret
  exact ⟨rfl, rfl⟩
theorem left_any (g : Nat) (l : List UInt8) (ok : Bool) (w : World) (h : RdAt w g l ok) :
    Calls Tryd.prog 37 #[.pointer (some ⟨g, 0, none⟩)] w fun e w' => e = .returned (.int .i64 l.length) ∧ w = w' := by
  cases ok
  · have hl : l = [] := by obtain ⟨_, _, _, _, _, _, _, hf⟩ := h; exact hf rfl
    subst hl; exact left_no g _ w h
  · exact left_yes g l w h
theorem left_nil (w : World) : Calls Tryd.prog 37 #[.pointer none] w fun e w' => e = .returned (.int .i64 0) ∧ w = w' := by
  go_enter Tryd.func37, Tryd.ntmps37
  go_wp2_with (go_at_call 31; ((with_reducible refine (ok_nil _).mono ?_); rintro e w' ⟨rfl, rfl⟩))
  go_ret
  exact ⟨rfl, rfl⟩
theorem end_any (g : Nat) (l : List UInt8) (ok : Bool) (w : World) (h : RdAt w g l ok) :
    Calls Tryd.prog 39 #[.pointer (some ⟨g, 0, none⟩)] w fun e w' => e = .returned (.bool (ok && l.isEmpty)) ∧ w = w' := by
  cases ok
  · go_enter Tryd.func39, Tryd.ntmps39
    go_wp2_with (go_at_call 31; ((with_reducible refine (ok_any g l false _ h).mono ?_); rintro e w' ⟨rfl, rfl⟩))
    go_ret
    exact ⟨rfl, rfl⟩
  · cases l with
    | nil =>
      go_enter Tryd.func39, Tryd.ntmps39
      go_wp2_with (first | (go_at_call 31; ((with_reducible refine (ok_any g _ true _ h).mono ?_); rintro e w' ⟨rfl, rfl⟩)) | (go_at_call 37; ((with_reducible refine (left_any g _ true _ h).mono ?_); rintro e w' ⟨rfl, rfl⟩)))
      go_ret
      exact ⟨rfl, rfl⟩
    | cons x r =>
      have h1 : ((((x :: r).length : Nat) : Int) == 0) = false := by simp; omega
      go_enter Tryd.func39, Tryd.ntmps39
      go_wp2_with (first | (go_at_call 31; ((with_reducible refine (ok_any g _ true _ h).mono ?_); rintro e w' ⟨rfl, rfl⟩)) | (go_at_call 37; ((with_reducible refine (left_any g _ true _ h).mono ?_); rintro e w' ⟨rfl, rfl⟩)))
      go_ret
      exact ⟨by simp; omega, rfl⟩
theorem end_nil (w : World) : Calls Tryd.prog 39 #[.pointer none] w fun e w' => e = .returned (.bool false) ∧ w = w' := by
  go_enter Tryd.func39, Tryd.ntmps39
  go_wp2_with (go_at_call 31; ((with_reducible refine (ok_nil _).mono ?_); rintro e w' ⟨rfl, rfl⟩))
  go_ret
  exact ⟨rfl, rfl⟩

theorem set_row {w : World} {g : Nat} {cs : Array Value} {t : TypeId} (h : w.heap[g]? = some (.cells cs t (0, 0))) (i : Nat) (u : Value) :
    (w.setCell ⟨g, i, none⟩ u).heap[g]? = some (.cells (cs.setIfInBounds i u) t (0, 0)) := by
  simp [World.setCell, Array.getElem?_modify, h]
theorem only_set (w : World) (g i : Nat) (u : Value) : Only g w (w.setCell ⟨g, i, none⟩ u) :=
  ⟨rfl, rfl, rfl, by simp [World.setCell], fun k _ hk => Below.heap_setCell w ⟨g, i, none⟩ u k (fun e => hk (by subst e; rfl))⟩
theorem only_set2 (w : World) (g i j : Nat) (u v : Value) : Only g w ((w.setCell ⟨g, i, none⟩ u).setCell ⟨g, j, none⟩ v) := (only_set w g i u).trans (only_set _ g j v)

theorem fail_any (g : Nat) (l : List UInt8) (ok : Bool) (w : World) (h : RdAt w g l ok) :
    Calls Tryd.prog 79 #[.pointer (some ⟨g, 0, none⟩)] w fun e w' => e = .returned (.tuple #[]) ∧ RdAt w' g [] false ∧ Only g w w' := by
  obtain ⟨a, n, c, hh, h1, h2, hl, hf⟩ := h
  obtain ⟨c0, c1, f0, f1⟩ := rd_cells hh
  have HH := Lib.hid hh
  clear hh hf
  go_enter Tryd.func79, Tryd.ntmps79
  go_wp2
  go_end0
  exact ⟨rfl, ⟨none, 0, 0, by rw [set_row (set_row HH.out _ _)]; rfl, Nat.le_refl _, by unfold maxLen; omega, BAt.nil, fun _ => rfl⟩, only_set2 _ _ _ _ _ _⟩
theorem fail_nil (w : World) : Calls Tryd.prog 79 #[.pointer none] w fun e w' => e = .returned (.tuple #[]) ∧ w = w' := by
  go_enter Tryd.func79, Tryd.ntmps79
  go_wp2
  go_end0
  exact ⟨rfl, rfl⟩

/-- The next n bytes are answered: they read as l, and lie below the reader. -/
def Took (g : Nat) (l r : List UInt8) (w : World) (e : Ending) (w' : World) : Prop :=
  ∃ a n c, e = .returned (.slice a n c) ∧ BAt w' g a n l ∧ RdAt w' g r true ∧ Only g w w'

theorem next_no (g : Nat) (l : List UInt8) (ok : Bool) (n : Int) (w : World) (h : RdAt w g l ok) (hn : ok = false ∨ n < 0 ∨ (l.length : Int) < n) :
    Calls Tryd.prog 80 #[.pointer (some ⟨g, 0, none⟩), .int .i64 n] w fun e w' => e = .returned (.slice none 0 0) ∧ RdAt w' g [] false ∧ Only g w w' := by
  by_cases h0 : n < 0
  · go_enter Tryd.func80, Tryd.ntmps80
    go_wp2_with (first | (go_at_call 79; ((with_reducible refine (fail_any g l ok _ h).mono ?_); rintro e w1 ⟨rfl, hr, ho⟩)) | (go_at_call 31; ((with_reducible refine (ok_any g [] false _ hr).mono ?_); rintro e w' ⟨rfl, rfl⟩)))
    go_ret
    exact ⟨rfl, hr, ho⟩
  · by_cases h1 : (l.length : Int) < n
    · have hd : decide ((l.length : Int) < n) = true := by simpa using h1
      go_enter Tryd.func80, Tryd.ntmps80
      go_wp2_with (first | (go_at_call 37; ((with_reducible refine (left_any g l ok _ h).mono ?_); rintro e w' ⟨rfl, rfl⟩)) | (go_at_call 79; ((with_reducible refine (fail_any g l ok _ h).mono ?_); rintro e w1 ⟨rfl, hr, ho⟩)) | (go_at_call 31; ((with_reducible refine (ok_any g [] false _ hr).mono ?_); rintro e w' ⟨rfl, rfl⟩)))
      go_ret
      exact ⟨rfl, hr, ho⟩
    · have hok : ok = false := by rcases hn with h | h | h; · exact h
                                  · omega
                                  · omega
      subst hok
      have hl : l = [] := by obtain ⟨_, _, _, _, _, _, _, hf⟩ := h; exact hf rfl
      subst hl
      have hd : decide ((0 : Int) < n) = false := by simpa using h1
      go_enter Tryd.func80, Tryd.ntmps80
      go_wp2_with (first | (go_at_call 37; ((with_reducible refine (left_no g _ _ h).mono ?_); rintro e w' ⟨rfl, rfl⟩)) | (go_at_call 31; ((with_reducible refine (ok_any g [] false _ h).mono ?_); rintro e w' ⟨rfl, rfl⟩)))
      go_ret
      exact ⟨rfl, h, Only.refl _ _⟩

theorem lt_of_heap {w : World} {g : Nat} {o : Obj} (h : w.heap[g]? = some o) : g < w.heap.size := by
  rcases Nat.lt_or_ge g w.heap.size with h1 | h1
  · exact h1
  · rw [Array.getElem?_eq_none h1] at h; cases h
theorem took_mk {w : World} {g n c k : Nat} {a a' : Option Addr} {l : List UInt8} (hh : w.heap[g]? = some (.cells #[.slice a n c, .bool (!true)] 81 (0, 0))) (hl : BAt w g a n l) (hk : k ≤ n) (h1 : n ≤ c) (h2 : c ≤ maxLen)
    (ha : a' = if c = k then a else a.map (·.add k)) : Took g (l.take k) (l.drop k) w (.returned (.slice a k c)) (w.setCell ⟨g, 0, none⟩ (.slice a' (n - k) (c - k))) := by
  have hg := lt_of_heap hh
  have ho := only_set w g 0 (.slice a' (n - k) (c - k))
  refine ⟨a, k, c, rfl, (hl.take hk).grown ho (by omega) (Nat.le_refl _), ⟨a', n - k, c - k, by rw [set_row hh]; rfl, by omega, by omega, ?_, fun h => by cases h⟩, ho⟩
  have hdr := hl.drop hk h1
  rw [← ha] at hdr
  exact hdr.grown ho (by omega) (Nat.le_refl _)

set_option maxHeartbeats 1000000 in
theorem next_yes (g : Nat) (l : List UInt8) (k : Nat) (w : World) (h : RdAt w g l true) (hk : k ≤ l.length) :
    Calls Tryd.prog 80 #[.pointer (some ⟨g, 0, none⟩), .int .i64 k] w (Took g (l.take k) (l.drop k) w) := by
  have hL := left_any g l true w h
  have hO := ok_any g l true w h
  obtain ⟨a, n, c, hh, h1, h2, hl, hf⟩ := h
  have hn := hl.len
  obtain ⟨c0, c1, f0, f1⟩ := rd_cells hh
  have hd : decide (l.length < k) = false := by simp; omega
  have hkn : k ≤ n := by omega
  have hT := fun a' => took_mk (a' := a') hh hl hkn h1 h2
  unfold maxLen at h2
  clear hh hf hn hl
  by_cases e : c = k
  · obtain rfl : n = k := by omega
    subst e
    have hT' := Lib.hid (hT a (by rw [if_pos rfl]))
    clear hT
    go_enter Tryd.func80, Tryd.ntmps80
    go_wp2_with (first | (go_at_call 37; ((with_reducible refine hL.mono ?_); rintro e w' ⟨rfl, rfl⟩)) | (go_at_call 31; ((with_reducible refine hO.mono ?_); rintro e w' ⟨rfl, rfl⟩)))
    go_ret
    simpa using hT'.out
  · have hT' := Lib.hid (hT (a.map (·.add k)) (by rw [if_neg e]))
    clear hT
    go_enter Tryd.func80, Tryd.ntmps80
    go_wp2_with (first | (go_at_call 37; ((with_reducible refine hL.mono ?_); rintro e w' ⟨rfl, rfl⟩)) | (go_at_call 31; ((with_reducible refine hO.mono ?_); rintro e w' ⟨rfl, rfl⟩)))
    go_ret
    exact hT'.out
end Go.Proofs.YtlkgpajpblhkeaaDoor
