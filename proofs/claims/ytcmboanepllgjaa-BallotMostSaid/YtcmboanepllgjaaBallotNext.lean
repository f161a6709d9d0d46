/- Contracts of ballot.Next and of the document's own. Conditions: the ballot's round fits its kind. -/
import Derived.Test.YtcmboanepllgjaaBallotProg

namespace Go.Proofs.Ytcmboanepllgjaa

open Go.RowKit

set_option linter.unusedVariables false

/-- A ballot and an error are answered. -/
def NextP (w : World) (x : Bal × Int) (e : Ending) (w' : World) : Prop := e = .returned (.tuple #[.agg #[.int .u32 x.1.1, .int .i64 x.1.2], .int .i64 x.2]) ∧ Below w.heap.size w w'
theorem next_bad (r n m : Int) (h : formB m = false) : nextB (r, n) m = ((0, 0), 1) := by simp [nextB, h]
theorem next_full (n m : Int) (h : formB m = true) : nextB (4294967295, n) m = ((0, 0), 7) := by simp [nextB, h]
theorem next_ok (r n m : Int) (h : formB m = true) (hr : r ≠ 4294967295) : nextB (r, n) m = ((r + 1, m), 0) := by simp [nextB, h, hr]

/-- Three boxes, each behind the other; later on they lie there still. -/
theorem three_new (w : World) (A Z X : Array Value) (t u v : TypeId) : BoxC (((w.alloc (.cells A t)).alloc (.cells Z u)).alloc (.cells X v)) w.heap.size A t ∧ BoxC (((w.alloc (.cells A t)).alloc (.cells Z u)).alloc (.cells X v)) (w.heap.size + 1) Z u ∧
    BoxC (((w.alloc (.cells A t)).alloc (.cells Z u)).alloc (.cells X v)) (w.heap.size + 1 + 1) X v ∧ Below w.heap.size w (((w.alloc (.cells A t)).alloc (.cells Z u)).alloc (.cells X v)) := by
  have e1 : (w.alloc (.cells A t)).heap.size = w.heap.size + 1 := by simp
  have e2 : ((w.alloc (.cells A t)).alloc (.cells Z u)).heap.size = w.heap.size + 1 + 1 := by simp
  have b2 := BoxC.new (w.alloc (.cells A t)) Z u
  have b3 := BoxC.new ((w.alloc (.cells A t)).alloc (.cells Z u)) X v
  rw [e1] at b2
  rw [e2] at b3
  exact ⟨((BoxC.new w A t).alloc _).alloc _, b2.alloc _, b3, (two_box w A Z t u).alloc (by simp; omega) _⟩
theorem three_on {w w0 w1 : World} {A Z X : Array Value} {t u v : TypeId} (h : BoxC w0 w.heap.size A t ∧ BoxC w0 (w.heap.size + 1) Z u ∧ BoxC w0 (w.heap.size + 1 + 1) X v ∧ Below w.heap.size w w0) (hb : Below w0.heap.size w0 w1) :
    BoxC w1 w.heap.size A t ∧ BoxC w1 (w.heap.size + 1) Z u ∧ BoxC w1 (w.heap.size + 1 + 1) X v ∧ Below w.heap.size w w1 :=
  ⟨h.1.below hb, h.2.1.below hb, h.2.2.1.below hb, h.2.2.2.trans (hb.mono h.2.2.2.size)⟩
theorem two_new (w : World) (A Z : Array Value) (t u : TypeId) : BoxC ((w.alloc (.cells A t)).alloc (.cells Z u)) w.heap.size A t ∧ BoxC ((w.alloc (.cells A t)).alloc (.cells Z u)) (w.heap.size + 1) Z u ∧ Below w.heap.size w ((w.alloc (.cells A t)).alloc (.cells Z u)) := by
  have e1 : (w.alloc (.cells A t)).heap.size = w.heap.size + 1 := by simp
  have b2 := BoxC.new (w.alloc (.cells A t)) Z u
  rw [e1] at b2
  exact ⟨(BoxC.new w A t).alloc _, b2, two_box w A Z t u⟩
theorem two_on {w w0 w1 : World} {A Z : Array Value} {t u : TypeId} (h : BoxC w0 w.heap.size A t ∧ BoxC w0 (w.heap.size + 1) Z u ∧ Below w.heap.size w w0) (hb : Below w0.heap.size w0 w1) :
    BoxC w1 w.heap.size A t ∧ BoxC w1 (w.heap.size + 1) Z u ∧ Below w.heap.size w w1 :=
  ⟨h.1.below hb, h.2.1.below hb, h.2.2.trans (hb.mono h.2.2.size)⟩

set_option maxHeartbeats 1000000 in
theorem bNext_any (r n m : Int) (w : World) (h0 : 0 ≤ r) (h1 : r < 4294967296) : Calls Try.prog 8 #[.agg #[.int .u32 r, .int .i64 n], .int .i64 m] w (NextP w (nextB (r, n) m)) := by
  have cF := fun r' W => bFormed_any r' m W
  have H0 := Lib.hid (three_new w #[.int .u32 r, .int .i64 n] #[.int .u32 0, .int .i64 0] #[.int .u32 ((r + 1) % 4294967296), .int .i64 m] 24 24 24)
  cases hf : formB m
  · rw [hf] at cF
    rw [next_bad r n m hf]
    clear hf
    go_enter Try.func8, Try.ntmps8
    go_wp2_with (go_at_call 11; ((with_reducible refine (cF _ _).mono ?_); rintro e w1 ⟨rfl, hb1⟩; have H1 := Lib.hid (three_on H0.out hb1); obtain ⟨a0, a1⟩ := H1.out.1.two; obtain ⟨z0, z1⟩ := H1.out.2.1.two; have f0 := H1.out.2.1.frozen 0; have f1 := H1.out.2.1.frozen 1; obtain ⟨x0, x1⟩ := H1.out.2.2.1.two))
    exact bodyPost_ret (v := .tuple #[.agg #[.int .u32 0, .int .i64 0], .int .i64 1]) (by simp [results, Try.results8, go_sem, z0, z1]) rfl ⟨rfl, (H1.out.2.2.2.setCell (by simp) _).setCell (by simp) _⟩
  · rw [hf] at cF
    by_cases hr : r = 4294967295
    · subst hr
      rw [next_full n m hf]
      clear hf
      go_enter Try.func8, Try.ntmps8
      go_wp2_with (go_at_call 11; ((with_reducible refine (cF _ _).mono ?_); rintro e w1 ⟨rfl, hb1⟩; have H1 := Lib.hid (three_on H0.out hb1); obtain ⟨a0, a1⟩ := H1.out.1.two; obtain ⟨z0, z1⟩ := H1.out.2.1.two; have f0 := H1.out.2.1.frozen 0; have f1 := H1.out.2.1.frozen 1; obtain ⟨x0, x1⟩ := H1.out.2.2.1.two))
      exact bodyPost_ret (v := .tuple #[.agg #[.int .u32 0, .int .i64 0], .int .i64 7]) (by simp [results, Try.results8, go_sem, z0, z1]) rfl ⟨rfl, (H1.out.2.2.2.setCell (by simp) _).setCell (by simp) _⟩
    · have hm : (r + 1) % 4294967296 = r + 1 := by omega
      have q : (r == 4294967295) = false := by simp; exact hr
      rw [next_ok r n m hf hr]
      rw [hm] at H0
      clear hf
      go_enter Try.func8, Try.ntmps8
      go_wp2_with (go_at_call 11; ((with_reducible refine (cF _ _).mono ?_); rintro e w1 ⟨rfl, hb1⟩; have H1 := Lib.hid (three_on H0.out hb1); obtain ⟨a0, a1⟩ := H1.out.1.two; obtain ⟨z0, z1⟩ := H1.out.2.1.two; have f0 := H1.out.2.1.frozen 0; have f1 := H1.out.2.1.frozen 1; obtain ⟨x0, x1⟩ := H1.out.2.2.1.two))
      exact bodyPost_ret (v := .tuple #[.agg #[.int .u32 (r + 1), .int .i64 m], .int .i64 0]) (by simp [results, Try.results8, go_sem, z0, z1]) rfl ⟨rfl, (H1.out.2.2.2.setCell (by simp) _).setCell (by simp) _⟩
set_option maxHeartbeats 1000000 in
theorem rNext_any (r n m : Int) (w : World) (h0 : 0 ≤ r) (h1 : r < 4294967296) : Calls Try.prog 9 #[.agg #[.int .u32 r, .int .i64 n], .int .i64 m] w (NextP w (nextB (r, n) m)) := by
  have cF := fun r' W => rFormed_any r' m W
  have H0 := Lib.hid (two_new w #[.int .u32 r, .int .i64 n] #[.int .u32 0, .int .i64 0] 28 28)
  cases hf : formB m
  · rw [hf] at cF
    rw [next_bad r n m hf]
    clear hf
    go_enter Try.func9, Try.ntmps9
    go_wp2_with (go_at_call 12; ((with_reducible refine (cF _ _).mono ?_); rintro e w1 ⟨rfl, hb1⟩; have H1 := Lib.hid (two_on H0.out hb1); obtain ⟨a0, a1⟩ := H1.out.1.two; obtain ⟨z0, z1⟩ := H1.out.2.1.two; have f0 := H1.out.2.1.frozen 0; have f1 := H1.out.2.1.frozen 1))
    exact bodyPost_ret (v := .tuple #[.agg #[.int .u32 0, .int .i64 0], .int .i64 1]) (by simp [results, Try.results9, go_sem, z0, z1]) rfl ⟨rfl, (H1.out.2.2.setCell (by simp) _).setCell (by simp) _⟩
  · rw [hf] at cF
    by_cases hr : r = 4294967295
    · subst hr
      rw [next_full n m hf]
      clear hf
      go_enter Try.func9, Try.ntmps9
      go_wp2_with (go_at_call 12; ((with_reducible refine (cF _ _).mono ?_); rintro e w1 ⟨rfl, hb1⟩; have H1 := Lib.hid (two_on H0.out hb1); obtain ⟨a0, a1⟩ := H1.out.1.two; obtain ⟨z0, z1⟩ := H1.out.2.1.two; have f0 := H1.out.2.1.frozen 0; have f1 := H1.out.2.1.frozen 1))
      exact bodyPost_ret (v := .tuple #[.agg #[.int .u32 0, .int .i64 0], .int .i64 7]) (by simp [results, Try.results9, go_sem, z0, z1]) rfl ⟨rfl, (H1.out.2.2.setCell (by simp) _).setCell (by simp) _⟩
    · have hm : (r + 1) % 4294967296 = r + 1 := by omega
      have q : (r == 4294967295) = false := by simp; exact hr
      rw [next_ok r n m hf hr]
      clear hf
      go_enter Try.func9, Try.ntmps9
      go_wp2_with (go_at_call 12; ((with_reducible refine (cF _ _).mono ?_); rintro e w1 ⟨rfl, hb1⟩; have H1 := Lib.hid (two_on H0.out hb1); obtain ⟨a0, a1⟩ := H1.out.1.two; obtain ⟨z0, z1⟩ := H1.out.2.1.two; have f0 := H1.out.2.1.frozen 0; have f1 := H1.out.2.1.frozen 1))
      exact bodyPost_ret (v := .tuple #[.agg #[.int .u32 (r + 1), .int .i64 m], .int .i64 0]) (by simp [results, Try.results9, go_sem, z0, z1]) rfl ⟨rfl, (H1.out.2.2.setCell (by simp) _).setCell (by simp) _⟩
end Go.Proofs.Ytcmboanepllgjaa
