/- Contracts of ballot.Formed, Less and Next, of the document's own, and of the statements' awake. No condition. -/
import Derived.Test.YtcmboanepllgjaaBallotMath

import Derived.Test.YtcmboanepllgjaaBox

namespace Go.Proofs.Ytcmboanepllgjaa

open Go.RowKit

set_option linter.unusedVariables false

theorem two_box (w : World) (cs ds : Array Value) (t u : TypeId) : Below w.heap.size w ((w.alloc (.cells cs t)).alloc (.cells ds u)) := ((Below.refl _ _).alloc (Nat.le_refl _) _).alloc (by simp) _
theorem one_box (w : World) (cs : Array Value) (t : TypeId) : Below w.heap.size w (w.alloc (.cells cs t)) := (Below.refl _ _).alloc (Nat.le_refl _) _

set_option maxHeartbeats 1000000 in
theorem bLess_any (r n r' n' : Int) (w : World) : Calls Try.prog 13 #[.agg #[.int .u32 r, .int .i64 n], .agg #[.int .u32 r', .int .i64 n']] w (Says w (lessB (r, n) (r', n'))) := by
  have hB := two_box w #[.int .u32 r, .int .i64 n] #[.int .u32 r', .int .i64 n'] 24 24
  by_cases h : r = r'
  · subst h
    have e : lessB (r, n) (r, n') = decide (n < n') := by simp [lessB]
    rw [e]
    go_enter Try.func13, Try.ntmps13
    go_wp2
    go_ret
    exact ⟨rfl, hB⟩
  · have e : lessB (r, n) (r', n') = decide (r < r') := by simp [lessB, h]
    have q : (r == r') = false := by simp; exact h
    rw [e]
    go_enter Try.func13, Try.ntmps13
    go_wp2
    go_ret
    exact ⟨rfl, hB⟩
set_option maxHeartbeats 1000000 in
theorem rLess_any (r n r' n' : Int) (w : World) : Calls Try.prog 14 #[.agg #[.int .u32 r, .int .i64 n], .agg #[.int .u32 r', .int .i64 n']] w (Says w (lessB (r, n) (r', n'))) := by
  have hB := two_box w #[.int .u32 r, .int .i64 n] #[.int .u32 r', .int .i64 n'] 28 28
  by_cases h : r = r'
  · subst h
    have e : lessB (r, n) (r, n') = decide (n < n') := by simp [lessB]
    rw [e]
    go_enter Try.func14, Try.ntmps14
    go_wp2
    go_ret
    exact ⟨rfl, hB⟩
  · have e : lessB (r, n) (r', n') = decide (r < r') := by simp [lessB, h]
    have q : (r == r') = false := by simp; exact h
    rw [e]
    go_enter Try.func14, Try.ntmps14
    go_wp2
    go_ret
    exact ⟨rfl, hB⟩
theorem bFormed_any (r n : Int) (w : World) : Calls Try.prog 11 #[.agg #[.int .u32 r, .int .i64 n]] w (Says w (formB n)) := by
  have hB := one_box w #[.int .u32 r, .int .i64 n] 24
  unfold formB
  by_cases h : 0 ≤ n
  · have q : decide (n < 0) = false := by simp; omega
    rw [decide_eq_true h, Bool.true_and]
    go_enter Try.func11, Try.ntmps11
    go_wp2
    go_ret
    exact ⟨rfl, hB⟩
  · have q : decide (n < 0) = true := by simp; omega
    rw [decide_eq_false h, Bool.false_and]
    go_enter Try.func11, Try.ntmps11
    go_wp2
    go_ret
    exact ⟨rfl, hB⟩
theorem rFormed_any (r n : Int) (w : World) : Calls Try.prog 12 #[.agg #[.int .u32 r, .int .i64 n]] w (Says w (formB n)) := by
  have hB := one_box w #[.int .u32 r, .int .i64 n] 28
  unfold formB
  by_cases h : 0 ≤ n
  · have e : decide (n < 5) = decide (n ≤ 4) := by simp; omega
    rw [e, decide_eq_true h, Bool.true_and]
    go_enter Try.func12, Try.ntmps12
    go_wp2
    go_ret
    exact ⟨rfl, hB⟩
  · rw [decide_eq_false h, Bool.false_and]
    go_enter Try.func12, Try.ntmps12
    go_wp2
    go_ret
    exact ⟨rfl, hB⟩
theorem awake6_any (w : World) : Calls Try.prog 10 #[] w (Says w true) := by
  go_enter Try.func10, Try.ntmps10
  go_wp2_with (go_at_call 13; ((with_reducible refine (bLess_any 0 0 1 0 _).mono ?_); rintro e w1 ⟨rfl, hb1⟩))
  go_ret
  exact ⟨rfl, hb1⟩
end Go.Proofs.Ytcmboanepllgjaa
