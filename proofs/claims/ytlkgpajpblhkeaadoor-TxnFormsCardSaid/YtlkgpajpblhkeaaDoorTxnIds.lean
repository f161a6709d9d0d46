/- Contracts of txn.Id and Less and of the document's own. No condition. -/
import Derived.Test.YtlkgpajpblhkeaaDoorTxnMath

import Derived.Test.YtlkgpajpblhkeaaDoorBox

import Derived.Tactics2

import Derived.BigQuiet

namespace Go.Proofs.YtlkgpajpblhkeaaDoor

open Go.RowKit

theorem tId_any (s q : Int) (w : World) : Calls Tryd.prog 12 #[.agg #[.int .i64 s, .int .i64 q]] w (Says w (idB (s, q))) := by
  have hO := one_box w #[.int .i64 s, .int .i64 q] 23
  unfold idB
  by_cases h1 : 1 ≤ s
  · by_cases h2 : s ≤ 8
    · by_cases h3 : 1 ≤ q
      · by_cases h4 : q ≤ 1048576
        · rw [decide_eq_true h1, decide_eq_true h2, decide_eq_true h3, decide_eq_true h4]
          go_enter Tryd.func12, Tryd.ntmps12
          go_wp2
          go_ret
          exact ⟨rfl, hO⟩
        · rw [decide_eq_true h1, decide_eq_true h2, decide_eq_true h3, decide_eq_false h4]
          go_enter Tryd.func12, Tryd.ntmps12
          go_wp2
          go_ret
          exact ⟨rfl, hO⟩
      · rw [decide_eq_true h1, decide_eq_true h2, decide_eq_false h3]
        go_enter Tryd.func12, Tryd.ntmps12
        go_wp2
        go_ret
        exact ⟨rfl, hO⟩
    · rw [decide_eq_true h1, decide_eq_false h2]
      go_enter Tryd.func12, Tryd.ntmps12
      go_wp2
      go_ret
      exact ⟨rfl, hO⟩
  · rw [decide_eq_false h1]
    go_enter Tryd.func12, Tryd.ntmps12
    go_wp2
    go_ret
    exact ⟨rfl, hO⟩

theorem rId_any (s q : Int) (w : World) : Calls Tryd.prog 13 #[.agg #[.int .i64 s, .int .i64 q]] w (Says w (idB (s, q))) := by
  have hO := one_box w #[.int .i64 s, .int .i64 q] 23
  unfold idB
  by_cases h1 : 1 ≤ s
  · by_cases h2 : s ≤ 8
    · by_cases h3 : 1 ≤ q
      · by_cases h4 : q ≤ 1048576
        · rw [decide_eq_true h1, decide_eq_true h2, decide_eq_true h3, decide_eq_true h4]
          go_enter Tryd.func13, Tryd.ntmps13
          go_wp2
          go_ret
          exact ⟨rfl, hO⟩
        · rw [decide_eq_true h1, decide_eq_true h2, decide_eq_true h3, decide_eq_false h4]
          go_enter Tryd.func13, Tryd.ntmps13
          go_wp2
          go_ret
          exact ⟨rfl, hO⟩
      · rw [decide_eq_true h1, decide_eq_true h2, decide_eq_false h3]
        go_enter Tryd.func13, Tryd.ntmps13
        go_wp2
        go_ret
        exact ⟨rfl, hO⟩
    · rw [decide_eq_true h1, decide_eq_false h2]
      go_enter Tryd.func13, Tryd.ntmps13
      go_wp2
      go_ret
      exact ⟨rfl, hO⟩
  · rw [decide_eq_false h1]
    go_enter Tryd.func13, Tryd.ntmps13
    go_wp2
    go_ret
    exact ⟨rfl, hO⟩

theorem tLess_any (a b c d : Int) (w : World) : Calls Tryd.prog 14 #[.agg #[.int .i64 a, .int .i64 b], .agg #[.int .i64 c, .int .i64 d]] w (Says w (lessId (a, b) (c, d))) := by
  have hO := two_box w #[.int .i64 a, .int .i64 b] #[.int .i64 c, .int .i64 d] 23 23
  by_cases h : a = c
  · subst h
    rw [show lessId (a, b) (a, d) = decide (b < d) from if_pos rfl]
    go_enter Tryd.func14, Tryd.ntmps14
    go_wp2
    go_ret
    exact ⟨rfl, hO⟩
  · rw [show lessId (a, b) (c, d) = decide (a < c) from if_neg h]
    have q : (a != c) = true := by simpa using h
    go_enter Tryd.func14, Tryd.ntmps14
    go_wp2
    go_ret
    exact ⟨rfl, hO⟩

theorem rLess_any (a b c d : Int) (w : World) : Calls Tryd.prog 15 #[.agg #[.int .i64 a, .int .i64 b], .agg #[.int .i64 c, .int .i64 d]] w (Says w (lessId (a, b) (c, d))) := by
  have hO := two_box w #[.int .i64 a, .int .i64 b] #[.int .i64 c, .int .i64 d] 23 23
  by_cases h : a = c
  · subst h
    rw [show lessId (a, b) (a, d) = decide (b < d) from if_pos rfl]
    go_enter Tryd.func15, Tryd.ntmps15
    go_wp2
    go_ret
    exact ⟨rfl, hO⟩
  · rw [show lessId (a, b) (c, d) = decide (a < c) from if_neg h]
    have q : (a != c) = true := by simpa using h
    go_enter Tryd.func15, Tryd.ntmps15
    go_wp2
    go_ret
    exact ⟨rfl, hO⟩
end Go.Proofs.YtlkgpajpblhkeaaDoor
