/- The walk of the statement QuorumAdds. Condition: the set is below 2^64. -/
import Derived.Test.YtfmbjjdicghbaaaQuorumRef

namespace Go.Proofs.Ytfmbjjdicghbaaa

open Go.RowKit

theorem has_new (s : Nat) (i : Int) (h0 : 0 ≤ i) (h1 : i ≤ 63) : hasB (addF s i) i = true := by rw [has_add]; simp [h0, h1]
theorem has_other (s : Nat) (i k : Int) (h : ¬ k = i) : hasB (addF s i) k = hasB s k := by rw [has_add]; simp [h]

set_option maxHeartbeats 4000000 in
theorem adds_walk (s : Nat) (i k : Int) (w : World) (hs : s < 18446744073709551616) :
    Calls Try.prog 4 #[.int .u64 s, .int .i64 i, .int .i64 k] w fun e w' => e = .returned (.bool true) ∧ Below w.heap.size w w' := by
  have hl := addF_lt s i hs
  have hq := has_other s i k
  by_cases h0 : 0 ≤ i
  · by_cases h1 : i ≤ 63
    · have hf := has_new s i h0 h1
      by_cases hk : k = i
      · subst hk
        clear hq
        cases hz : hasB s k
        · go_enter Try.func4, Try.ntmps4
          go_wp2_with (first
            | (go_at_call 18; ((with_reducible refine (qAdd_any s _ _ hs).mono ?_); rintro e w' ⟨rfl, rfl⟩))
            | (go_at_call 19; ((with_reducible refine (rAdd_any s _ _ hs).mono ?_); rintro e w' ⟨rfl, rfl⟩))
            | (go_at_call 20; ((with_reducible refine (qHas_any s _ _ hs).mono ?_); rintro e w' ⟨rfl, rfl⟩))
            | (go_at_call 20; ((with_reducible refine (qHas_any (addF s _) _ _ hl).mono ?_); rintro e w' ⟨rfl, rfl⟩))
            | (go_at_call 21; ((with_reducible refine (rHas_any s _ _ hs).mono ?_); rintro e w' ⟨rfl, rfl⟩))
            | (go_at_call 8; ((with_reducible refine (awake5_any _).mono ?_); rintro e w' ⟨rfl, rfl⟩)))
          go_ret
          exact ⟨rfl, Below.refl _ _⟩
        · go_enter Try.func4, Try.ntmps4
          go_wp2_with (first
            | (go_at_call 18; ((with_reducible refine (qAdd_any s _ _ hs).mono ?_); rintro e w' ⟨rfl, rfl⟩))
            | (go_at_call 19; ((with_reducible refine (rAdd_any s _ _ hs).mono ?_); rintro e w' ⟨rfl, rfl⟩))
            | (go_at_call 20; ((with_reducible refine (qHas_any s _ _ hs).mono ?_); rintro e w' ⟨rfl, rfl⟩))
            | (go_at_call 20; ((with_reducible refine (qHas_any (addF s _) _ _ hl).mono ?_); rintro e w' ⟨rfl, rfl⟩))
            | (go_at_call 21; ((with_reducible refine (rHas_any s _ _ hs).mono ?_); rintro e w' ⟨rfl, rfl⟩))
            | (go_at_call 8; ((with_reducible refine (awake5_any _).mono ?_); rintro e w' ⟨rfl, rfl⟩)))
          go_ret
          exact ⟨rfl, Below.refl _ _⟩
      · have hq := hq hk
        have hne : (k == i) = false := by simp; exact hk
        cases hz : hasB s k
        · rw [hz] at hq
          go_enter Try.func4, Try.ntmps4
          go_wp2_with (first
            | (go_at_call 18; ((with_reducible refine (qAdd_any s _ _ hs).mono ?_); rintro e w' ⟨rfl, rfl⟩))
            | (go_at_call 19; ((with_reducible refine (rAdd_any s _ _ hs).mono ?_); rintro e w' ⟨rfl, rfl⟩))
            | (go_at_call 20; ((with_reducible refine (qHas_any s _ _ hs).mono ?_); rintro e w' ⟨rfl, rfl⟩))
            | (go_at_call 20; ((with_reducible refine (qHas_any (addF s _) _ _ hl).mono ?_); rintro e w' ⟨rfl, rfl⟩))
            | (go_at_call 21; ((with_reducible refine (rHas_any s _ _ hs).mono ?_); rintro e w' ⟨rfl, rfl⟩))
            | (go_at_call 8; ((with_reducible refine (awake5_any _).mono ?_); rintro e w' ⟨rfl, rfl⟩)))
          go_ret
          exact ⟨rfl, Below.refl _ _⟩
        · rw [hz] at hq
          go_enter Try.func4, Try.ntmps4
          go_wp2_with (first
            | (go_at_call 18; ((with_reducible refine (qAdd_any s _ _ hs).mono ?_); rintro e w' ⟨rfl, rfl⟩))
            | (go_at_call 19; ((with_reducible refine (rAdd_any s _ _ hs).mono ?_); rintro e w' ⟨rfl, rfl⟩))
            | (go_at_call 20; ((with_reducible refine (qHas_any s _ _ hs).mono ?_); rintro e w' ⟨rfl, rfl⟩))
            | (go_at_call 20; ((with_reducible refine (qHas_any (addF s _) _ _ hl).mono ?_); rintro e w' ⟨rfl, rfl⟩))
            | (go_at_call 21; ((with_reducible refine (rHas_any s _ _ hs).mono ?_); rintro e w' ⟨rfl, rfl⟩))
            | (go_at_call 8; ((with_reducible refine (awake5_any _).mono ?_); rintro e w' ⟨rfl, rfl⟩)))
          go_ret
          exact ⟨rfl, Below.refl _ _⟩
    · have hf := has_no (addF s i) i (.inr (by omega))
      have hd : decide (i ≤ 63) = false := decide_eq_false h1
      by_cases hk : k = i
      · subst hk
        clear hq
        cases hz : hasB s k
        · go_enter Try.func4, Try.ntmps4
          go_wp2_with (first
            | (go_at_call 18; ((with_reducible refine (qAdd_any s _ _ hs).mono ?_); rintro e w' ⟨rfl, rfl⟩))
            | (go_at_call 19; ((with_reducible refine (rAdd_any s _ _ hs).mono ?_); rintro e w' ⟨rfl, rfl⟩))
            | (go_at_call 20; ((with_reducible refine (qHas_any s _ _ hs).mono ?_); rintro e w' ⟨rfl, rfl⟩))
            | (go_at_call 20; ((with_reducible refine (qHas_any (addF s _) _ _ hl).mono ?_); rintro e w' ⟨rfl, rfl⟩))
            | (go_at_call 21; ((with_reducible refine (rHas_any s _ _ hs).mono ?_); rintro e w' ⟨rfl, rfl⟩))
            | (go_at_call 8; ((with_reducible refine (awake5_any _).mono ?_); rintro e w' ⟨rfl, rfl⟩)))
          go_ret
          exact ⟨rfl, Below.refl _ _⟩
        · go_enter Try.func4, Try.ntmps4
          go_wp2_with (first
            | (go_at_call 18; ((with_reducible refine (qAdd_any s _ _ hs).mono ?_); rintro e w' ⟨rfl, rfl⟩))
            | (go_at_call 19; ((with_reducible refine (rAdd_any s _ _ hs).mono ?_); rintro e w' ⟨rfl, rfl⟩))
            | (go_at_call 20; ((with_reducible refine (qHas_any s _ _ hs).mono ?_); rintro e w' ⟨rfl, rfl⟩))
            | (go_at_call 20; ((with_reducible refine (qHas_any (addF s _) _ _ hl).mono ?_); rintro e w' ⟨rfl, rfl⟩))
            | (go_at_call 21; ((with_reducible refine (rHas_any s _ _ hs).mono ?_); rintro e w' ⟨rfl, rfl⟩))
            | (go_at_call 8; ((with_reducible refine (awake5_any _).mono ?_); rintro e w' ⟨rfl, rfl⟩)))
          go_ret
          exact ⟨rfl, Below.refl _ _⟩
      · have hq := hq hk
        have hne : (k == i) = false := by simp; exact hk
        cases hz : hasB s k
        · rw [hz] at hq
          go_enter Try.func4, Try.ntmps4
          go_wp2_with (first
            | (go_at_call 18; ((with_reducible refine (qAdd_any s _ _ hs).mono ?_); rintro e w' ⟨rfl, rfl⟩))
            | (go_at_call 19; ((with_reducible refine (rAdd_any s _ _ hs).mono ?_); rintro e w' ⟨rfl, rfl⟩))
            | (go_at_call 20; ((with_reducible refine (qHas_any s _ _ hs).mono ?_); rintro e w' ⟨rfl, rfl⟩))
            | (go_at_call 20; ((with_reducible refine (qHas_any (addF s _) _ _ hl).mono ?_); rintro e w' ⟨rfl, rfl⟩))
            | (go_at_call 21; ((with_reducible refine (rHas_any s _ _ hs).mono ?_); rintro e w' ⟨rfl, rfl⟩))
            | (go_at_call 8; ((with_reducible refine (awake5_any _).mono ?_); rintro e w' ⟨rfl, rfl⟩)))
          go_ret
          exact ⟨rfl, Below.refl _ _⟩
        · rw [hz] at hq
          go_enter Try.func4, Try.ntmps4
          go_wp2_with (first
            | (go_at_call 18; ((with_reducible refine (qAdd_any s _ _ hs).mono ?_); rintro e w' ⟨rfl, rfl⟩))
            | (go_at_call 19; ((with_reducible refine (rAdd_any s _ _ hs).mono ?_); rintro e w' ⟨rfl, rfl⟩))
            | (go_at_call 20; ((with_reducible refine (qHas_any s _ _ hs).mono ?_); rintro e w' ⟨rfl, rfl⟩))
            | (go_at_call 20; ((with_reducible refine (qHas_any (addF s _) _ _ hl).mono ?_); rintro e w' ⟨rfl, rfl⟩))
            | (go_at_call 21; ((with_reducible refine (rHas_any s _ _ hs).mono ?_); rintro e w' ⟨rfl, rfl⟩))
            | (go_at_call 8; ((with_reducible refine (awake5_any _).mono ?_); rintro e w' ⟨rfl, rfl⟩)))
          go_ret
          exact ⟨rfl, Below.refl _ _⟩
  · have hf := has_no (addF s i) i (.inl (by omega))
    by_cases hk : k = i
    · subst hk
      clear hq
      cases hz : hasB s k
      · go_enter Try.func4, Try.ntmps4
        go_wp2_with (first
          | (go_at_call 18; ((with_reducible refine (qAdd_any s _ _ hs).mono ?_); rintro e w' ⟨rfl, rfl⟩))
          | (go_at_call 19; ((with_reducible refine (rAdd_any s _ _ hs).mono ?_); rintro e w' ⟨rfl, rfl⟩))
          | (go_at_call 20; ((with_reducible refine (qHas_any s _ _ hs).mono ?_); rintro e w' ⟨rfl, rfl⟩))
          | (go_at_call 20; ((with_reducible refine (qHas_any (addF s _) _ _ hl).mono ?_); rintro e w' ⟨rfl, rfl⟩))
          | (go_at_call 21; ((with_reducible refine (rHas_any s _ _ hs).mono ?_); rintro e w' ⟨rfl, rfl⟩))
          | (go_at_call 8; ((with_reducible refine (awake5_any _).mono ?_); rintro e w' ⟨rfl, rfl⟩)))
        go_ret
        exact ⟨rfl, Below.refl _ _⟩
      · go_enter Try.func4, Try.ntmps4
        go_wp2_with (first
          | (go_at_call 18; ((with_reducible refine (qAdd_any s _ _ hs).mono ?_); rintro e w' ⟨rfl, rfl⟩))
          | (go_at_call 19; ((with_reducible refine (rAdd_any s _ _ hs).mono ?_); rintro e w' ⟨rfl, rfl⟩))
          | (go_at_call 20; ((with_reducible refine (qHas_any s _ _ hs).mono ?_); rintro e w' ⟨rfl, rfl⟩))
          | (go_at_call 20; ((with_reducible refine (qHas_any (addF s _) _ _ hl).mono ?_); rintro e w' ⟨rfl, rfl⟩))
          | (go_at_call 21; ((with_reducible refine (rHas_any s _ _ hs).mono ?_); rintro e w' ⟨rfl, rfl⟩))
          | (go_at_call 8; ((with_reducible refine (awake5_any _).mono ?_); rintro e w' ⟨rfl, rfl⟩)))
        go_ret
        exact ⟨rfl, Below.refl _ _⟩
    · have hq := hq hk
      have hne : (k == i) = false := by simp; exact hk
      cases hz : hasB s k
      · rw [hz] at hq
        go_enter Try.func4, Try.ntmps4
        go_wp2_with (first
          | (go_at_call 18; ((with_reducible refine (qAdd_any s _ _ hs).mono ?_); rintro e w' ⟨rfl, rfl⟩))
          | (go_at_call 19; ((with_reducible refine (rAdd_any s _ _ hs).mono ?_); rintro e w' ⟨rfl, rfl⟩))
          | (go_at_call 20; ((with_reducible refine (qHas_any s _ _ hs).mono ?_); rintro e w' ⟨rfl, rfl⟩))
          | (go_at_call 20; ((with_reducible refine (qHas_any (addF s _) _ _ hl).mono ?_); rintro e w' ⟨rfl, rfl⟩))
          | (go_at_call 21; ((with_reducible refine (rHas_any s _ _ hs).mono ?_); rintro e w' ⟨rfl, rfl⟩))
          | (go_at_call 8; ((with_reducible refine (awake5_any _).mono ?_); rintro e w' ⟨rfl, rfl⟩)))
        go_ret
        exact ⟨rfl, Below.refl _ _⟩
      · rw [hz] at hq
        go_enter Try.func4, Try.ntmps4
        go_wp2_with (first
          | (go_at_call 18; ((with_reducible refine (qAdd_any s _ _ hs).mono ?_); rintro e w' ⟨rfl, rfl⟩))
          | (go_at_call 19; ((with_reducible refine (rAdd_any s _ _ hs).mono ?_); rintro e w' ⟨rfl, rfl⟩))
          | (go_at_call 20; ((with_reducible refine (qHas_any s _ _ hs).mono ?_); rintro e w' ⟨rfl, rfl⟩))
          | (go_at_call 20; ((with_reducible refine (qHas_any (addF s _) _ _ hl).mono ?_); rintro e w' ⟨rfl, rfl⟩))
          | (go_at_call 21; ((with_reducible refine (rHas_any s _ _ hs).mono ?_); rintro e w' ⟨rfl, rfl⟩))
          | (go_at_call 8; ((with_reducible refine (awake5_any _).mono ?_); rintro e w' ⟨rfl, rfl⟩)))
        go_ret
        exact ⟨rfl, Below.refl _ _⟩
end Go.Proofs.Ytfmbjjdicghbaaa
