/- The walk of the statement BallotNext, whatever Next answers. Conditions: the ballots' rounds fit their kind. -/
import Derived.Test.YtcmboanepllgjaaBallotNextWalk

namespace Go.Proofs.Ytcmboanepllgjaa

open Go.RowKit

theorem next_cases (r n m : Int) (h0 : 0 ≤ r) (h1 : r < 4294967296) : (∃ p q e, NextC r n m ((p, q), e) ∧ (e == 0) = false) ∨ (∃ p : Nat, p < 4294967296 ∧ NextC r n m ((p, m), 0) ∧ formB m = true ∧ lessB (r, n) (p, m) = true) := by
  have c : NextC r n m (nextB (r, n) m) := fun W => bNext_any r n m W h0 h1
  cases hf : formB m
  · rw [next_bad r n m hf] at c
    exact .inl ⟨0, 0, 1, c, rfl⟩
  · by_cases hr : r = 4294967295
    · subst hr
      rw [next_full n m hf] at c
      exact .inl ⟨0, 0, 7, c, rfl⟩
    · rw [next_ok r n m hf hr] at c
      have e : r + 1 = (((r + 1).toNat : Nat) : Int) := by omega
      rw [e] at c
      exact .inr ⟨(r + 1).toNat, by omega, c, rfl, by rw [less_iff]; left; show r < _; omega⟩
theorem next6_walk (r n r' n' m m' : Int) (w : World) (h0 : 0 ≤ r) (h1 : r < 4294967296) (h0' : 0 ≤ r') (h1' : r' < 4294967296) :
    Calls Try.prog 6 #[.agg #[.int .u32 r, .int .i64 n], .agg #[.int .u32 r', .int .i64 n'], .agg #[.int .i64 m, .int .i64 m']] w (Says w true) := by
  rcases next_cases r n m h0 h1 with ⟨p, q, e, cN, he⟩ | ⟨p, hp, cN, hf, hl⟩
  · rcases next_cases r' n' m' h0' h1' with ⟨p', q', f, cM, _⟩ | ⟨p', _, cM, _⟩
    · exact next6_bad r n r' n' m m' w p q e p' q' f cN cM (.inl he)
    · exact next6_bad r n r' n' m m' w p q e p' m' 0 cN cM (.inl he)
  · rcases next_cases r' n' m' h0' h1' with ⟨p', q', f, cM, hf'⟩ | ⟨p', _, cM, _⟩
    · exact next6_bad r n r' n' m m' w p m 0 p' q' f cN cM (.inr ⟨rfl, hf'⟩)
    · refine next6_ok r n r' n' m m' w p p' hp cN cM hf hl ?_
      by_cases e : m = m'
      · exact .inl e
      · exact .inr ⟨by simp; exact e, e⟩
end Go.Proofs.Ytcmboanepllgjaa
