/- Contracts of config's own small functions: sizes, keys, order, counts and sums. Conditions: the lists lie in memory. -/
import Derived.Test.YtcgfhjkdgpgheaaDoorGC
import Derived.Test.YtcgfhjkdgpgheaaDoorGD
import Derived.Tactics2
import Derived.Deep.DeepCutAuto
import Derived.Deep.QuietTactic
import Derived.BigQuiet
import Derived.WalkLawsBesides
namespace Go.Proofs.YtcgfhjkdgpgheaaDoor

open Go.RowKit
theorem sum_snoc (R : List Int) (k : Nat) (h : k < R.length) : (R.take (k + 1)).sum = (R.take k).sum + R[k] := by
  rw [List.take_succ_eq_append_getElem h, List.sum_append]; simp
theorem sum_le (R : List Int) (h : ∀ z ∈ R, 0 ≤ z ∧ z ≤ 5) (k : Nat) : 0 ≤ (R.take k).sum ∧ (R.take k).sum ≤ 5 * (k : Int) := by
  induction k with
  | zero => simp
  | succ k ih =>
    by_cases hk : k < R.length
    · have := h _ (List.getElem_mem hk)
      rw [sum_snoc R k hk]; omega
    · rw [List.take_of_length_le (by omega)] at ih ⊢; omega

end Go.Proofs.YtcgfhjkdgpgheaaDoor
