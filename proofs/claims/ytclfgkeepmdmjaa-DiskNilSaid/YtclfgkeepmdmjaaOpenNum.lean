/- Numbers that came in: what their kind tells of them. No condition. -/
import Derived.WalkKit

namespace Go.Proofs.Ytclfgkeepmdmjaa

theorem nat64_of {x : Int} (h : (Lit.int .u64 x).wf = true) : ∃ n : Nat, x = (n : Nat) ∧ n < 18446744073709551616 := by
  have bx : 0 ≤ x ∧ x < 18446744073709551616 := by simp [Lit.wf, IntKind.min, IntKind.max, IntKind.bits, IntKind.signed] at h; omega
  obtain ⟨n, rfl⟩ := Int.eq_ofNat_of_zero_le bx.1
  exact ⟨n, rfl, by omega⟩
theorem nat8_of {x : Int} (h : (Lit.int .u8 x).wf = true) : ∃ n : Nat, x = (n : Nat) ∧ n < 256 := by
  have bx : 0 ≤ x ∧ x < 256 := by simp [Lit.wf, IntKind.min, IntKind.max, IntKind.bits, IntKind.signed] at h; omega
  obtain ⟨n, rfl⟩ := Int.eq_ofNat_of_zero_le bx.1
  exact ⟨n, rfl, by omega⟩
end Go.Proofs.Ytclfgkeepmdmjaa
