/- What came in, opened: a value by value. No condition. -/
import Derived.Test.YtpkbjbhmghdnoaaDoorOpenStruct
import Derived.Test.YtpkbjbhmghdnoaaDoorValueKey
namespace Go.Proofs.YtpkbjbhmghdnoaaDoor

open Go.ChangeShapes Go.WideShapes Go.ChangeAt Go.RowKit

theorem u64_of {x : Int} (wx : (Lit.int .u64 x).wf = true) : ∃ n : Nat, x = (n : Int) ∧ n < 18446744073709551616 := by
  have bx : 0 ≤ x ∧ x < 18446744073709551616 := by simp [Lit.wf, IntKind.min, IntKind.max, IntKind.bits, IntKind.signed] at wx; omega
  obtain ⟨x, rfl⟩ := Int.eq_ofNat_of_zero_le bx.1
  exact ⟨x, rfl, by omega⟩
set_option maxRecDepth 100000 in
theorem open_value {H : Type} {enc : TypeId × Value → H} {w : World} {base b0 : Nat} {r : Reach} {spare : Nat → Bool} {held : Bool} {v : Value} {d : DataW H} {p : List MemPlace}
    (hv : Value.okWide Tryd.prog w r b0 80 v) (h : DataW.Trod enc Tryd.prog w base spare held 80 v d p) :
    ∃ (k : Int) (b : Nat) (t : ByteArray), v = .agg #[.int .i64 k, .int .u64 (b : Nat), .string t] ∧ b < 18446744073709551616 ∧ t.size ≤ maxLen := by
  obtain ⟨cs, rfl, hl, hj⟩ := open_struct Tryd.underlying80 (by kernel_rfl) (by kernel_rfl) hv h
  match cs, hl with
  | [c0, c1, c2], _ =>
    obtain ⟨_, _, h0⟩ := hj 0 _ rfl
    obtain ⟨_, _, h1⟩ := hj 1 _ rfl
    obtain ⟨_, _, h2⟩ := hj 2 _ rfl
    obtain ⟨x, e0, _, _⟩ := DataW.trod_int Tryd.underlying3 h0
    obtain ⟨y, e1, _, wy⟩ := DataW.trod_int Tryd.underlying28 h1
    obtain ⟨z, e2, _, hz⟩ := DataW.trod_string Tryd.underlying9 h2
    simp at e0 e1 e2
    subst e0; subst e1; subst e2
    obtain ⟨y, rfl, hy⟩ := u64_of wy
    exact ⟨x, y, z, rfl, hy, hz⟩
end Go.Proofs.YtpkbjbhmghdnoaaDoor
