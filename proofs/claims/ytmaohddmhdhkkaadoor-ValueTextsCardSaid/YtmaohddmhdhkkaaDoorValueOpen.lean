/- What came in, opened: a value by value; a list of values. No condition. -/
import Derived.Test.YtmaohddmhdhkkaaDoorOpenStruct

import Derived.Test.YtmaohddmhdhkkaaDoorCodeOpenRows

import Derived.Test.YtmaohddmhdhkkaaDoorValueBackWalk

namespace Go.Proofs.YtmaohddmhdhkkaaDoor

open Go.ChangeShapes Go.WideShapes Go.ChangeAt Go.RowKit

theorem u64_of {x : Int} (wx : (Lit.int .u64 x).wf = true) : ∃ n : Nat, x = (n : Int) ∧ n < 18446744073709551616 := by
  have bx : 0 ≤ x ∧ x < 18446744073709551616 := by simp [Lit.wf, IntKind.min, IntKind.max, IntKind.bits, IntKind.signed] at wx; omega
  obtain ⟨x, rfl⟩ := Int.eq_ofNat_of_zero_le bx.1
  exact ⟨x, rfl, by omega⟩
set_option maxRecDepth 100000 in
theorem open_value {H : Type} {enc : TypeId × Value → H} {w : World} {base b0 : Nat} {r : Reach} {spare : Nat → Bool} {held : Bool} {v : Value} {d : DataW H} {p : List MemPlace}
    (hv : Value.okWide Tryd.prog w r b0 24 v) (h : DataW.Trod enc Tryd.prog w base spare held 24 v d p) :
    ∃ (k : Int) (b : Nat) (t : ByteArray), v = .agg #[.int .i64 k, .int .u64 (b : Nat), .string t] ∧ b < 18446744073709551616 ∧ t.size ≤ maxLen := by
  obtain ⟨cs, rfl, hl, hj⟩ := open_struct Tryd.underlying24 (by kernel_rfl) (by kernel_rfl) hv h
  match cs, hl with
  | [c0, c1, c2], _ =>
    obtain ⟨_, _, h0⟩ := hj 0 _ rfl
    obtain ⟨_, _, h1⟩ := hj 1 _ rfl
    obtain ⟨_, _, h2⟩ := hj 2 _ rfl
    obtain ⟨x, e0, _, _⟩ := DataW.trod_int Tryd.underlying3 h0
    obtain ⟨y, e1, _, wy⟩ := DataW.trod_int Tryd.underlying22 h1
    obtain ⟨z, e2, _, hz⟩ := DataW.trod_string Tryd.underlying9 h2
    simp at e0 e1 e2
    subst e0; subst e1; subst e2
    obtain ⟨y, rfl, hy⟩ := u64_of wy
    exact ⟨x, y, z, rfl, hy, hz⟩
set_option maxRecDepth 100000 in
theorem open_values {H : Type} {enc : TypeId × Value → H} {w : World} {base b0 : Nat} {r : Reach} {spare : Nat → Bool} {held : Bool} {v : Value} {d : DataW H} {p : List MemPlace}
    (hv : Value.okWide Tryd.prog w r b0 47 v) (h : DataW.Trod enc Tryd.prog w base spare held 47 v d p) : ∃ a n c K X T, v = .slice a n c ∧ ValsAt w w.heap.size a n K X T ∧ n ≤ maxLen := by
  obtain ⟨a, n, c, rfl, h1, h2, hr⟩ := open_rows Tryd.underlying47 Tryd.underlying24 (by kernel_rfl) (by kernel_rfl) hv h (by decide)
  rcases hr with h0 | ⟨b, off, rfl, hb, hc⟩
  · exact ⟨_, _, _, fun _ => 0, fun _ => 0, fun _ => ⟨#[]⟩, rfl, .inl h0, by omega⟩
  · have hK : ∀ i, ∃ x : Int, i < n → w.cell? ⟨b, off + i * 3, none⟩ = some (.int .i64 x) := by
      intro i
      by_cases hi : i < n
      · obtain ⟨u, k, y, hu, ht⟩ := hc i hi 0 _ rfl
        obtain ⟨x, hx, _⟩ := DataW.trod_int Tryd.underlying3 ht
        simp at hx; subst hx
        exact ⟨x, fun _ => by simpa using hu⟩
      · exact ⟨0, fun h => absurd h hi⟩
    have hX : ∀ i, ∃ x : Nat, i < n → w.cell? ⟨b, off + i * 3 + 1, none⟩ = some (.int .u64 (x : Nat)) ∧ x < 18446744073709551616 := by
      intro i
      by_cases hi : i < n
      · obtain ⟨u, k, y, hu, ht⟩ := hc i hi 1 _ rfl
        obtain ⟨x, hx, _, wx⟩ := DataW.trod_int Tryd.underlying22 ht
        simp at hx; subst hx
        obtain ⟨x, rfl, hx⟩ := u64_of wx
        exact ⟨x, fun _ => ⟨by simpa [Nat.add_assoc] using hu, hx⟩⟩
      · exact ⟨0, fun h => absurd h hi⟩
    have hS : ∀ i, ∃ x : ByteArray, i < n → w.cell? ⟨b, off + i * 3 + 2, none⟩ = some (.string x) ∧ x.size ≤ maxLen := by
      intro i
      by_cases hi : i < n
      · obtain ⟨u, k, y, hu, ht⟩ := hc i hi 2 _ rfl
        obtain ⟨x, hx, _, hz⟩ := DataW.trod_string Tryd.underlying9 ht
        simp at hx; subst hx
        exact ⟨x, fun _ => ⟨by simpa [Nat.add_assoc] using hu, hz⟩⟩
      · exact ⟨⟨#[]⟩, fun h => absurd h hi⟩
    exact ⟨_, _, _, fun i => Classical.choose (hK i), fun i => Classical.choose (hX i), fun i => Classical.choose (hS i), rfl,
      .inr ⟨b, off, rfl, hb, fun i hi => ⟨⟨Classical.choose_spec (hK i) hi, (Classical.choose_spec (hX i) hi).1, (Classical.choose_spec (hS i) hi).1⟩, (Classical.choose_spec (hX i) hi).2, (Classical.choose_spec (hS i) hi).2⟩⟩, by omega⟩
end Go.Proofs.YtmaohddmhdhkkaaDoor
