/- What came in, opened: an id by value. No condition. -/
import Derived.Test.YtlkgpajpblhkeaaOpenStruct

import Derived.Test.YtlkgpajpblhkeaaTxnSame

namespace Go.Proofs.Ytlkgpajpblhkeaa

open Go.ChangeShapes Go.WideShapes Go.ChangeAt Go.RowKit

set_option maxRecDepth 100000 in
theorem open_id {H : Type} {enc : TypeId × Value → H} {w : World} {base b0 : Nat} {r : Reach} {spare : Nat → Bool} {held : Bool} {v : Value} {d : DataW H} {p : List MemPlace}
    (hv : Value.okWide Try.prog w r b0 23 v) (h : DataW.Trod enc Try.prog w base spare held 23 v d p) :
    ∃ s q : Int, v = .agg #[.int .i64 s, .int .i64 q] := by
  obtain ⟨cs, rfl, hl, hj⟩ := open_struct Try.underlying23 (by kernel_rfl) (by kernel_rfl) hv h
  match cs, hl with
  | [c0, c1], _ =>
    obtain ⟨_, _, h0⟩ := hj 0 _ rfl
    obtain ⟨_, _, h1⟩ := hj 1 _ rfl
    obtain ⟨x, e0, _, _⟩ := DataW.trod_int Try.underlying3 h0
    obtain ⟨y, e1, _, _⟩ := DataW.trod_int Try.underlying3 h1
    simp at e0 e1
    subst e0; subst e1
    exact ⟨x, y, rfl⟩
end Go.Proofs.Ytlkgpajpblhkeaa
