/- What came in, opened: a configuration by value. No condition. -/
import Derived.Test.YtlkgpajpblhkeaaDoorOpenStruct
import Derived.Test.YtlkgpajpblhkeaaDoorGD
import Derived.Test.YtlkgpajpblhkeaaDoorGH
namespace Go.Proofs.YtlkgpajpblhkeaaDoor

open Go.ChangeShapes Go.WideShapes Go.ChangeAt Go.RowKit

set_option maxRecDepth 100000 in
theorem open_config {H : Type} {enc : TypeId × Value → H} {w : World} {base b0 : Nat} {r : Reach} {spare : Nat → Bool} {held : Bool} {v : Value} {d : DataW H} {p : List MemPlace}
    (hv : Value.okWide Tryd.prog w r b0 36 v) (h : DataW.Trod enc Tryd.prog w base spare held 36 v d p) :
    ∃ (a : Option Addr) (n c : Nat) (b : Option Addr) (m e : Nat) (R : List Int) (Bs : List ByteArray), v = .agg #[.slice a n c, .slice b m e] ∧ n ≤ c ∧ CfgAt w a n b m R Bs := by
  obtain ⟨cs, rfl, hl, hj⟩ := open_struct Tryd.underlying36 (by kernel_rfl) (by kernel_rfl) hv h
  match cs, hl with
  | [c0, c1], _ =>
    obtain ⟨_, _, h0⟩ := hj 0 _ rfl
    obtain ⟨_, _, h1⟩ := hj 1 _ rfl
    obtain ⟨a, n, c, R, e0, hn, _, hR, _⟩ := trod_ints Tryd.underlying33 Tryd.underlying3 (by kernel_rfl) h0
    obtain ⟨b, m, e, Bs, e1, _, _, hB, hs⟩ := trod_strs Tryd.underlying34 Tryd.underlying9 (by kernel_rfl) h1
    simp at e0 e1
    subst e0; subst e1
    exact ⟨a, n, c, b, m, e, R, Bs, rfl, hn, hR, hB, hs⟩
end Go.Proofs.YtlkgpajpblhkeaaDoor
