/- How many bytes a reader that is a state has left. No condition. -/
import Derived.Test.YtigimmbdlhginaaGreatDoorGB
namespace Go.Proofs.YtigimmbdlhginaaGreatDoor
open Go.RowKit
set_option linter.unusedVariables false
/-- How many bytes are left. -/
def lenS : St→Nat
 | some l=>l.length
 | none=>0
theorem leftS_any (g : Nat) (st : St) (W : World) (h : RS g st W) : Calls Tryz.prog 41 #[.pointer (some ⟨g,0,none⟩)] W fun e w'=>e = .returned (.int .i64 (lenS st : Nat))∧W = w':=by
 cases st with
 | none=>exact left_any g [] false W h
 | some l=>exact left_any g l true W h
theorem RS.below {g : Nat} {st : St} {W W' : World} (h : RS g st W) (hb : Below W.heap.size W W') : RS g st W':=Keep.keep (g:=g) W W' h fun b hb'=>hb.block b (by have:=h.lt;omega)
end Go.Proofs.YtigimmbdlhginaaGreatDoor
