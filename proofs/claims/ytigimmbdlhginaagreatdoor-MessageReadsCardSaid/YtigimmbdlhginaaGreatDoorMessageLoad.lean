/- Whole loads of messages as words of their own, so that a walk leaves them whole. No condition. -/
import Derived.Test.YtigimmbdlhginaaGreatDoorGX
namespace Go.Proofs.YtigimmbdlhginaaGreatDoor
open Go.RowKit
set_option linter.unusedVariables false
/-- A whole message is loaded. -/
def ldG (p : Value) : Sem Value:=Instr.loadAt 40 p
def ldD (p : Value) : Sem Value:=Instr.loadAt 46 p
@[go_sem ↓ high] theorem ldG_eq (p : Value) : Instr.loadAt 40 p = ldG p:=rfl
@[go_sem ↓ high] theorem ldD_eq (p : Value) : Instr.loadAt 46 p = ldD p:=rfl
theorem BoxC.ldG {w : World} {g : Nat} {x : MgM} (h : BoxC w g (mgV x) 40) : (Go.Proofs.YtigimmbdlhginaaGreatDoor.ldG (.pointer (some ⟨g,0,none⟩))).run Tryz.prog w = .ok (.agg (mgV x)) w:=h.ldM
theorem BoxC.ldD {w : World} {g : Nat} {x : MgM} (h : BoxC w g (mgV x) 46) : (Go.Proofs.YtigimmbdlhginaaGreatDoor.ldD (.pointer (some ⟨g,0,none⟩))).run Tryz.prog w = .ok (.agg (mgV x)) w:=h.ldR
end Go.Proofs.YtigimmbdlhginaaGreatDoor
