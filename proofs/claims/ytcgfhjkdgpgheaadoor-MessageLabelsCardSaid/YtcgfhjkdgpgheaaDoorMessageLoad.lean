/- Whole loads of messages as words of their own, so that a walk leaves them whole. No condition. -/
import Derived.Test.YtcgfhjkdgpgheaaDoorGX
namespace Go.Proofs.YtcgfhjkdgpgheaaDoor

open Go.RowKit

set_option linter.unusedVariables false

/-- A whole message is loaded. -/
def ldG (p : Value) : Sem Value := Instr.loadAt 39 p
def ldD (p : Value) : Sem Value := Instr.loadAt 46 p
@[go_sem ↓ high] theorem ldG_eq (p : Value) : Instr.loadAt 39 p = ldG p := rfl
@[go_sem ↓ high] theorem ldD_eq (p : Value) : Instr.loadAt 46 p = ldD p := rfl
theorem BoxC.ldG {w : World} {g : Nat} {x : MgM} (h : BoxC w g (mgV x) 39) : (Go.Proofs.YtcgfhjkdgpgheaaDoor.ldG (.pointer (some ⟨g, 0, none⟩))).run Tryd.prog w = .ok (.agg (mgV x)) w := h.ldM
theorem BoxC.ldD {w : World} {g : Nat} {x : MgM} (h : BoxC w g (mgV x) 46) : (Go.Proofs.YtcgfhjkdgpgheaaDoor.ldD (.pointer (some ⟨g, 0, none⟩))).run Tryd.prog w = .ok (.agg (mgV x)) w := h.ldR
end Go.Proofs.YtcgfhjkdgpgheaaDoor
