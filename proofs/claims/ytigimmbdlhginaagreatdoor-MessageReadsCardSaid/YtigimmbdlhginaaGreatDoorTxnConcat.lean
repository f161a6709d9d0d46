/- Contracts of slices.Grow of no slice, and of slices.Concat of two slices. Conditions: the slices lie in memory, and are no longer than 2^40. -/
import Derived.Test.YtigimmbdlhginaaGreatDoorGK
import Derived.Lib.AppendZerosOnto
import Derived.Lib.AppendZeros
namespace Go.Proofs.YtigimmbdlhginaaGreatDoor
open Go.RowKit
set_option linter.unusedVariables false
/-- A new row of one-cell elements is answered. -/
def NewX (e : TypeId) (w : World) (xs : List Value) (en : Ending) (w' : World) : Prop :=
 ∃ a c,en = .returned (.slice a xs.length c)∧w'.ownsRow w.heap.size e 1 (.slice a xs.length c) xs.length xs∧Below w.heap.size w w'
/-- What is there of two slices, when k of them have come. -/
def totN (n1 n2 k : Nat) : Nat:=if k = 0 then 0 else if k = 1 then n1 else n1 + n2
def totX (x1 x2 : List Value) (k : Nat) : List Value:=if k = 0 then [] else if k = 1 then x1 else x1 ++ x2
end Go.Proofs.YtigimmbdlhginaaGreatDoor
