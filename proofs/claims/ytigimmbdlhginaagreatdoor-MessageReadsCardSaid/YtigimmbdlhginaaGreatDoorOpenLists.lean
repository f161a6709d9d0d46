/- What came in, opened: lists of integers and of texts, also as fields of a struct. No condition. -/
import Derived.Test.YtigimmbdlhginaaGreatDoorCodeOpen
import Derived.Test.YtigimmbdlhginaaGreatDoorGB
import Derived.Deep.Slices
namespace Go.Proofs.YtigimmbdlhginaaGreatDoor
open Go.ChangeShapes Go.WideShapes Go.ChangeAt Go.RowKit
/-- A slice of integers, of texts, reads as the list l. -/
def IntsAt (w : World) (B : Nat) (a : Option Addr) (n : Nat) (l : List Int) : Prop:=l.length = n∧RowAt w B a n 1 (l.map (Value.int .i64))
def StrsAt (w : World) (B : Nat) (a : Option Addr) (n : Nat) (l : List ByteArray) : Prop:=l.length = n∧RowAt w B a n 1 (l.map Value.string)
section
variable {w w' : World} {B B' n : Nat} {a : Option Addr}
theorem StrsAt.at_ {l : List ByteArray} (h : StrsAt w B a n l) {i : Nat} (hi : i < l.length) : ∃ b off,a = some ⟨b,off,none⟩∧b < B∧w.cell? ⟨b,off + i,none⟩ = some (.string l[i]):=by
 obtain ⟨b,off,ha,hb,hc⟩:=h.2.addr (by have:=h.1;omega)
 exact ⟨b,off,ha,hb,hc i _ (by simp [hi])⟩
end
section
variable {H : Type} {enc : TypeId×Value→H} {P : Program} {w : World} {base : Nat} {spare : Nat→Bool} {held : Bool}
end
end Go.Proofs.YtigimmbdlhginaaGreatDoor
