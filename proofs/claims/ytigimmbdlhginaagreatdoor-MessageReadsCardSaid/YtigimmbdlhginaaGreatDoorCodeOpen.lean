/- What came in, opened: an array of two integers; a slice of bytes. No condition. -/
import Derived.Test.YtigimmbdlhginaaGreatDoorGR
import Derived.OpenShut
import Derived.ChangeOld
import Derived.ProofKit
namespace Go.Proofs.YtigimmbdlhginaaGreatDoor
open Go.ChangeShapes Go.WideShapes Go.ChangeAt Go.RowKit
section
variable {H : Type} {enc : TypeId×Value→H} {P : Program} {w : World} {base : Nat} {spare : Nat→Bool} {held : Bool}
/-- A slice of bytes. -/
theorem open_bytes {r : Reach} {b0 : Nat} {t e : TypeId} {v : Value} {d : DataW H} {p : List MemPlace} (ht : P.underlying t = some (.slice e)) (he : P.underlying e = some (.int .u8)) (hce : P.cellsOf e = 1)
  (hv : Value.okWide P w r b0 t v) (h : DataW.Trod enc P w base spare held t v d p) :
  ∃ a n c l,v = .slice a n c∧BAt w w.heap.size a n l∧n≤c∧c≤maxLen:=by
 obtain ⟨a,n,c,rfl⟩:=okWide_slice ht hv
 obtain ⟨fuel,hf⟩:=h
 rcases open_ints ht he hce hf with ⟨hcs,_⟩ | ⟨x,l,c',zs,hcs,_,hl,hm,hz,_,hcell,hwz⟩
 ·simp [Value.cells] at hcs
  obtain ⟨rfl,rfl,rfl⟩:=hcs
  exact ⟨_,_,_,[],rfl,BAt.nil,Nat.le_refl _,by unfold maxLen;omega⟩
 ·simp [Value.cells] at hcs
  obtain ⟨rfl,rfl,rfl⟩:=hcs
  obtain ⟨bs,hb⟩:=bat_in (len:=n) (zs:=zs) (by rw [hz];split <;> omega) hcell hwz
  exact ⟨_,_,_,bs,rfl,hb,hl,hm⟩
end
end Go.Proofs.YtigimmbdlhginaaGreatDoor
