/- Plain mathematics of layer config: bounds that rise and whose a key is, the groups of many keys, replicas and their places. No condition. -/
import Derived.WalkKit
import Derived.Sort.Walk0
namespace Go.Proofs.YtigimmbdlhginaaGreatDoor
/-- Whether the bound b isn't above the key k. -/
def leB (b k : List UInt8) : Bool := !Op.bytesLess k b
theorem leB_eq (b k : List UInt8) : (Op.bytesLess b k || b == k) = leB b k:=by
 have h1:=bytesLess_eq b k
 have h2:=bytesLess_eq k b
 unfold leB
 rw [h1,h2,Bool.eq_iff_iff]
 simp only [Bool.or_eq_true,decide_eq_true_eq,beq_iff_eq,Bool.not_eq_true',decide_eq_false_iff_not]
 constructor
 ·rintro (h | rfl)
  ·exact fun h'=>List.lt_irrefl _ (List.lt_trans h h')
  ·exact List.lt_irrefl _
 ·intro h
  by_cases hb : b < k
  ·exact .inl hb
  ·exact .inr (List.le_antisymm (List.not_lt.1 h) (List.not_lt.1 hb))
/-- The same of texts, as the model compares them. -/
theorem leS (z s : ByteArray) : (Op.bytesLess z.toList s.toList || z.toList == s.toList) = leB z.data.toList s.data.toList:=by
 rw [ByteArray.toList_eq,ByteArray.toList_eq];exact leB_eq _ _
theorem ltS (z s : ByteArray) : Op.bytesLess z.toList s.toList = !leB s.data.toList z.data.toList:=by
 rw [ByteArray.toList_eq,ByteArray.toList_eq];unfold leB;rw [Bool.not_not]
/-- How many bounds aren't above k. -/
def homeC (Bs : List (List UInt8)) (k : List UInt8) : Nat:=(Bs.filter fun b=>leB b k).length
/-- Each bound lies behind the ones ahead of it. -/
def risesB (Bs : List (List UInt8)) : Prop:=Bs.Pairwise (· < ·)
/-- The groups that are among hs, rising. -/
def groupsC (n : Nat) (hs : List Nat) : List Nat:=(List.range n).filter fun g=>decide (g ∈ hs)
/-- The replica of a place; the place of a replica. -/
def atL : List Nat→Nat→Option (Nat×Nat)
 | [],_=>none
 | r :: R,p=>if p < r then some (0,p) else (atL R (p - r)).map fun x=>(x.1 + 1,x.2)
def placeL : List Nat→Nat→Nat→Option Nat
 | [],_,_=>none
 | r :: _,0,k=>if k < r then some k else none
 | r :: R,g + 1,k=>(placeL R g k).map (· + r)
end Go.Proofs.YtigimmbdlhginaaGreatDoor
