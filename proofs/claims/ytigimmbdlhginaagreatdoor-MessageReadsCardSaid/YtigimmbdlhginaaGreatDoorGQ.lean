/- Contracts of code.Put and code.PutText: the bytes that they put, as new memory. Conditions: what they are handed lies in memory and is not longer than 2^40. New bytes, seen from an earlier world; one byte of a number. No condition. -/
import Derived.Test.YtigimmbdlhginaaGreatDoorChecked
import Derived.Test.YtigimmbdlhginaaGreatDoorGR
import Derived.Test.YtigimmbdlhginaaGreatDoorCodeMath
import Derived.WalkKit
import Derived.Tactics2
import Derived.Deep.DeepCutAuto
import Derived.Laws.MakeOwn
import Derived.Laws.BitsAllLaws
namespace Go.Proofs.YtigimmbdlhginaaGreatDoor
open Go.RowKit
set_option linter.unusedVariables false
theorem Tryz.info5 : (Tryz.prog.info? 5).map (fun i=>(i.zero,i.size,i.bytes)) = some (some (.int .u8 0),1,1):=by kernel_rfl
theorem info_parts {i? : Option TypeInfo} {z : Value} {n m : Nat} (h : i?.map (fun i=>(i.zero,i.size,i.bytes)) = some (some z,n,m)) :
  ∃ i,i? = some i∧i.zero = some z∧i.size = n∧i.bytes = m:=by
 cases i? with
 | none=>cases h
 | some i=>simp at h;exact ⟨i,rfl,h.1,h.2.1,h.2.2⟩
/-- New memory that holds the bytes l is answered. -/
def NewB (w : World) (l : List UInt8) (e : Ending) (w' : World) : Prop :=
 ∃ a n c,e = .returned (.slice a n c)∧w'.ownsRow w.heap.size 5 1 (.slice a n c) n (bcells l)∧Below w.heap.size w w'
theorem byte_eq (x j : Nat) : ((x : Int) / 2 ^ (8 * j) % 256) = ((UInt8.ofNat (x / 256 ^ j)).toNat : Int):=by
 have h8 : (UInt8.ofNat (x / 256 ^ j)).toNat = x / 256 ^ j % 256:=UInt8.toNat_ofNat'
 have h2 : (2 : Int) ^ (8 * j) = ((256 ^ j : Nat) : Int):=by
  have h3 : (2 : Int) ^ 8 = ((256 : Nat) : Int):=by decide
  rw [Int.pow_mul,h3,Int.natCast_pow]
 rw [h8,h2,Int.natCast_emod,Int.natCast_ediv];rfl
/-- What Put's loop holds. -/
def PutIn (w wr : World) (v : Value) (n : Nat) (l : List UInt8) : Prop:=wr.ownsRow w.heap.size 5 1 v n (bcells l)∧Below w.heap.size w wr
theorem PutIn.next {w wr w1 : World} {v v' : Value} {n m : Nat} {l l' : List UInt8} (h : PutIn w wr v n l) {o : Obj} (ho : w1.ownsRow w.heap.size 5 1 v' m (bcells l'))
  (hg : (wr.alloc o).grownBy w1 v.ownBlock) : PutIn w w1 v' m l':=by
 have hs:=h.2.size
 exact ⟨ho,(h.2.alloc hs o).grown hg (by simp;omega) (own_block h.1)⟩
theorem PutIn.next0 {w wr w1 : World} {v v' : Value} {n m : Nat} {l l' : List UInt8} (h : PutIn w wr v n l) (ho : w1.ownsRow w.heap.size 5 1 v' m (bcells l'))
  (hg : wr.grownBy w1 v.ownBlock) : PutIn w w1 v' m l':=⟨ho,h.2.grown hg h.2.size (own_block h.1)⟩
theorem PutIn.out {w wr : World} {v : Value} {n : Nat} {l : List UInt8} (h : PutIn w wr v n l) : NewB w l (.returned v) wr:=by
 obtain ⟨a,c,rfl,_⟩:=own_form h.1
 exact ⟨a,n,c,rfl,h.1,h.2⟩
theorem PutIn.cast {w wr : World} {v : Value} {n : Nat} {l m : List UInt8} (h : PutIn w wr v n l) (e : l = m) : PutIn w wr v n m:=e ▸ h
theorem PutIn.len {w wr : World} {v : Value} {n : Nat} {l : List UInt8} (h : PutIn w wr v n l) : l.length = n:=own_len h.1
theorem NewB.on {w w1 w' : World} {l : List UInt8} {e : Ending} (h : NewB w1 l e w') (hb : Below w.heap.size w w1) : NewB w l e w':=by
 obtain ⟨a,n,c,rfl,ho,hb'⟩:=h
 exact ⟨a,n,c,rfl,own_base ho hb.size,hb.trans (hb'.mono hb.size)⟩
theorem NewB.cast {w w' : World} {l m : List UInt8} {e : Ending} (h : NewB w l e w') (hl : l = m) : NewB w m e w':=hl ▸ h
theorem PutIn.below {w wr w1 : World} {v : Value} {n : Nat} {l : List UInt8} (h : PutIn w wr v n l) (hb : Below wr.heap.size wr w1) : PutIn w w1 v n l:=⟨own_below h.1 hb,h.2.trans (hb.mono h.2.size)⟩
/-- What a call answered, while a row was made. -/
theorem PutIn.call {w wr w1 : World} {a : Option Addr} {n c : Nat} {l : List UInt8} (hb : Below w.heap.size w wr) (ho : w1.ownsRow wr.heap.size 5 1 (.slice a n c) n (bcells l)) (hb1 : Below wr.heap.size wr w1) : PutIn w w1 (.slice a n c) n l:=⟨own_base ho hb.size,hb.trans (hb1.mono hb.size)⟩
theorem PutIn.bat {w wr : World} {a : Option Addr} {n c : Nat} {l : List UInt8} (h : PutIn w wr (.slice a n c) n l) : BAt wr wr.heap.size a n l:=BAt.of_own h.1
theorem PutIn.bel {w wr : World} {v : Value} {n : Nat} {l : List UInt8} (h : PutIn w wr v n l) : Below w.heap.size w wr:=h.2
theorem PutIn.own {w wr : World} {v : Value} {n : Nat} {l : List UInt8} (h : PutIn w wr v n l) : wr.ownsRow w.heap.size 5 1 v n (bcells l):=h.1
theorem PutIn.form {w wr : World} {v : Value} {n : Nat} {l : List UInt8} (h : PutIn w wr v n l) : ∃ a c,v = .slice a n c:=by
 obtain ⟨a,c,h1,_⟩:=own_form h.1
 exact ⟨a,c,h1⟩
theorem byte_nat (n : Nat) (h : n < 256) : ((n : Nat) : Int) = ((UInt8.ofNat n).toNat : Int):=by
 have h8 : (UInt8.ofNat n).toNat = n % 256:=UInt8.toNat_ofNat'
 rw [h8];omega
theorem byte_mod (n : Nat) : ((n : Nat) : Int) % 256 = ((UInt8.ofNat n).toNat : Int):=by
 have h8 : (UInt8.ofNat n).toNat = n % 256:=UInt8.toNat_ofNat'
 rw [h8];omega
theorem put_one (n : Nat) : putB n 1 = [UInt8.ofNat n]:=by simp [putB]
end Go.Proofs.YtigimmbdlhginaaGreatDoor
