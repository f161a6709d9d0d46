/- Contracts of message.putFlag, putVote and putField. Conditions: what they are handed lies in memory; the field is well; the tables of utf8 lie there. Contract of message.Write. Conditions: the message's lists lie in memory, and are no longer than a million; the tables of utf8 lie there. -/
import Derived.Test.YtigimmbdlhginaaGreatDoorGT
import Derived.Test.YtigimmbdlhginaaGreatDoorHA
import Derived.Test.YtigimmbdlhginaaGreatDoorGZ
import Derived.Test.YtigimmbdlhginaaGreatDoorMessageLoad
import Derived.Deep.RegionHeld3
import Derived.Test.YtigimmbdlhginaaGreatDoorGU
namespace Go.Proofs.YtigimmbdlhginaaGreatDoor
set_option maxHeartbeats 1000000
open Go.RowKit
set_option linter.unusedVariables false
theorem bal_put (r : Nat) (n : Int) (hn : formB n = true) : balB r n = balBytes (((r : Nat) : Int),n):=by
 have h : 0≤n∧n < 5:=by simpa [formB] using hn
 unfold balB balBytes
 show putB r 4 ++ _ = putB ((r : Nat) : Int).toNat 4 ++ putB n.toNat 1
 have e : (n % 256).toNat = n.toNat:=by omega
 rw [Int.toNat_natCast,put_one,e]
/-- What a vote's bytes are; what a field's bytes are. -/
noncomputable def voteBytes (x : MgM) (L : MgL) : List UInt8:=putB (yesN x.has) 1 ++ (if x.has then balBytes (((x.vr : Nat) : Int),x.vn) ++ cmB (cmT x.cm L.rs L.ws) else [])
noncomputable def putF (x : MgM) (L : MgL) (c : Nat) : List UInt8 :=
 if c = 98 then balBytes (((x.br : Nat) : Int),x.bn) else if c = 115 then putB x.sl.toNat 4 else if c = 104 then voteBytes x L
 else if c = 99 then cmB (cmT x.cm L.rs L.ws) else if c = 116 then txnB bytesV (txT (x.s,x.q) L.rt L.wt) else if c = 105 then idBytes (x.i,x.j)
 else if c = 103 then putB x.g.toNat 1 else if c = 112 then putB x.st 8 else if c = 121 then putB (yesN x.y) 1 else if c = 110 then putB x.nu.toNat 4
 else if c = 107 then textB x.key.data.toList else if c = 118 then putB x.ver 8 else if c = 120 then bytesV ⟨x.vk,x.vb,x.vt.data.toList⟩
 else if c = 101 then putB x.er.toNat 1 else if c = 100 then dataB L.dl else []
/-- The bytes of the fields of some letters. -/
noncomputable def putFs (x : MgM) (L : MgL) (l : List Nat) : List UInt8:=l.flatMap (putF x L)
theorem balBytes_len (b : Bal) : (balBytes b).length = 5:=by unfold balBytes;rw [List.length_append,putB_len,putB_len]
/-- Bytes and how it ended. -/
def WrB (w : World) (f : Bool) (l : List UInt8) (e : Ending) (w' : World) : Prop :=
 ∃ a n c,e = .returned (.tuple #[.slice a n c,.int .i64 (if f then 0 else 2)])∧w'.ownsRow w.heap.size 5 1 (.slice a n c) n (bcells (if f then l else []))∧Below w.heap.size w w'
/-- Where the loop stands: the bytes so far, the message's box, the letters' iterator. -/
def WrtR (x : MgM) (L : MgL) (s : ByteArray) (w : World) (g : Nat) (pos : Nat) (v : Value) (n : Nat) (wr : World) : Prop :=
 wr.ownsRow w.heap.size 5 1 v n (bcells (putB x.k.toNat 1 ++ putFs x L ((lets s).take pos)))∧Below w.heap.size w wr∧BoxC wr w.heap.size (mgV x) 40∧wr.heap[g]? = some (.stringIter s pos)∧w.heap.size < g
section
variable {x : MgM} {L : MgL} {s : ByteArray} {w wr w1 : World} {g pos n n' : Nat} {v v' : Value}
end
section
variable {w : World} {x : MgM} {L : MgL}
theorem bytes_1 (hk : x.k = 1) (hf : FormMg (mgT x L)) : putB x.k.toNat 1 ++ putFs x L (lets (letters x.k)) = mgB (mgT x L):=by
 have e1 : lets (letters x.k) = [98]:=by rw [hk];rfl
 have e2 : x.has = false:=hf.has0 (show uHas (mgT x L).k = false by rw [show (mgT x L).k = 1 from hk];rfl)
 rw [e1]
 unfold mgB putFs
 show _ = putB x.k.toNat 1 ++ (onB (uBal x.k) (balBytes (((x.br : Nat) : Int),x.bn)) ++ (onB (uSlot x.k) (putB x.sl.toNat 4) ++ (onB (uHas x.k) (putB (yesN x.has) 1) ++ (onB x.has (balBytes (((x.vr : Nat) : Int),x.vn)) ++ (onB (x.has || uCmd x.k) (cmB (cmT x.cm L.rs L.ws)) ++ (onB (uTxn x.k) (txnB bytesV (txT (x.s,x.q) L.rt L.wt)) ++ (onB (uId x.k) (idBytes (x.i,x.j)) ++ (onB (uGrp x.k) (putB x.g.toNat 1) ++ (onB (uStp x.k) (putB x.st 8) ++ (onB (uYes x.k) (putB (yesN x.y) 1) ++ (onB (uNum x.k) (putB x.nu.toNat 4) ++ (onB (uKey x.k) (textB x.key.data.toList) ++ (onB (uVal x.k) (putB x.ver 8) ++ (onB (uVal x.k) (bytesV ⟨x.vk,x.vb,x.vt.data.toList⟩) ++ (onB (uVal x.k) (putB x.er.toNat 1) ++ onB (uDat x.k) (dataB L.dl))))))))))))))))
 have u : ∀ f : Int→Bool,f x.k = f 1:=fun f=>by rw [hk]
 rw [u uBal,u uSlot,u uHas,u uCmd,u uTxn,u uId,u uGrp,u uStp,u uYes,u uNum,u uKey,u uVal,u uDat]
 rw [show uBal 1 = true from rfl,show uSlot 1 = false from rfl,show uHas 1 = false from rfl,show uCmd 1 = false from rfl,show uTxn 1 = false from rfl,show uId 1 = false from rfl,show uGrp 1 = false from rfl,show uStp 1 = false from rfl,show uYes 1 = false from rfl,show uNum 1 = false from rfl,show uKey 1 = false from rfl,show uVal 1 = false from rfl,show uDat 1 = false from rfl]
 rw [e2]
 simp only [List.flatMap_cons,List.flatMap_nil,onB,if_true,if_false,Bool.or_false,Bool.false_eq_true,List.append_nil]
 rfl
theorem bytes_2 (hk : x.k = 2) (hf : FormMg (mgT x L)) : putB x.k.toNat 1 ++ putFs x L (lets (letters x.k)) = mgB (mgT x L):=by
 have e1 : lets (letters x.k) = [98,115,104]:=by rw [hk];rfl
 rw [e1]
 unfold mgB putFs
 show _ = putB x.k.toNat 1 ++ (onB (uBal x.k) (balBytes (((x.br : Nat) : Int),x.bn)) ++ (onB (uSlot x.k) (putB x.sl.toNat 4) ++ (onB (uHas x.k) (putB (yesN x.has) 1) ++ (onB x.has (balBytes (((x.vr : Nat) : Int),x.vn)) ++ (onB (x.has || uCmd x.k) (cmB (cmT x.cm L.rs L.ws)) ++ (onB (uTxn x.k) (txnB bytesV (txT (x.s,x.q) L.rt L.wt)) ++ (onB (uId x.k) (idBytes (x.i,x.j)) ++ (onB (uGrp x.k) (putB x.g.toNat 1) ++ (onB (uStp x.k) (putB x.st 8) ++ (onB (uYes x.k) (putB (yesN x.y) 1) ++ (onB (uNum x.k) (putB x.nu.toNat 4) ++ (onB (uKey x.k) (textB x.key.data.toList) ++ (onB (uVal x.k) (putB x.ver 8) ++ (onB (uVal x.k) (bytesV ⟨x.vk,x.vb,x.vt.data.toList⟩) ++ (onB (uVal x.k) (putB x.er.toNat 1) ++ onB (uDat x.k) (dataB L.dl))))))))))))))))
 have u : ∀ f : Int→Bool,f x.k = f 2:=fun f=>by rw [hk]
 rw [u uBal,u uSlot,u uHas,u uCmd,u uTxn,u uId,u uGrp,u uStp,u uYes,u uNum,u uKey,u uVal,u uDat]
 rw [show uBal 2 = true from rfl,show uSlot 2 = true from rfl,show uHas 2 = true from rfl,show uCmd 2 = false from rfl,show uTxn 2 = false from rfl,show uId 2 = false from rfl,show uGrp 2 = false from rfl,show uStp 2 = false from rfl,show uYes 2 = false from rfl,show uNum 2 = false from rfl,show uKey 2 = false from rfl,show uVal 2 = false from rfl,show uDat 2 = false from rfl]
 simp only [List.flatMap_cons,List.flatMap_nil,onB,if_true,if_false,Bool.or_false,Bool.false_eq_true,List.append_nil]
 show putB x.k.toNat 1 ++ (balBytes _ ++ (putB _ 4 ++ voteBytes x L)) = _
 unfold voteBytes
 cases x.has
 ·simp only [if_false,Bool.false_eq_true,List.append_nil]
 ·simp only [if_true]
theorem bytes_3 (hk : x.k = 3) (hf : FormMg (mgT x L)) : putB x.k.toNat 1 ++ putFs x L (lets (letters x.k)) = mgB (mgT x L):=by
 have e1 : lets (letters x.k) = [98]:=by rw [hk];rfl
 have e2 : x.has = false:=hf.has0 (show uHas (mgT x L).k = false by rw [show (mgT x L).k = 3 from hk];rfl)
 rw [e1]
 unfold mgB putFs
 show _ = putB x.k.toNat 1 ++ (onB (uBal x.k) (balBytes (((x.br : Nat) : Int),x.bn)) ++ (onB (uSlot x.k) (putB x.sl.toNat 4) ++ (onB (uHas x.k) (putB (yesN x.has) 1) ++ (onB x.has (balBytes (((x.vr : Nat) : Int),x.vn)) ++ (onB (x.has || uCmd x.k) (cmB (cmT x.cm L.rs L.ws)) ++ (onB (uTxn x.k) (txnB bytesV (txT (x.s,x.q) L.rt L.wt)) ++ (onB (uId x.k) (idBytes (x.i,x.j)) ++ (onB (uGrp x.k) (putB x.g.toNat 1) ++ (onB (uStp x.k) (putB x.st 8) ++ (onB (uYes x.k) (putB (yesN x.y) 1) ++ (onB (uNum x.k) (putB x.nu.toNat 4) ++ (onB (uKey x.k) (textB x.key.data.toList) ++ (onB (uVal x.k) (putB x.ver 8) ++ (onB (uVal x.k) (bytesV ⟨x.vk,x.vb,x.vt.data.toList⟩) ++ (onB (uVal x.k) (putB x.er.toNat 1) ++ onB (uDat x.k) (dataB L.dl))))))))))))))))
 have u : ∀ f : Int→Bool,f x.k = f 3:=fun f=>by rw [hk]
 rw [u uBal,u uSlot,u uHas,u uCmd,u uTxn,u uId,u uGrp,u uStp,u uYes,u uNum,u uKey,u uVal,u uDat]
 rw [show uBal 3 = true from rfl,show uSlot 3 = false from rfl,show uHas 3 = false from rfl,show uCmd 3 = false from rfl,show uTxn 3 = false from rfl,show uId 3 = false from rfl,show uGrp 3 = false from rfl,show uStp 3 = false from rfl,show uYes 3 = false from rfl,show uNum 3 = false from rfl,show uKey 3 = false from rfl,show uVal 3 = false from rfl,show uDat 3 = false from rfl]
 rw [e2]
 simp only [List.flatMap_cons,List.flatMap_nil,onB,if_true,if_false,Bool.or_false,Bool.false_eq_true,List.append_nil]
 rfl
theorem bytes_4 (hk : x.k = 4) (hf : FormMg (mgT x L)) : putB x.k.toNat 1 ++ putFs x L (lets (letters x.k)) = mgB (mgT x L):=by
 have e1 : lets (letters x.k) = [98,115,99]:=by rw [hk];rfl
 have e2 : x.has = false:=hf.has0 (show uHas (mgT x L).k = false by rw [show (mgT x L).k = 4 from hk];rfl)
 rw [e1]
 unfold mgB putFs
 show _ = putB x.k.toNat 1 ++ (onB (uBal x.k) (balBytes (((x.br : Nat) : Int),x.bn)) ++ (onB (uSlot x.k) (putB x.sl.toNat 4) ++ (onB (uHas x.k) (putB (yesN x.has) 1) ++ (onB x.has (balBytes (((x.vr : Nat) : Int),x.vn)) ++ (onB (x.has || uCmd x.k) (cmB (cmT x.cm L.rs L.ws)) ++ (onB (uTxn x.k) (txnB bytesV (txT (x.s,x.q) L.rt L.wt)) ++ (onB (uId x.k) (idBytes (x.i,x.j)) ++ (onB (uGrp x.k) (putB x.g.toNat 1) ++ (onB (uStp x.k) (putB x.st 8) ++ (onB (uYes x.k) (putB (yesN x.y) 1) ++ (onB (uNum x.k) (putB x.nu.toNat 4) ++ (onB (uKey x.k) (textB x.key.data.toList) ++ (onB (uVal x.k) (putB x.ver 8) ++ (onB (uVal x.k) (bytesV ⟨x.vk,x.vb,x.vt.data.toList⟩) ++ (onB (uVal x.k) (putB x.er.toNat 1) ++ onB (uDat x.k) (dataB L.dl))))))))))))))))
 have u : ∀ f : Int→Bool,f x.k = f 4:=fun f=>by rw [hk]
 rw [u uBal,u uSlot,u uHas,u uCmd,u uTxn,u uId,u uGrp,u uStp,u uYes,u uNum,u uKey,u uVal,u uDat]
 rw [show uBal 4 = true from rfl,show uSlot 4 = true from rfl,show uHas 4 = false from rfl,show uCmd 4 = true from rfl,show uTxn 4 = false from rfl,show uId 4 = false from rfl,show uGrp 4 = false from rfl,show uStp 4 = false from rfl,show uYes 4 = false from rfl,show uNum 4 = false from rfl,show uKey 4 = false from rfl,show uVal 4 = false from rfl,show uDat 4 = false from rfl]
 rw [e2]
 simp only [List.flatMap_cons,List.flatMap_nil,onB,if_true,if_false,Bool.or_true,Bool.false_eq_true,List.append_nil,List.nil_append]
 rfl
theorem bytes_5 (hk : x.k = 5) (hf : FormMg (mgT x L)) : putB x.k.toNat 1 ++ putFs x L (lets (letters x.k)) = mgB (mgT x L):=by
 have e1 : lets (letters x.k) = [98,115]:=by rw [hk];rfl
 have e2 : x.has = false:=hf.has0 (show uHas (mgT x L).k = false by rw [show (mgT x L).k = 5 from hk];rfl)
 rw [e1]
 unfold mgB putFs
 show _ = putB x.k.toNat 1 ++ (onB (uBal x.k) (balBytes (((x.br : Nat) : Int),x.bn)) ++ (onB (uSlot x.k) (putB x.sl.toNat 4) ++ (onB (uHas x.k) (putB (yesN x.has) 1) ++ (onB x.has (balBytes (((x.vr : Nat) : Int),x.vn)) ++ (onB (x.has || uCmd x.k) (cmB (cmT x.cm L.rs L.ws)) ++ (onB (uTxn x.k) (txnB bytesV (txT (x.s,x.q) L.rt L.wt)) ++ (onB (uId x.k) (idBytes (x.i,x.j)) ++ (onB (uGrp x.k) (putB x.g.toNat 1) ++ (onB (uStp x.k) (putB x.st 8) ++ (onB (uYes x.k) (putB (yesN x.y) 1) ++ (onB (uNum x.k) (putB x.nu.toNat 4) ++ (onB (uKey x.k) (textB x.key.data.toList) ++ (onB (uVal x.k) (putB x.ver 8) ++ (onB (uVal x.k) (bytesV ⟨x.vk,x.vb,x.vt.data.toList⟩) ++ (onB (uVal x.k) (putB x.er.toNat 1) ++ onB (uDat x.k) (dataB L.dl))))))))))))))))
 have u : ∀ f : Int→Bool,f x.k = f 5:=fun f=>by rw [hk]
 rw [u uBal,u uSlot,u uHas,u uCmd,u uTxn,u uId,u uGrp,u uStp,u uYes,u uNum,u uKey,u uVal,u uDat]
 rw [show uBal 5 = true from rfl,show uSlot 5 = true from rfl,show uHas 5 = false from rfl,show uCmd 5 = false from rfl,show uTxn 5 = false from rfl,show uId 5 = false from rfl,show uGrp 5 = false from rfl,show uStp 5 = false from rfl,show uYes 5 = false from rfl,show uNum 5 = false from rfl,show uKey 5 = false from rfl,show uVal 5 = false from rfl,show uDat 5 = false from rfl]
 rw [e2]
 simp only [List.flatMap_cons,List.flatMap_nil,onB,if_true,if_false,Bool.or_false,Bool.false_eq_true,List.append_nil]
 rfl
theorem bytes_6 (hk : x.k = 6) (hf : FormMg (mgT x L)) : putB x.k.toNat 1 ++ putFs x L (lets (letters x.k)) = mgB (mgT x L):=by
 have e1 : lets (letters x.k) = [115,99]:=by rw [hk];rfl
 have e2 : x.has = false:=hf.has0 (show uHas (mgT x L).k = false by rw [show (mgT x L).k = 6 from hk];rfl)
 rw [e1]
 unfold mgB putFs
 show _ = putB x.k.toNat 1 ++ (onB (uBal x.k) (balBytes (((x.br : Nat) : Int),x.bn)) ++ (onB (uSlot x.k) (putB x.sl.toNat 4) ++ (onB (uHas x.k) (putB (yesN x.has) 1) ++ (onB x.has (balBytes (((x.vr : Nat) : Int),x.vn)) ++ (onB (x.has || uCmd x.k) (cmB (cmT x.cm L.rs L.ws)) ++ (onB (uTxn x.k) (txnB bytesV (txT (x.s,x.q) L.rt L.wt)) ++ (onB (uId x.k) (idBytes (x.i,x.j)) ++ (onB (uGrp x.k) (putB x.g.toNat 1) ++ (onB (uStp x.k) (putB x.st 8) ++ (onB (uYes x.k) (putB (yesN x.y) 1) ++ (onB (uNum x.k) (putB x.nu.toNat 4) ++ (onB (uKey x.k) (textB x.key.data.toList) ++ (onB (uVal x.k) (putB x.ver 8) ++ (onB (uVal x.k) (bytesV ⟨x.vk,x.vb,x.vt.data.toList⟩) ++ (onB (uVal x.k) (putB x.er.toNat 1) ++ onB (uDat x.k) (dataB L.dl))))))))))))))))
 have u : ∀ f : Int→Bool,f x.k = f 6:=fun f=>by rw [hk]
 rw [u uBal,u uSlot,u uHas,u uCmd,u uTxn,u uId,u uGrp,u uStp,u uYes,u uNum,u uKey,u uVal,u uDat]
 rw [show uBal 6 = false from rfl,show uSlot 6 = true from rfl,show uHas 6 = false from rfl,show uCmd 6 = true from rfl,show uTxn 6 = false from rfl,show uId 6 = false from rfl,show uGrp 6 = false from rfl,show uStp 6 = false from rfl,show uYes 6 = false from rfl,show uNum 6 = false from rfl,show uKey 6 = false from rfl,show uVal 6 = false from rfl,show uDat 6 = false from rfl]
 rw [e2]
 simp only [List.flatMap_cons,List.flatMap_nil,onB,if_true,if_false,Bool.or_true,Bool.false_eq_true,List.append_nil,List.nil_append]
 rfl
theorem bytes_7 (hk : x.k = 7) (hf : FormMg (mgT x L)) : putB x.k.toNat 1 ++ putFs x L (lets (letters x.k)) = mgB (mgT x L):=by
 have e1 : lets (letters x.k) = [115]:=by rw [hk];rfl
 have e2 : x.has = false:=hf.has0 (show uHas (mgT x L).k = false by rw [show (mgT x L).k = 7 from hk];rfl)
 rw [e1]
 unfold mgB putFs
 show _ = putB x.k.toNat 1 ++ (onB (uBal x.k) (balBytes (((x.br : Nat) : Int),x.bn)) ++ (onB (uSlot x.k) (putB x.sl.toNat 4) ++ (onB (uHas x.k) (putB (yesN x.has) 1) ++ (onB x.has (balBytes (((x.vr : Nat) : Int),x.vn)) ++ (onB (x.has || uCmd x.k) (cmB (cmT x.cm L.rs L.ws)) ++ (onB (uTxn x.k) (txnB bytesV (txT (x.s,x.q) L.rt L.wt)) ++ (onB (uId x.k) (idBytes (x.i,x.j)) ++ (onB (uGrp x.k) (putB x.g.toNat 1) ++ (onB (uStp x.k) (putB x.st 8) ++ (onB (uYes x.k) (putB (yesN x.y) 1) ++ (onB (uNum x.k) (putB x.nu.toNat 4) ++ (onB (uKey x.k) (textB x.key.data.toList) ++ (onB (uVal x.k) (putB x.ver 8) ++ (onB (uVal x.k) (bytesV ⟨x.vk,x.vb,x.vt.data.toList⟩) ++ (onB (uVal x.k) (putB x.er.toNat 1) ++ onB (uDat x.k) (dataB L.dl))))))))))))))))
 have u : ∀ f : Int→Bool,f x.k = f 7:=fun f=>by rw [hk]
 rw [u uBal,u uSlot,u uHas,u uCmd,u uTxn,u uId,u uGrp,u uStp,u uYes,u uNum,u uKey,u uVal,u uDat]
 rw [show uBal 7 = false from rfl,show uSlot 7 = true from rfl,show uHas 7 = false from rfl,show uCmd 7 = false from rfl,show uTxn 7 = false from rfl,show uId 7 = false from rfl,show uGrp 7 = false from rfl,show uStp 7 = false from rfl,show uYes 7 = false from rfl,show uNum 7 = false from rfl,show uKey 7 = false from rfl,show uVal 7 = false from rfl,show uDat 7 = false from rfl]
 rw [e2]
 simp only [List.flatMap_cons,List.flatMap_nil,onB,if_true,if_false,Bool.or_false,Bool.false_eq_true,List.append_nil,List.nil_append]
 rfl
theorem bytes_8 (hk : x.k = 8) (hf : FormMg (mgT x L)) : putB x.k.toNat 1 ++ putFs x L (lets (letters x.k)) = mgB (mgT x L):=by
 have e1 : lets (letters x.k) = [116]:=by rw [hk];rfl
 have e2 : x.has = false:=hf.has0 (show uHas (mgT x L).k = false by rw [show (mgT x L).k = 8 from hk];rfl)
 rw [e1]
 unfold mgB putFs
 show _ = putB x.k.toNat 1 ++ (onB (uBal x.k) (balBytes (((x.br : Nat) : Int),x.bn)) ++ (onB (uSlot x.k) (putB x.sl.toNat 4) ++ (onB (uHas x.k) (putB (yesN x.has) 1) ++ (onB x.has (balBytes (((x.vr : Nat) : Int),x.vn)) ++ (onB (x.has || uCmd x.k) (cmB (cmT x.cm L.rs L.ws)) ++ (onB (uTxn x.k) (txnB bytesV (txT (x.s,x.q) L.rt L.wt)) ++ (onB (uId x.k) (idBytes (x.i,x.j)) ++ (onB (uGrp x.k) (putB x.g.toNat 1) ++ (onB (uStp x.k) (putB x.st 8) ++ (onB (uYes x.k) (putB (yesN x.y) 1) ++ (onB (uNum x.k) (putB x.nu.toNat 4) ++ (onB (uKey x.k) (textB x.key.data.toList) ++ (onB (uVal x.k) (putB x.ver 8) ++ (onB (uVal x.k) (bytesV ⟨x.vk,x.vb,x.vt.data.toList⟩) ++ (onB (uVal x.k) (putB x.er.toNat 1) ++ onB (uDat x.k) (dataB L.dl))))))))))))))))
 have u : ∀ f : Int→Bool,f x.k = f 8:=fun f=>by rw [hk]
 rw [u uBal,u uSlot,u uHas,u uCmd,u uTxn,u uId,u uGrp,u uStp,u uYes,u uNum,u uKey,u uVal,u uDat]
 rw [show uBal 8 = false from rfl,show uSlot 8 = false from rfl,show uHas 8 = false from rfl,show uCmd 8 = false from rfl,show uTxn 8 = true from rfl,show uId 8 = false from rfl,show uGrp 8 = false from rfl,show uStp 8 = false from rfl,show uYes 8 = false from rfl,show uNum 8 = false from rfl,show uKey 8 = false from rfl,show uVal 8 = false from rfl,show uDat 8 = false from rfl]
 rw [e2]
 simp only [List.flatMap_cons,List.flatMap_nil,onB,if_true,if_false,Bool.or_false,Bool.false_eq_true,List.append_nil,List.nil_append]
 rfl
theorem bytes_9 (hk : x.k = 9) (hf : FormMg (mgT x L)) : putB x.k.toNat 1 ++ putFs x L (lets (letters x.k)) = mgB (mgT x L):=by
 have e1 : lets (letters x.k) = [105,103,112]:=by rw [hk];rfl
 have e2 : x.has = false:=hf.has0 (show uHas (mgT x L).k = false by rw [show (mgT x L).k = 9 from hk];rfl)
 rw [e1]
 unfold mgB putFs
 show _ = putB x.k.toNat 1 ++ (onB (uBal x.k) (balBytes (((x.br : Nat) : Int),x.bn)) ++ (onB (uSlot x.k) (putB x.sl.toNat 4) ++ (onB (uHas x.k) (putB (yesN x.has) 1) ++ (onB x.has (balBytes (((x.vr : Nat) : Int),x.vn)) ++ (onB (x.has || uCmd x.k) (cmB (cmT x.cm L.rs L.ws)) ++ (onB (uTxn x.k) (txnB bytesV (txT (x.s,x.q) L.rt L.wt)) ++ (onB (uId x.k) (idBytes (x.i,x.j)) ++ (onB (uGrp x.k) (putB x.g.toNat 1) ++ (onB (uStp x.k) (putB x.st 8) ++ (onB (uYes x.k) (putB (yesN x.y) 1) ++ (onB (uNum x.k) (putB x.nu.toNat 4) ++ (onB (uKey x.k) (textB x.key.data.toList) ++ (onB (uVal x.k) (putB x.ver 8) ++ (onB (uVal x.k) (bytesV ⟨x.vk,x.vb,x.vt.data.toList⟩) ++ (onB (uVal x.k) (putB x.er.toNat 1) ++ onB (uDat x.k) (dataB L.dl))))))))))))))))
 have u : ∀ f : Int→Bool,f x.k = f 9:=fun f=>by rw [hk]
 rw [u uBal,u uSlot,u uHas,u uCmd,u uTxn,u uId,u uGrp,u uStp,u uYes,u uNum,u uKey,u uVal,u uDat]
 rw [show uBal 9 = false from rfl,show uSlot 9 = false from rfl,show uHas 9 = false from rfl,show uCmd 9 = false from rfl,show uTxn 9 = false from rfl,show uId 9 = true from rfl,show uGrp 9 = true from rfl,show uStp 9 = true from rfl,show uYes 9 = false from rfl,show uNum 9 = false from rfl,show uKey 9 = false from rfl,show uVal 9 = false from rfl,show uDat 9 = false from rfl]
 rw [e2]
 simp only [List.flatMap_cons,List.flatMap_nil,onB,if_true,if_false,Bool.or_false,Bool.false_eq_true,List.append_nil,List.nil_append]
 rfl
theorem bytes_10 (hk : x.k = 10) (hf : FormMg (mgT x L)) : putB x.k.toNat 1 ++ putFs x L (lets (letters x.k)) = mgB (mgT x L):=by
 have e1 : lets (letters x.k) = [105,103,121]:=by rw [hk];rfl
 have e2 : x.has = false:=hf.has0 (show uHas (mgT x L).k = false by rw [show (mgT x L).k = 10 from hk];rfl)
 rw [e1]
 unfold mgB putFs
 show _ = putB x.k.toNat 1 ++ (onB (uBal x.k) (balBytes (((x.br : Nat) : Int),x.bn)) ++ (onB (uSlot x.k) (putB x.sl.toNat 4) ++ (onB (uHas x.k) (putB (yesN x.has) 1) ++ (onB x.has (balBytes (((x.vr : Nat) : Int),x.vn)) ++ (onB (x.has || uCmd x.k) (cmB (cmT x.cm L.rs L.ws)) ++ (onB (uTxn x.k) (txnB bytesV (txT (x.s,x.q) L.rt L.wt)) ++ (onB (uId x.k) (idBytes (x.i,x.j)) ++ (onB (uGrp x.k) (putB x.g.toNat 1) ++ (onB (uStp x.k) (putB x.st 8) ++ (onB (uYes x.k) (putB (yesN x.y) 1) ++ (onB (uNum x.k) (putB x.nu.toNat 4) ++ (onB (uKey x.k) (textB x.key.data.toList) ++ (onB (uVal x.k) (putB x.ver 8) ++ (onB (uVal x.k) (bytesV ⟨x.vk,x.vb,x.vt.data.toList⟩) ++ (onB (uVal x.k) (putB x.er.toNat 1) ++ onB (uDat x.k) (dataB L.dl))))))))))))))))
 have u : ∀ f : Int→Bool,f x.k = f 10:=fun f=>by rw [hk]
 rw [u uBal,u uSlot,u uHas,u uCmd,u uTxn,u uId,u uGrp,u uStp,u uYes,u uNum,u uKey,u uVal,u uDat]
 rw [show uBal 10 = false from rfl,show uSlot 10 = false from rfl,show uHas 10 = false from rfl,show uCmd 10 = false from rfl,show uTxn 10 = false from rfl,show uId 10 = true from rfl,show uGrp 10 = true from rfl,show uStp 10 = false from rfl,show uYes 10 = true from rfl,show uNum 10 = false from rfl,show uKey 10 = false from rfl,show uVal 10 = false from rfl,show uDat 10 = false from rfl]
 rw [e2]
 simp only [List.flatMap_cons,List.flatMap_nil,onB,if_true,if_false,Bool.or_false,Bool.false_eq_true,List.append_nil,List.nil_append]
 rfl
theorem bytes_11 (hk : x.k = 11) (hf : FormMg (mgT x L)) : putB x.k.toNat 1 ++ putFs x L (lets (letters x.k)) = mgB (mgT x L):=by
 have e1 : lets (letters x.k) = [105,103,112,121]:=by rw [hk];rfl
 have e2 : x.has = false:=hf.has0 (show uHas (mgT x L).k = false by rw [show (mgT x L).k = 11 from hk];rfl)
 rw [e1]
 unfold mgB putFs
 show _ = putB x.k.toNat 1 ++ (onB (uBal x.k) (balBytes (((x.br : Nat) : Int),x.bn)) ++ (onB (uSlot x.k) (putB x.sl.toNat 4) ++ (onB (uHas x.k) (putB (yesN x.has) 1) ++ (onB x.has (balBytes (((x.vr : Nat) : Int),x.vn)) ++ (onB (x.has || uCmd x.k) (cmB (cmT x.cm L.rs L.ws)) ++ (onB (uTxn x.k) (txnB bytesV (txT (x.s,x.q) L.rt L.wt)) ++ (onB (uId x.k) (idBytes (x.i,x.j)) ++ (onB (uGrp x.k) (putB x.g.toNat 1) ++ (onB (uStp x.k) (putB x.st 8) ++ (onB (uYes x.k) (putB (yesN x.y) 1) ++ (onB (uNum x.k) (putB x.nu.toNat 4) ++ (onB (uKey x.k) (textB x.key.data.toList) ++ (onB (uVal x.k) (putB x.ver 8) ++ (onB (uVal x.k) (bytesV ⟨x.vk,x.vb,x.vt.data.toList⟩) ++ (onB (uVal x.k) (putB x.er.toNat 1) ++ onB (uDat x.k) (dataB L.dl))))))))))))))))
 have u : ∀ f : Int→Bool,f x.k = f 11:=fun f=>by rw [hk]
 rw [u uBal,u uSlot,u uHas,u uCmd,u uTxn,u uId,u uGrp,u uStp,u uYes,u uNum,u uKey,u uVal,u uDat]
 rw [show uBal 11 = false from rfl,show uSlot 11 = false from rfl,show uHas 11 = false from rfl,show uCmd 11 = false from rfl,show uTxn 11 = false from rfl,show uId 11 = true from rfl,show uGrp 11 = true from rfl,show uStp 11 = true from rfl,show uYes 11 = true from rfl,show uNum 11 = false from rfl,show uKey 11 = false from rfl,show uVal 11 = false from rfl,show uDat 11 = false from rfl]
 rw [e2]
 simp only [List.flatMap_cons,List.flatMap_nil,onB,if_true,if_false,Bool.or_false,Bool.false_eq_true,List.append_nil,List.nil_append]
 rfl
theorem bytes_12 (hk : x.k = 12) (hf : FormMg (mgT x L)) : putB x.k.toNat 1 ++ putFs x L (lets (letters x.k)) = mgB (mgT x L):=by
 have e1 : lets (letters x.k) = [112,110,107]:=by rw [hk];rfl
 have e2 : x.has = false:=hf.has0 (show uHas (mgT x L).k = false by rw [show (mgT x L).k = 12 from hk];rfl)
 rw [e1]
 unfold mgB putFs
 show _ = putB x.k.toNat 1 ++ (onB (uBal x.k) (balBytes (((x.br : Nat) : Int),x.bn)) ++ (onB (uSlot x.k) (putB x.sl.toNat 4) ++ (onB (uHas x.k) (putB (yesN x.has) 1) ++ (onB x.has (balBytes (((x.vr : Nat) : Int),x.vn)) ++ (onB (x.has || uCmd x.k) (cmB (cmT x.cm L.rs L.ws)) ++ (onB (uTxn x.k) (txnB bytesV (txT (x.s,x.q) L.rt L.wt)) ++ (onB (uId x.k) (idBytes (x.i,x.j)) ++ (onB (uGrp x.k) (putB x.g.toNat 1) ++ (onB (uStp x.k) (putB x.st 8) ++ (onB (uYes x.k) (putB (yesN x.y) 1) ++ (onB (uNum x.k) (putB x.nu.toNat 4) ++ (onB (uKey x.k) (textB x.key.data.toList) ++ (onB (uVal x.k) (putB x.ver 8) ++ (onB (uVal x.k) (bytesV ⟨x.vk,x.vb,x.vt.data.toList⟩) ++ (onB (uVal x.k) (putB x.er.toNat 1) ++ onB (uDat x.k) (dataB L.dl))))))))))))))))
 have u : ∀ f : Int→Bool,f x.k = f 12:=fun f=>by rw [hk]
 rw [u uBal,u uSlot,u uHas,u uCmd,u uTxn,u uId,u uGrp,u uStp,u uYes,u uNum,u uKey,u uVal,u uDat]
 rw [show uBal 12 = false from rfl,show uSlot 12 = false from rfl,show uHas 12 = false from rfl,show uCmd 12 = false from rfl,show uTxn 12 = false from rfl,show uId 12 = false from rfl,show uGrp 12 = false from rfl,show uStp 12 = true from rfl,show uYes 12 = false from rfl,show uNum 12 = true from rfl,show uKey 12 = true from rfl,show uVal 12 = false from rfl,show uDat 12 = false from rfl]
 rw [e2]
 simp only [List.flatMap_cons,List.flatMap_nil,onB,if_true,if_false,Bool.or_false,Bool.false_eq_true,List.append_nil,List.nil_append]
 rfl
theorem bytes_13 (hk : x.k = 13) (hf : FormMg (mgT x L)) : putB x.k.toNat 1 ++ putFs x L (lets (letters x.k)) = mgB (mgT x L):=by
 have e1 : lets (letters x.k) = [103,112,110,107,118,120,101]:=by rw [hk];rfl
 have e2 : x.has = false:=hf.has0 (show uHas (mgT x L).k = false by rw [show (mgT x L).k = 13 from hk];rfl)
 rw [e1]
 unfold mgB putFs
 show _ = putB x.k.toNat 1 ++ (onB (uBal x.k) (balBytes (((x.br : Nat) : Int),x.bn)) ++ (onB (uSlot x.k) (putB x.sl.toNat 4) ++ (onB (uHas x.k) (putB (yesN x.has) 1) ++ (onB x.has (balBytes (((x.vr : Nat) : Int),x.vn)) ++ (onB (x.has || uCmd x.k) (cmB (cmT x.cm L.rs L.ws)) ++ (onB (uTxn x.k) (txnB bytesV (txT (x.s,x.q) L.rt L.wt)) ++ (onB (uId x.k) (idBytes (x.i,x.j)) ++ (onB (uGrp x.k) (putB x.g.toNat 1) ++ (onB (uStp x.k) (putB x.st 8) ++ (onB (uYes x.k) (putB (yesN x.y) 1) ++ (onB (uNum x.k) (putB x.nu.toNat 4) ++ (onB (uKey x.k) (textB x.key.data.toList) ++ (onB (uVal x.k) (putB x.ver 8) ++ (onB (uVal x.k) (bytesV ⟨x.vk,x.vb,x.vt.data.toList⟩) ++ (onB (uVal x.k) (putB x.er.toNat 1) ++ onB (uDat x.k) (dataB L.dl))))))))))))))))
 have u : ∀ f : Int→Bool,f x.k = f 13:=fun f=>by rw [hk]
 rw [u uBal,u uSlot,u uHas,u uCmd,u uTxn,u uId,u uGrp,u uStp,u uYes,u uNum,u uKey,u uVal,u uDat]
 rw [show uBal 13 = false from rfl,show uSlot 13 = false from rfl,show uHas 13 = false from rfl,show uCmd 13 = false from rfl,show uTxn 13 = false from rfl,show uId 13 = false from rfl,show uGrp 13 = true from rfl,show uStp 13 = true from rfl,show uYes 13 = false from rfl,show uNum 13 = true from rfl,show uKey 13 = true from rfl,show uVal 13 = true from rfl,show uDat 13 = false from rfl]
 rw [e2]
 simp only [List.flatMap_cons,List.flatMap_nil,onB,if_true,if_false,Bool.or_false,Bool.false_eq_true,List.append_nil,List.nil_append]
 rfl
theorem bytes_14 (hk : x.k = 14) (hf : FormMg (mgT x L)) : putB x.k.toNat 1 ++ putFs x L (lets (letters x.k)) = mgB (mgT x L):=by
 have e1 : lets (letters x.k) = [110]:=by rw [hk];rfl
 have e2 : x.has = false:=hf.has0 (show uHas (mgT x L).k = false by rw [show (mgT x L).k = 14 from hk];rfl)
 rw [e1]
 unfold mgB putFs
 show _ = putB x.k.toNat 1 ++ (onB (uBal x.k) (balBytes (((x.br : Nat) : Int),x.bn)) ++ (onB (uSlot x.k) (putB x.sl.toNat 4) ++ (onB (uHas x.k) (putB (yesN x.has) 1) ++ (onB x.has (balBytes (((x.vr : Nat) : Int),x.vn)) ++ (onB (x.has || uCmd x.k) (cmB (cmT x.cm L.rs L.ws)) ++ (onB (uTxn x.k) (txnB bytesV (txT (x.s,x.q) L.rt L.wt)) ++ (onB (uId x.k) (idBytes (x.i,x.j)) ++ (onB (uGrp x.k) (putB x.g.toNat 1) ++ (onB (uStp x.k) (putB x.st 8) ++ (onB (uYes x.k) (putB (yesN x.y) 1) ++ (onB (uNum x.k) (putB x.nu.toNat 4) ++ (onB (uKey x.k) (textB x.key.data.toList) ++ (onB (uVal x.k) (putB x.ver 8) ++ (onB (uVal x.k) (bytesV ⟨x.vk,x.vb,x.vt.data.toList⟩) ++ (onB (uVal x.k) (putB x.er.toNat 1) ++ onB (uDat x.k) (dataB L.dl))))))))))))))))
 have u : ∀ f : Int→Bool,f x.k = f 14:=fun f=>by rw [hk]
 rw [u uBal,u uSlot,u uHas,u uCmd,u uTxn,u uId,u uGrp,u uStp,u uYes,u uNum,u uKey,u uVal,u uDat]
 rw [show uBal 14 = false from rfl,show uSlot 14 = false from rfl,show uHas 14 = false from rfl,show uCmd 14 = false from rfl,show uTxn 14 = false from rfl,show uId 14 = false from rfl,show uGrp 14 = false from rfl,show uStp 14 = false from rfl,show uYes 14 = false from rfl,show uNum 14 = true from rfl,show uKey 14 = false from rfl,show uVal 14 = false from rfl,show uDat 14 = false from rfl]
 rw [e2]
 simp only [List.flatMap_cons,List.flatMap_nil,onB,if_true,if_false,Bool.or_false,Bool.false_eq_true,List.append_nil,List.nil_append]
 rfl
theorem bytes_15 (hk : x.k = 15) (hf : FormMg (mgT x L)) : putB x.k.toNat 1 ++ putFs x L (lets (letters x.k)) = mgB (mgT x L):=by
 have e1 : lets (letters x.k) = [115,100]:=by rw [hk];rfl
 have e2 : x.has = false:=hf.has0 (show uHas (mgT x L).k = false by rw [show (mgT x L).k = 15 from hk];rfl)
 rw [e1]
 unfold mgB putFs
 show _ = putB x.k.toNat 1 ++ (onB (uBal x.k) (balBytes (((x.br : Nat) : Int),x.bn)) ++ (onB (uSlot x.k) (putB x.sl.toNat 4) ++ (onB (uHas x.k) (putB (yesN x.has) 1) ++ (onB x.has (balBytes (((x.vr : Nat) : Int),x.vn)) ++ (onB (x.has || uCmd x.k) (cmB (cmT x.cm L.rs L.ws)) ++ (onB (uTxn x.k) (txnB bytesV (txT (x.s,x.q) L.rt L.wt)) ++ (onB (uId x.k) (idBytes (x.i,x.j)) ++ (onB (uGrp x.k) (putB x.g.toNat 1) ++ (onB (uStp x.k) (putB x.st 8) ++ (onB (uYes x.k) (putB (yesN x.y) 1) ++ (onB (uNum x.k) (putB x.nu.toNat 4) ++ (onB (uKey x.k) (textB x.key.data.toList) ++ (onB (uVal x.k) (putB x.ver 8) ++ (onB (uVal x.k) (bytesV ⟨x.vk,x.vb,x.vt.data.toList⟩) ++ (onB (uVal x.k) (putB x.er.toNat 1) ++ onB (uDat x.k) (dataB L.dl))))))))))))))))
 have u : ∀ f : Int→Bool,f x.k = f 15:=fun f=>by rw [hk]
 rw [u uBal,u uSlot,u uHas,u uCmd,u uTxn,u uId,u uGrp,u uStp,u uYes,u uNum,u uKey,u uVal,u uDat]
 rw [show uBal 15 = false from rfl,show uSlot 15 = true from rfl,show uHas 15 = false from rfl,show uCmd 15 = false from rfl,show uTxn 15 = false from rfl,show uId 15 = false from rfl,show uGrp 15 = false from rfl,show uStp 15 = false from rfl,show uYes 15 = false from rfl,show uNum 15 = false from rfl,show uKey 15 = false from rfl,show uVal 15 = false from rfl,show uDat 15 = true from rfl]
 rw [e2]
 simp only [List.flatMap_cons,List.flatMap_nil,onB,if_true,if_false,Bool.or_false,Bool.false_eq_true,List.append_nil,List.nil_append]
 rfl
end
end Go.Proofs.YtigimmbdlhginaaGreatDoor
