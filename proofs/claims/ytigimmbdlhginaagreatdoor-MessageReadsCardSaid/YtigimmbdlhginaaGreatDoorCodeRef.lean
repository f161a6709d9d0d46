/- Contracts of the document's own Same, Put and PutText. Conditions: what they are handed lies in memory; the numbers are small. -/
import Derived.Test.YtigimmbdlhginaaGreatDoorGQ
import Derived.Deep.QuietTactic
import Derived.BigQuiet
namespace Go.Proofs.YtigimmbdlhginaaGreatDoor
set_option maxHeartbeats 1000000
open Go.RowKit
set_option linter.unusedVariables false
/-- b is answered, and nothing but the draws has gone on. -/
def Reads1 (w : World) (v : Value) (e : Ending) (w' : World) : Prop:=e = .returned v∧∃ k,w' = w.drewN k
set_option maxRecDepth 100000 in
theorem refPut_any (a : Option Addr) (m c x : Nat) (n : Int) (l : List UInt8) (w : World) (hl : BAt w w.heap.size a m l) (hlen : m≤1099511627776) (hx : x < 18446744073709551616) (hn1 : -1000≤n) (hn2 : n≤1000) :
  Calls Tryz.prog 49 #[.slice a m c,.int .u64 x,.int .i64 n] w (NewB w (l ++ putB x (held n))):=by
 obtain ⟨i0,hi,hz0,hz1,hz2⟩:=info_parts Tryz.info5
 have hml:=hl.len
 have hk8:=held_le n
 obtain ⟨k,hk⟩ : ∃ k,k = held n:=⟨_,rfl⟩
 have hkn : (k : Int) = min (max n 0) 8:=by rw [hk];unfold held;omega
 rw [← hk] at hk8 ⊢
 clear hk
 go_enter Tryz.func49,Tryz.ntmps49
 go_wp2_with (at_builtin;(refine wpList_append_bytes _ rfl _ _ 22 rfl w.heap.size 5 i0 Tryz.underlying22 hi hz0 hz1 hz2 _ 0 [] rfl (World.ownsRow_nil _ _ _ _) w.heap.size a m l c rfl hl (by omega) (Nat.le_refl _) ?_;intro v' w1 hown hg;have hin : PutIn w w1 v' (0 + m) ([] ++ l):=⟨hown,(Below.refl _ _).grown hg (Nat.le_refl _) (by intro j hj;cases hj)⟩;clear hown hg))
 go_loopw [7,8] (fun v i wr => ∃ (j : Nat) (d : List UInt8) (q : Nat),j≤8∧i = .int .i64 j∧d ++ putB x (min k (8 - j)) = putB x k∧PutIn w wr v q (l ++ d)) (fun _ i _=>8 - (intOf i).toNat)
 case atStart=>exact ⟨0,[],_,by omega,rfl,by rw [Nat.min_eq_left (by omega)];rfl,hin.cast (by simp)⟩
 case round =>
  obtain ⟨j,d,q,hj,rfl,hd,hM⟩:=hrel
  clear hin
  by_cases h8 : j < 8
  ·have hdl : q≤1099511627800:=by have h1:=congrArg List.length hd;have h2:=hM.len;simp [putB_len] at h1 h2;omega
   by_cases hge : 8 - n≤(j : Int)
   ·have e1 : min k (8 - j) = (7 - j) + 1:=by omega
    rw [e1] at hd
    have HD:=Lib.hid hd;clear hd hml e1
    obtain ⟨t,ht⟩ : ∃ t : Nat,t = 7 - j:=⟨_,rfl⟩
    have ht' : (7 : Int) - (j : Int) = (t : Int):=by omega
    have htn : min k (8 - (j + 1)) = t:=by omega
    rw [← ht] at HD
    have hown:=hM.1
    have hsz:=hM.2.size
    clear ht hkn
    have HTN:=Lib.hid htn
    clear htn
    go_upto_region 7 with (fail)
    go_wp2_with (at_builtin;(refine wpList_append_bytes _ rfl _ _ 22 rfl w.heap.size 5 i0 Tryz.underlying22 hi hz0 hz1 hz2 _ q (l ++ d) rfl (hown.alloc _) (wr.heap.size + 1) (some ⟨wr.heap.size,0,none⟩) 1 [UInt8.ofNat (x / 256 ^ t)] 1 rfl (BAt.one _ _ _ _ (byte_eq x t)) (by omega) (by simp;omega) ?_;intro v2 w2 ho2 hg2;have R:=hM.next ho2 hg2;clear ho2 hg2))
    go_roundw
    case rel=>exact ⟨j + 1,d ++ [UInt8.ofNat (x / 256 ^ t)],_,by omega,by go_num,by rw [HTN.out,← HD.out];simp [putB],R.cast (by simp)⟩
    case measure=>simp [intOf];omega
   ·have e1 : min k (8 - j) = k:=by omega
    have e2 : min k (8 - (j + 1)) = k:=by omega
    rw [e1] at hd
    have HD:=Lib.hid hd;have E2:=Lib.hid e2;clear hd hml e1 e2 hkn
    go_wp2
    go_roundw
    case rel=>exact ⟨j + 1,d,_,by omega,by go_num,by rw [E2.out];exact HD.out,hM⟩
    case measure=>simp [intOf];omega
  ·have e1 : min k (8 - j) = 0:=by omega
   rw [e1] at hd
   have HR : PutIn w wr u7 q (l ++ putB x k):=hM.cast (by rw [← hd];simp [putB])
   clear hd hM hml hkn e1
   go_wp2
   go_ret
   exact HR.out
theorem refPutText_any (a : Option Addr) (m c : Nat) (s : ByteArray) (l : List UInt8) (w : World) (hl : BAt w w.heap.size a m l) (hlen : m≤1099511627000) (hs : s.size≤maxLen) :
  Calls Tryz.prog 54 #[.slice a m c,.string s] w (NewB w (l ++ textB s.data.toList)):=by
 obtain ⟨i0,hi,hz0,hz1,hz2⟩:=info_parts Tryz.info5
 unfold maxLen at hs
 by_cases h : s.size≤65535
 ·have hd : decide ((65535 : Int) < (s.size : Int)) = false:=by simp;omega
  go_enter Tryz.func54,Tryz.ntmps54
  go_wp2_with (first | (go_at_call 49;((with_reducible refine (refPut_any _ _ _ _ _ _ _ hl (by omega) (by omega) (by omega) (by omega)).mono ?_);rintro e w1 ⟨a1,n1,c1,rfl,ho,hb⟩)) | (at_builtin;(refine wpList_append_text _ rfl _ _ 22 9 rfl w.heap.size 5 i0 Tryz.underlying22 Tryz.underlying9 hi hz0 hz1 hz2 _ n1 _ rfl ho s rfl (by have:=own_len ho;simp [putB_len,held] at this;have:=hl.len;omega) hb.size ?_;intro v2 w2 ho2 hg2;have R : PutIn w w2 v2 _ _:=PutIn.next0 ⟨ho,hb⟩ ho2 hg2;clear ho2 hg2)))
  go_ret
  refine (R.cast ?_).out
  have ht : s.data.toList.take 65535 = s.data.toList:=List.take_of_length_le (by rw [Array.length_toList];exact h)
  have hz : min s.data.toList.length 65535 = s.size:=by rw [Array.length_toList];show min s.size 65535 = _;omega
  rw [textB,ht,hz,List.append_assoc];rfl
 ·have hd : decide ((65535 : Int) < (s.size : Int)) = true:=by simp;omega
  have ht : s.data.toList.take 65535 = (s.extract 0 65535).data.toList:=by simp
  have hz : min s.data.toList.length 65535 = 65535:=by rw [Array.length_toList];show min s.size 65535 = _;omega
  have hsz : (s.extract 0 65535).size≤65535:=by rw [ByteArray.size_extract];omega
  have hT : textB s.data.toList = putB 65535 2 ++ (s.extract 0 65535).data.toList:=by rw [textB,ht,hz]
  rw [hT]
  clear ht hz hT
  have hp : Calls Tryz.prog 49 #[.slice a m c,.int .u64 65535,.int .i64 2] w (NewB w (l ++ putB 65535 2)):=refPut_any a m c 65535 2 l w hl (by omega) (by omega) (by omega) (by omega)
  go_enter Tryz.func54,Tryz.ntmps54
  go_wp2_with (first | (go_at_call 49;((with_reducible refine hp.mono ?_);rintro e w1 ⟨a1,n1,c1,rfl,ho,hb⟩)) | (at_builtin;(refine wpList_append_text _ rfl _ _ 22 9 rfl w.heap.size 5 i0 Tryz.underlying22 Tryz.underlying9 hi hz0 hz1 hz2 _ n1 _ rfl ho (s.extract 0 65535) rfl (by have:=own_len ho;simp [putB_len] at this;have:=hl.len;omega) hb.size ?_;intro v2 w2 ho2 hg2;have R : PutIn w w2 v2 _ _:=PutIn.next0 ⟨ho,hb⟩ ho2 hg2;clear ho2 hg2)))
  go_ret
  refine (R.cast ?_).out
  rw [List.append_assoc]
end Go.Proofs.YtigimmbdlhginaaGreatDoor
