/- Contract of the program's Put of values. Conditions: what it is handed lies in memory and fits its kinds; utf8's tables hold what they hold. Contracts of txn.PutId, putReads, putWrites, Put and of the document's own. Conditions: what they are handed lies in memory; the tables of utf8 lie there. What ballot.Put and code.Put put, in terms of integers. Conditions: the bytes lie in memory. -/
import Derived.Test.YtcfmifongbapkaaGreatDoorRR
import Derived.Test.YtcfmifongbapkaaGreatDoorRQ
import Derived.Test.YtcfmifongbapkaaGreatDoorTxnRefFormed
import Derived.Test.YtcfmifongbapkaaGreatDoorRI
import Derived.Deep.RegionHeld3
import Derived.Test.YtcfmifongbapkaaGreatDoorRJ
namespace Go.Proofs.YtcfmifongbapkaaGreatDoor
set_option maxRecDepth 100000
set_option maxHeartbeats 2000000
open Go.RowKit
theorem held1 : held 1 = 1:=by decide
theorem put_kind (k : Nat) (c : UInt8) (hk : k < 256) (hc : c = UInt8.ofNat k) (a : Option Addr) (m cp : Nat) (l : List UInt8) (w : World) (hl : BAt w w.heap.size a m l) (hlen : m≤1099511627776) :
  Calls Tryz.prog 34 #[.slice a m cp,.int .u64 (k : Nat),.int .i64 1] w (NewB w (l ++ [c])):=by
 have:=put_any a m cp k 1 l w hl hlen (by omega)
 rw [held1] at this
 rw [hc]
 have e : putB k 1 = [UInt8.ofNat k]:=by simp [putB]
 rw [e] at this
 exact this
/-- What is handed on: the value's box, and all that lay there. -/
def QW (w W : World) (k : Int) (b : Nat) (t : ByteArray) : Prop:=BoxV W w.heap.size k b t∧Below w.heap.size w W∧w.heap.size < W.heap.size
theorem QW.new (w : World) (k : Int) (b : Nat) (t : ByteArray) : QW w (w.alloc (.cells #[.int .i64 k,.int .u64 (b : Nat),.string t] 155)) k b t:=⟨BoxV.new w k b t 155,(Below.refl _ _).alloc (Nat.le_refl _) _,by simp⟩
theorem QW.below {w W W' : World} {k : Int} {b : Nat} {t : ByteArray} (h : QW w W k b t) (hb : Below W.heap.size W W') : QW w W' k b t:=⟨h.1.below hb h.2.2,h.2.1.trans (hb.mono h.2.1.size),Nat.lt_of_lt_of_le h.2.2 hb.size⟩
theorem QW.bel {w W : World} {k : Int} {b : Nat} {t : ByteArray} (h : QW w W k b t) : Below w.heap.size w W:=h.2.1
theorem putsV : PutsV 130:=by
 intro a m c l k b t w hl hm hb ht hT
 have Q0:=Lib.hid (QW.new w k b t)
 have HL : Hid (∀ W,Below w.heap.size w W→BAt W W.heap.size a m l):=fun W h=>(hl.below h (Nat.le_refl _)).more h.size
 have HM:=Lib.hid hl.len
 have HT:=Lib.hid (hT.below Q0.out.bel)
 have ht':=ht
 unfold maxLen at ht'
 have cF:=fun W h=>formed_any k b t W hb ht h
 clear hT hl
 cases hf : formedB ⟨k,b,t.data.toList⟩
 ·rw [hf] at cF
  have R : Hid (putV l ⟨k,b,t.data.toList⟩ = l):=by show putV _ _ = _;simp [putV,hf]
  clear hf
  go_enter Tryz.func130,Tryz.ntmps130
  go_wp2_with (first | (go_at_call 135;((with_reducible refine (cF _ HT.out).mono ?_);rintro e w1 ⟨rfl,hb1⟩;have Q1:=Lib.hid (Q0.out.below hb1))) | (go_at_call 65;((with_reducible refine (bclone_any a m c l _ (HL.out _ Q1.out.bel) (by omega)).mono ?_);rintro e w2 ⟨a2,n2,c2,rfl,ho2,hb2⟩)))
  go_ret
  exact NewB.wide ⟨a2,n2,c2,rfl,ho2,hb2⟩ Q1.out.bel R.out.symm
 ·rw [hf] at cF
  have R : Hid (putV l ⟨k,b,t.data.toList⟩ = l ++ bytesV ⟨k,b,t.data.toList⟩):=by show putV _ _ = _;simp [putV,hf]
  have hk:=formed_kinds hf
  clear hf
  rcases hk with rfl | rfl | rfl
  ·have T : Hid (bytesV ⟨0,b,t.data.toList⟩ = [0]):=by show bytesV _ = _;simp [bytesV]
   have cK : ∀ W,BAt W W.heap.size a m l→Calls Tryz.prog 34 #[.slice a m c,.int .u64 0,.int .i64 1] W (NewB W (l ++ [0])):=fun W h=>put_kind 0 0 (by omega) rfl a m c l W h (by omega)
   go_enter Tryz.func130,Tryz.ntmps130
   go_upto_region 3 with (go_at_call 135;((with_reducible refine (cF _ HT.out).mono ?_);rintro e w1 ⟨rfl,hb1⟩;have Q1:=Lib.hid (Q0.out.below hb1)))
   obtain ⟨p1,p2,p3⟩:=Q1.out.1
   go_wp2_with (go_at_call 34;((with_reducible refine (cK _ (HL.out _ Q1.out.bel)).mono ?_);rintro e w2 ⟨a2,n2,c2,rfl,ho2,hb2⟩;have Q2:=Lib.hid (Q1.out.below hb2);clear p1 p2 p3;obtain ⟨p1,p2,p3⟩:=Q2.out.1))
   go_ret
   exact NewB.wide ⟨a2,n2,c2,rfl,ho2,hb2⟩ Q1.out.bel (by rw [R.out,T.out])
  ·have T : Hid (bytesV ⟨1,b,t.data.toList⟩ = [1] ++ putB b (held 8)):=by show bytesV _ = _;simp [bytesV,held8]
   have cK : ∀ W,BAt W W.heap.size a m l→Calls Tryz.prog 34 #[.slice a m c,.int .u64 1,.int .i64 1] W (NewB W (l ++ [1])):=fun W h=>put_kind 1 1 (by omega) rfl a m c l W h (by omega)
   go_enter Tryz.func130,Tryz.ntmps130
   go_upto_region 3 with (go_at_call 135;((with_reducible refine (cF _ HT.out).mono ?_);rintro e w1 ⟨rfl,hb1⟩;have Q1:=Lib.hid (Q0.out.below hb1)))
   obtain ⟨p1,p2,p3⟩:=Q1.out.1
   go_upto_region 4 with (go_at_call 34;((with_reducible refine (cK _ (HL.out _ Q1.out.bel)).mono ?_);rintro e w2 ⟨a2,n2,c2,rfl,ho2,hb2⟩;have Q2:=Lib.hid (Q1.out.below hb2)))
   clear p1 p2 p3
   obtain ⟨p1,p2,p3⟩:=Q2.out.1
   have hb2':=BAt.of_own ho2
   have hn2 : n2≤1099511627776:=by
    have h1:=own_len ho2
    have h2:=HM.out
    simp at h1;omega
   go_wp2_with (go_at_call 34;((with_reducible refine (put_any a2 n2 c2 b 8 (l ++ [1]) _ hb2' hn2 hb).mono ?_);rintro e w3 ⟨a3,n3,c3,rfl,ho3,hb3⟩))
   go_ret
   exact NewB.wide ⟨a3,n3,c3,rfl,ho3,hb3⟩ Q2.out.bel (by rw [R.out,T.out,List.append_assoc])
  ·have T : Hid (bytesV ⟨2,b,t.data.toList⟩ = [2] ++ textB t.data.toList):=by show bytesV _ = _;simp [bytesV]
   have cK : ∀ W,BAt W W.heap.size a m l→Calls Tryz.prog 34 #[.slice a m c,.int .u64 2,.int .i64 1] W (NewB W (l ++ [2])):=fun W h=>put_kind 2 2 (by omega) rfl a m c l W h (by omega)
   go_enter Tryz.func130,Tryz.ntmps130
   go_upto_region 3 with (go_at_call 135;((with_reducible refine (cF _ HT.out).mono ?_);rintro e w1 ⟨rfl,hb1⟩;have Q1:=Lib.hid (Q0.out.below hb1)))
   obtain ⟨p1,p2,p3⟩:=Q1.out.1
   go_upto_region 4 with (go_at_call 34;((with_reducible refine (cK _ (HL.out _ Q1.out.bel)).mono ?_);rintro e w2 ⟨a2,n2,c2,rfl,ho2,hb2⟩;have Q2:=Lib.hid (Q1.out.below hb2)))
   clear p1 p2 p3
   obtain ⟨p1,p2,p3⟩:=Q2.out.1
   have hb2':=BAt.of_own ho2
   have hn2 : n2≤1099511627000:=by
    have h1:=own_len ho2
    have h2:=HM.out
    simp at h1;omega
   go_wp2_with (go_at_call 129;((with_reducible refine (putText_any a2 n2 c2 t (l ++ [2]) _ hb2' hn2 ht).mono ?_);rintro e w3 ⟨a3,n3,c3,rfl,ho3,hb3⟩))
   go_ret
   exact NewB.wide ⟨a3,n3,c3,rfl,ho3,hb3⟩ Q2.out.bel (by rw [R.out,T.out,List.append_assoc])
set_option linter.unusedVariables false
/-- Bytes with an id behind them; with a transaction behind them. -/
def putId (l : List UInt8) (x : IdN) : List UInt8:=if idB x = true then l ++ idBytes x else l
def putT (l : List UInt8) (t : Tx Val) : List UInt8:=if formT formedB t = true then l ++ txnB bytesV t else l
theorem id_nat {s q : Int} (h : idB (s,q) = true) : ∃ S Q : Nat,s = (S : Int)∧q = (Q : Int)∧S≤8∧Q≤1048576:=by
 rw [idB_iff] at h
 exact ⟨s.toNat,q.toNat,by omega,by omega,by omega,by omega⟩
theorem putw_any (a : Option Addr) (m c x : Nat) (k : Int) (l : List UInt8) (w : World) (hl : BAt w w.heap.size a m l) (hlen : m≤1099511627776) (hx : x < 18446744073709551616) :
  Calls Tryz.prog 34 #[.slice a m c,.int .u64 (IntKind.u64.wrap (x : Int)),.int .i64 k] w (NewB w (l ++ putB x (held k))):=by
 have e : IntKind.u64.wrap (x : Int) = x:=by rw [IntKind.wrap_u64];omega
 rw [e]
 exact put_any a m c x k l w hl hlen hx
theorem tPutId_any (a : Option Addr) (m c : Nat) (s q : Int) (l : List UInt8) (w : World) (hl : BAt w w.heap.size a m l) (hm : m≤1099511600000) :
  Calls Tryz.prog 103 #[.slice a m c,.agg #[.int .i64 s,.int .i64 q]] w (NewB w (putId l (s,q))):=by
 have H0:=Lib.hid ((Boxs.start w).more #[.int .i64 s,.int .i64 q] 26)
 have cI:=fun W=>tId_any s q W
 have HL : Hid (∀ W,Below w.heap.size w W→BAt W W.heap.size a m l):=fun W hW=>(hl.below hW (Nat.le_refl _)).more hW.size
 have HLL:=Lib.hid hl.len
 obtain ⟨x0,x1⟩:=(H0.out.get 0 _ _ _ rfl).two
 clear hl
 unfold putId
 cases hf : idB (s,q)
 ·rw [hf] at cI
  rw [if_neg (by decide)]
  clear hf
  go_enter Tryz.func103,Tryz.ntmps103
  go_wp2_with (first | (go_at_call 117;((with_reducible refine (cI _).mono ?_);rintro e w1 ⟨rfl,hb1⟩;have H1:=Lib.hid (H0.out.below hb1))) | (go_at_call 65;((with_reducible refine (bclone_any a m c l _ (HL.out _ H1.out.bel) (by omega)).mono ?_);intro e w2 h2;have N2:=Lib.hid (NewB.on h2 H1.out.bel);obtain ⟨a2,n2,c2,rfl,ho2,hb2⟩:=h2)))
  go_ret
  exact N2.out
 ·rw [hf] at cI
  rw [if_pos rfl]
  obtain ⟨S,Q,rfl,rfl,hS,hQ⟩:=id_nat hf
  clear hf
  have HM2 : Hid (∀ r : Nat,(l ++ putB S (held 1)).length = r→r≤1099511627776):=fun r hr=>by have:=HLL.out;rw [List.length_append,putB_len] at hr;have:=held_le 1;omega
  have hS2 : S < 18446744073709551616:=by omega
  have hQ2 : Q < 18446744073709551616:=by omega
  go_enter Tryz.func103,Tryz.ntmps103
  go_upto_region 3 with (go_at_call 117;((with_reducible refine (cI _).mono ?_);rintro e w1 ⟨rfl,hb1⟩;have H1:=Lib.hid (H0.out.below hb1)))
  have HD:=Lib.hid H1.out.drew
  have s0:=(HD.out.get 0 _ _ _ rfl).two
  clear x0 x1
  go_region_held3 (fun w'=>w'.cell? ⟨w.heap.size,0,none⟩ = some (.int .i64 (S : Int))∧w'.cell? ⟨w.heap.size,1,none⟩ = some (.int .i64 (Q : Int))) (first | (with_reducible exact s0) | (with_reducible exact s1) | (with_reducible exact s2))
   (first | (go_at_call 34;((with_reducible refine (putw_any a m c S 1 l _ (HL.out _ HD.out.bel) (by omega) hS2).mono ?_);rintro e w1 ⟨a1,n1,c1,rfl,ho1,hb1⟩;have X1:=Lib.hid (HD.out.below hb1);have s1:=(X1.out.get 0 _ _ _ rfl).two;have L1:=Lib.hid (BAt.of_own ho1);have L2:=Lib.hid (HM2.out _ (own_len ho1)))) | (go_at_call 34;((with_reducible refine (putw_any a1 n1 c1 Q 4 _ _ L1.out L2.out hQ2).mono ?_);intro e w2 h2;have N2:=Lib.hid (NewB.on h2 X1.out.bel);obtain ⟨a2,n2,c2,rfl,ho2,hb2⟩:=h2;have X2:=Lib.hid (X1.out.below hb2);have s2:=(X2.out.get 0 _ _ _ rfl).two)))
  go_wp2
  go_ret
  exact N2.out.cast (by rw [List.append_assoc];rfl)
theorem rPutId_any (a : Option Addr) (m c : Nat) (s q : Int) (l : List UInt8) (w : World) (hl : BAt w w.heap.size a m l) (hm : m≤1099511600000) :
  Calls Tryz.prog 78 #[.slice a m c,.agg #[.int .i64 s,.int .i64 q]] w (NewB w (putId l (s,q))):=by
 obtain ⟨i0,hi,hz0,hz1,hz2⟩:=info_parts Tryz.info5
 have H0:=Lib.hid ((Boxs.start w).more #[.int .i64 s,.int .i64 q] 26)
 have hl1:=(hl.below H0.out.bel (Nat.le_refl _)).more H0.out.bel.size
 have cI:=fun W=>rId_any s q W
 clear hl
 unfold putId
 cases hf : idB (s,q)
 ·rw [hf] at cI
  rw [if_neg (by decide)]
  clear hf
  go_enter Tryz.func78,Tryz.ntmps78
  go_upto_region 2 with (fail)
  generalize w.alloc (.cells #[.int .i64 s,.int .i64 q] 26) = w0 at *
  obtain ⟨x0,x1⟩:=(H0.out.get 0 _ _ _ rfl).two
  go_wp2_with (first | (at_builtin;(refine wpList_append_bytes _ rfl _ _ 34 rfl w0.heap.size 5 i0 Tryz.underlying34 hi hz0 hz1 hz2 _ 0 [] rfl (World.ownsRow_nil _ _ _ _) w0.heap.size a m l c rfl hl1 (by omega) (Nat.le_refl _) ?_;intro v1 w1 ho1 hg1;rw [Nat.zero_add,List.nil_append] at ho1;have P1 : Hid (PutIn w0 w1 v1 m l):=⟨ho1,(Below.refl _ _).grown hg1 (Nat.le_refl _) (by intro j hj;cases hj)⟩;clear ho1 hg1;have H1:=Lib.hid (H0.out.below P1.out.bel);(clear x0 x1);obtain ⟨x0,x1⟩:=(H1.out.get 0 _ _ _ rfl).two)) | (go_at_call 93;((with_reducible refine (cI _).mono ?_);rintro e w2 ⟨rfl,hb2⟩;have P2:=Lib.hid (P1.out.below hb2))))
  go_ret
  exact P2.out.out.on H0.out.bel
 ·rw [hf] at cI
  rw [if_pos rfl]
  obtain ⟨S,Q,rfl,rfl,hS,hQ⟩:=id_nat hf
  clear hf
  have cP : ∀ a1 n1 c1 L W,BAt W W.heap.size a1 n1 L→n1≤1099511627776→Calls Tryz.prog 40 #[.slice a1 n1 c1,.int .u64 (Q : Int),.int .i64 4] W (NewB W (L ++ putB Q 4)):=fun a1 n1 c1 L W h1 h2=>refPut_any a1 n1 c1 Q 4 L W h1 h2 (by omega) (by omega) (by omega)
  have e64 : (Q : Int) % 18446744073709551616 = Q:=by omega
  go_enter Tryz.func78,Tryz.ntmps78
  go_upto_region 2 with (fail)
  generalize w.alloc (.cells #[.int .i64 (S : Int),.int .i64 (Q : Int)] 26) = w0 at *
  obtain ⟨x0,x1⟩:=(H0.out.get 0 _ _ _ rfl).two
  go_upto_region 5 with (first | (at_builtin;(refine wpList_append_bytes _ rfl _ _ 34 rfl w0.heap.size 5 i0 Tryz.underlying34 hi hz0 hz1 hz2 _ 0 [] rfl (World.ownsRow_nil _ _ _ _) w0.heap.size a m l c rfl hl1 (by omega) (Nat.le_refl _) ?_;intro v1 w1 ho1 hg1;rw [Nat.zero_add,List.nil_append] at ho1;have P1 : Hid (PutIn w0 w1 v1 m l):=⟨ho1,(Below.refl _ _).grown hg1 (Nat.le_refl _) (by intro j hj;cases hj)⟩;clear ho1 hg1;have H1:=Lib.hid (H0.out.below P1.out.bel);(clear x0 x1);obtain ⟨x0,x1⟩:=(H1.out.get 0 _ _ _ rfl).two)) | (go_at_call 93;((with_reducible refine (cI _).mono ?_);rintro e w2 ⟨rfl,hb2⟩;have P2:=Lib.hid (P1.out.below hb2))))
  have H2:=Lib.hid (H0.out.below P2.out.bel)
  (clear x0 x1);obtain ⟨x0,x1⟩:=(H2.out.get 0 _ _ _ rfl).two
  have hsz:=P2.out.bel.size
  go_upto_region 6 with (at_builtin;(refine wpList_append_bytes _ rfl _ _ 34 rfl w0.heap.size 5 i0 Tryz.underlying34 hi hz0 hz1 hz2 _ m l rfl (P2.out.own.alloc _) (w2.heap.size + 1) (some ⟨w2.heap.size,0,none⟩) 1 [UInt8.ofNat S] 1 rfl (BAt.one _ _ _ _ (by first | exact byte_nat S (by omega) | exact byte_mod S)) (by omega) (by simp;omega) ?_;intro v3 w3 ho3 hg3;have P3:=Lib.hid (P2.out.next ho3 hg3);clear ho3 hg3))
  obtain ⟨a3,c3,rfl⟩:=P3.out.form
  have H3:=Lib.hid (H0.out.below P3.out.bel)
  (clear x0 x1);obtain ⟨x0,x1⟩:=(H3.out.get 0 _ _ _ rfl).two
  go_wp2_with (go_at_call 40;((with_reducible refine (cP a3 _ c3 _ _ P3.out.bat (by omega)).mono ?_);intro e w4 h4;have N4:=Lib.hid (NewB.on h4 H3.out.bel);obtain ⟨a4,n4,c4,rfl,ho4,hb4⟩:=h4))
  go_ret
  exact N4.out.cast (by rw [List.append_assoc,← put_one];rfl)
theorem txR_snoc (rs : List RdM) (k : Nat) (h : k < rs.length) : (txR (rs.take (k + 1))).flatMap readB = (txR (rs.take k)).flatMap readB ++ (textB rs[k].1.data.toList ++ putB rs[k].2 8):=by
 unfold txR
 rw [List.take_succ_eq_append_getElem h,List.map_append,List.flatMap_append]
 simp [readB]
theorem txW_snoc (ws : List WrM) (k : Nat) (h : k < ws.length) : (txW (ws.take (k + 1))).flatMap (writeB bytesV) = (txW (ws.take k)).flatMap (writeB bytesV) ++ (textB ws[k].key.data.toList ++ bytesV (valM ws[k])):=by
 unfold txW
 rw [List.take_succ_eq_append_getElem h,List.map_append,List.flatMap_append]
 simp [writeB]
def readsB (l : List UInt8) (rs : List RdM) : List UInt8:=l ++ (putB rs.length 1 ++ (txR rs).flatMap readB)
noncomputable def writesB (l : List UInt8) (ws : List WrM) : List UInt8:=l ++ (putB ws.length 1 ++ (txW ws).flatMap (writeB bytesV))
theorem putReads_any (a : Option Addr) (m c : Nat) (l : List UInt8) (ra : Option Addr) (n rc : Nat) (rs : List RdM) (w : World) (hl : BAt w w.heap.size a m l) (hm : m≤1099511000000) (hr : RdsAt w w.heap.size ra n rs) (hok : ∀ x ∈ rs,RdOk x) (hn : n≤6) :
  Calls Tryz.prog 104 #[.slice a m c,.slice ra n rc] w fun e w'=>NewB w (readsB l rs) e w'∧(readsB l rs).length≤m + 393271:=by
 have hlen:=hr.1
 have HR:=Lib.hid hr
 have HO:=Lib.hid hok
 have hll:=hl.len
 have c1 : ∀ W,W = w→Calls Tryz.prog 34 #[.slice a m c,.int .u64 (n : Int),.int .i64 1] W (NewB W (l ++ putB n 1)):=fun W e=>by subst e;exact put_any a m c n 1 l W hl (by omega) (by omega)
 have e64 : (n : Int) % 18446744073709551616 = n:=by omega
 clear hl hr hok
 go_enter Tryz.func104,Tryz.ntmps104
 go_wp2_with (go_at_call 34;((with_reducible refine (c1 _ rfl).mono ?_);rintro e w1 ⟨a1,n1,c1',rfl,ho1,hb1⟩;have P1 : Hid (PutIn w w1 (.slice a1 n1 c1') n1 (l ++ putB n 1)):=⟨ho1,hb1⟩))
 have hn1 : n1≤m + 1:=by have:=P1.out.len;rw [List.length_append,putB_len] at this;omega
 clear ho1 hb1
 go_loopw [0,14] (fun v i wr => ∃ (k r : Nat),k≤n∧i = .int .i64 k∧PutIn w wr v r ((l ++ putB n 1) ++ (txR (rs.take k)).flatMap readB)∧r≤m + 1 + 65545 * k) (fun _ i _=>n - (intOf i).toNat)
 case atStart=>exact ⟨0,n1,Nat.zero_le _,rfl,P1.out.cast (by simp [txR]),by omega⟩
 case round =>
  obtain ⟨k,r,hk,rfl,hP,hrr⟩:=hrel
  have PP:=Lib.hid hP
  obtain ⟨a2,c2,rfl⟩:=hP.form
  clear hP P1
  by_cases hlt : k < n
  ·have hk1 : k < rs.length:=by omega
   have HQ : Hid ((l ++ putB n 1) ++ (txR (rs.take (k + 1))).flatMap readB = (((l ++ putB n 1) ++ (txR (rs.take k)).flatMap readB) ++ textB rs[k].1.data.toList) ++ putB rs[k].2 8):=by unfold Hid;rw [txR_snoc rs k hk1];simp only [List.append_assoc]
   have hx:=HO.out _ (List.getElem_mem hk1)
   obtain ⟨b0,off,rfl,hbb,x0,x1⟩:=(HR.out.later PP.out.bel).at_ (i:=k) hk1
   generalize rs[k] = x at *
   generalize (l ++ putB n 1) ++ (txR (rs.take k)).flatMap readB = L at *
   obtain ⟨xk,xv⟩:=x
   have hx1 : xk.size≤maxLen:=hx.1
   have hx2 : xv < 18446744073709551616:=hx.2
   have X0 : Hid (Boxs w (wr.alloc (.cells #[.string xk,.int .u64 ((xv : Nat) : Int)] 153)).drew [(wr.heap.size,#[.string xk,.int .u64 ((xv : Nat) : Int)],153)]):=Boxs.drew (Boxs.more (l:=[]) ⟨PP.out.bel,fun _ h=>by cases h⟩ _ _)
   have B0 : Hid (BAt (wr.alloc (.cells #[.string xk,.int .u64 ((xv : Nat) : Int)] 153)).drew (wr.alloc (.cells #[.string xk,.int .u64 ((xv : Nat) : Int)] 153)).drew.heap.size a2 r L):=(PP.out.below ((one_box wr _ _).trans (below_drewN 1 (Below.refl _ _)))).bat
   have s0:=(X0.out.get 0 _ _ _ rfl).two
   have HT : Hid (∀ z : Nat,(L ++ textB xk.data.toList).length = z→z≤r + 65537):=fun z hz=>by have h1:=PP.out.len;have h2:=textB_le xk.data.toList;rw [List.length_append] at hz;omega
   have HV : Hid (∀ z : Nat,((L ++ textB xk.data.toList) ++ putB xv 8).length = z→z≤r + 65545):=fun z hz=>by have h1:=PP.out.len;have h2:=textB_le xk.data.toList;rw [List.length_append,List.length_append,putB_len] at hz;omega
   go_upto_region 5 with (fail)
   go_region_held3 (fun w'=>w'.cell? ⟨wr.heap.size,0,none⟩ = some (.string xk)∧w'.cell? ⟨wr.heap.size,1,none⟩ = some (.int .u64 ((xv : Nat) : Int))) (first | (with_reducible exact s0) | (with_reducible exact s1) | (with_reducible exact s2))
    (first | (go_at_call 129;((with_reducible refine (putText_any a2 r c2 xk L _ B0.out (by omega) hx1).mono ?_);rintro e w3 ⟨a3,n3,c3,rfl,ho3,hb3⟩;have X3:=Lib.hid (X0.out.below hb3);have s1:=(X3.out.get 0 _ _ _ rfl).two;have B3:=Lib.hid (BAt.of_own ho3);have L3:=Lib.hid (HT.out _ (own_len ho3)))) | (go_at_call 34;((with_reducible refine (put_any a3 n3 c3 xv 8 _ _ B3.out (by have:=L3.out;omega) hx2).mono ?_);rintro e w4 ⟨a4,n4,c4,rfl,ho4,hb4⟩;have X4:=Lib.hid (X3.out.below hb4);have s2:=(X4.out.get 0 _ _ _ rfl).two;have P4:=Lib.hid (PutIn.call X3.out.bel ho4 hb4))))
   have hn4:=HV.out _ P4.out.len
   go_wp2
   go_roundw
   case rel=>exact ⟨k + 1,n4,by omega,by go_num,by rw [HQ.out];exact P4.out,Nat.le_trans hn4 (by rw [Nat.mul_succ,← Nat.add_assoc];exact Nat.add_le_add_right hrr _)⟩
   case measure=>simp [intOf];omega
  ·have HQ : Hid (rs.take k = rs):=List.take_of_length_le (by omega)
   rw [HQ.out] at PP
   have hbound:=PP.out.len
   have N:=Lib.hid PP.out.out
   have hk6 : k≤6:=by omega
   go_wp2
   go_ret
   have e : readsB l rs = (l ++ putB n 1) ++ (txR rs).flatMap readB:=by unfold readsB;rw [hlen,List.append_assoc]
   rw [e]
   exact ⟨N.out,by omega⟩
theorem putWrites_any (a : Option Addr) (m c : Nat) (l : List UInt8) (ra : Option Addr) (n rc : Nat) (rs : List WrM) (w : World) (hl : BAt w w.heap.size a m l) (hm : m≤1099510000000) (hr : WrsAt w w.heap.size ra n rs) (hok : ∀ x ∈ rs,WrOk x) (hn : n≤6) (hv : ∀ x ∈ rs,formedB (valM x) = true) (hU : Tabs w) :
  Calls Tryz.prog 105 #[.slice a m c,.slice ra n rc] w fun e w'=>NewB w (writesB l rs) e w'∧(writesB l rs).length≤m + 786451:=by
 have hlen:=hr.1
 have HR:=Lib.hid hr
 have HO:=Lib.hid hok
 have HV0:=Lib.hid hv
 have HU : Hid (∀ W,Below w.heap.size w W→Tabs W):=fun W hW=>hU.below hW
 have hll:=hl.len
 have c1 : ∀ W,W = w→Calls Tryz.prog 34 #[.slice a m c,.int .u64 (n : Int),.int .i64 1] W (NewB W (l ++ putB n 1)):=fun W e=>by subst e;exact put_any a m c n 1 l W hl (by omega) (by omega)
 have e64 : (n : Int) % 18446744073709551616 = n:=by omega
 clear hl hr hok hv hU
 go_enter Tryz.func105,Tryz.ntmps105
 go_wp2_with (go_at_call 34;((with_reducible refine (c1 _ rfl).mono ?_);rintro e w1 ⟨a1,n1,c1',rfl,ho1,hb1⟩;have P1 : Hid (PutIn w w1 (.slice a1 n1 c1') n1 (l ++ putB n 1)):=⟨ho1,hb1⟩))
 have hn1 : n1≤m + 1:=by have:=P1.out.len;rw [List.length_append,putB_len] at this;omega
 clear ho1 hb1
 go_loopw [0,14] (fun v i wr => ∃ (k r : Nat),k≤n∧i = .int .i64 k∧PutIn w wr v r ((l ++ putB n 1) ++ (txW (rs.take k)).flatMap (writeB bytesV))∧r≤m + 1 + 131075 * k) (fun _ i _=>n - (intOf i).toNat)
 case atStart=>exact ⟨0,n1,Nat.zero_le _,rfl,P1.out.cast (by simp [txW]),by omega⟩
 case round =>
  obtain ⟨k,r,hk,rfl,hP,hrr⟩:=hrel
  have PP:=Lib.hid hP
  obtain ⟨a2,c2,rfl⟩:=hP.form
  clear hP P1
  by_cases hlt : k < n
  ·have hk1 : k < rs.length:=by omega
   have HQ : Hid ((l ++ putB n 1) ++ (txW (rs.take (k + 1))).flatMap (writeB bytesV) = (((l ++ putB n 1) ++ (txW (rs.take k)).flatMap (writeB bytesV)) ++ textB rs[k].key.data.toList) ++ bytesV (valM rs[k])):=by unfold Hid;rw [txW_snoc rs k hk1];simp only [List.append_assoc]
   have hx:=HO.out _ (List.getElem_mem hk1)
   have hvx:=HV0.out _ (List.getElem_mem hk1)
   obtain ⟨b0,off,rfl,hbb,x0,x1,x2,x3⟩:=(HR.out.later PP.out.bel).at_ (i:=k) hk1
   generalize rs[k] = x at *
   generalize (l ++ putB n 1) ++ (txW (rs.take k)).flatMap (writeB bytesV) = L at *
   obtain ⟨xk,xa,xb,xt⟩:=x
   have hx1 : xk.size≤maxLen:=hx.1
   have hx2 : xb < 18446744073709551616:=hx.2.1
   have hx3 : xt.size≤maxLen:=hx.2.2
   have HP : Hid (∀ M,putV M ⟨xa,xb,xt.data.toList⟩ = M ++ bytesV ⟨xa,xb,xt.data.toList⟩):=fun M=>by unfold putV;rw [if_pos (show formedB ⟨xa,xb,xt.data.toList⟩ = true from hvx)]
   have hbl:=bytesV_len ⟨xa,xb,xt.data.toList⟩
   have cV : ∀ (a3 : Option Addr) (n3 c3 : Nat) (M : List UInt8) (W : World),BAt W W.heap.size a3 n3 M→n3≤1099511600000→Below w.heap.size w W→Calls Tryz.prog 130 #[.slice a3 n3 c3,.agg #[.int .i64 xa,.int .u64 ((xb : Nat) : Int),.string xt]] W (NewB W (M ++ bytesV ⟨xa,xb,xt.data.toList⟩)):=fun a3 n3 c3 M W h1 h2 h3=>by
    have h:=putsV a3 n3 c3 M xa xb xt W h1 h2 hx2 hx3 (HU.out _ h3)
    rw [HP.out] at h;exact h
   have X0 : Hid (Boxs w (wr.alloc (.cells #[.string xk,.int .i64 xa,.int .u64 ((xb : Nat) : Int),.string xt] 157)).drew [(wr.heap.size,#[.string xk,.int .i64 xa,.int .u64 ((xb : Nat) : Int),.string xt],157)]):=Boxs.drew (Boxs.more (l:=[]) ⟨PP.out.bel,fun _ h=>by cases h⟩ _ _)
   have B0 : Hid (BAt (wr.alloc (.cells #[.string xk,.int .i64 xa,.int .u64 ((xb : Nat) : Int),.string xt] 157)).drew (wr.alloc (.cells #[.string xk,.int .i64 xa,.int .u64 ((xb : Nat) : Int),.string xt] 157)).drew.heap.size a2 r L):=(PP.out.below ((one_box wr _ _).trans (below_drewN 1 (Below.refl _ _)))).bat
   have s0:=(X0.out.get 0 _ _ _ rfl).four
   have HT : Hid (∀ z : Nat,(L ++ textB xk.data.toList).length = z→z≤r + 65537):=fun z hz=>by have h1:=PP.out.len;have h2:=textB_le xk.data.toList;rw [List.length_append] at hz;omega
   have HV : Hid (∀ z : Nat,((L ++ textB xk.data.toList) ++ bytesV ⟨xa,xb,xt.data.toList⟩).length = z→z≤r + 131075):=fun z hz=>by have h1:=PP.out.len;have h2:=textB_le xk.data.toList;rw [List.length_append,List.length_append] at hz;omega
   go_upto_region 5 with (fail)
   go_region_held3 (fun w'=>w'.cell? ⟨wr.heap.size,0,none⟩ = some (.string xk)∧w'.cell? ⟨wr.heap.size,1,none⟩ = some (.int .i64 xa)∧w'.cell? ⟨wr.heap.size,2,none⟩ = some (.int .u64 ((xb : Nat) : Int))∧w'.cell? ⟨wr.heap.size,3,none⟩ = some (.string xt)) (first | (with_reducible exact s0) | (with_reducible exact s1) | (with_reducible exact s2))
    (first | (go_at_call 129;((with_reducible refine (putText_any a2 r c2 xk L _ B0.out (by omega) hx1).mono ?_);rintro e w3 ⟨a3,n3,c3,rfl,ho3,hb3⟩;have X3:=Lib.hid (X0.out.below hb3);have s1:=(X3.out.get 0 _ _ _ rfl).four;have B3:=Lib.hid (BAt.of_own ho3);have L3:=Lib.hid (HT.out _ (own_len ho3)))) | (go_at_call 130;((with_reducible refine (cV a3 n3 c3 _ _ B3.out (by have:=L3.out;omega) X3.out.bel).mono ?_);rintro e w4 ⟨a4,n4,c4,rfl,ho4,hb4⟩;have X4:=Lib.hid (X3.out.below hb4);have s2:=(X4.out.get 0 _ _ _ rfl).four;have P4:=Lib.hid (PutIn.call X3.out.bel ho4 hb4))))
   have hn4:=HV.out _ P4.out.len
   go_wp2
   go_roundw
   case rel=>exact ⟨k + 1,n4,by omega,by go_num,by rw [HQ.out];exact P4.out,Nat.le_trans hn4 (by rw [Nat.mul_succ,← Nat.add_assoc];exact Nat.add_le_add_right hrr _)⟩
   case measure=>simp [intOf];omega
  ·have HQ : Hid (rs.take k = rs):=List.take_of_length_le (by omega)
   rw [HQ.out] at PP
   have hbound:=PP.out.len
   have N:=Lib.hid PP.out.out
   have hk6 : k≤6:=by omega
   go_wp2
   go_ret
   have e : writesB l rs = (l ++ putB n 1) ++ (txW rs).flatMap (writeB bytesV):=by unfold writesB;rw [hlen,List.append_assoc]
   rw [e]
   exact ⟨N.out,by omega⟩
theorem bytes_row {w : World} {B : Nat} {a : Option Addr} {n : Nat} {l : List UInt8} (h : BAt w B a n l) : RowAt w B a n 1 (bcells l):=by
 refine ⟨by rw [bcells_len,h.len,Nat.mul_one],?_⟩
 by_cases h0 : n = 0
 ·exact .inl h0
 ·obtain ⟨b,off,ha,hb,_⟩:=h.at_ (i:=0) (by have:=h.len;omega)
  refine .inr ⟨b,off,ha,hb,fun j u hu=>?_⟩
  obtain ⟨hj,rfl⟩:=bcells_get hu
  obtain ⟨b',off',ha',_,hc⟩:=h.at_ hj
  rw [ha] at ha'
  injection ha' with ha'
  injection ha' with h1 h2
  rw [h1,h2];exact hc
/-- Two lists of bytes that lie there, put together. -/
theorem concatBytes_any (W : World) (t : TypeId) (a1 : Option Addr) (n1 c1 : Nat) (l1 : List UInt8) (a2 : Option Addr) (n2 c2 : Nat) (l2 : List UInt8) (h1 : BAt W W.heap.size a1 n1 l1) (h2 : BAt W W.heap.size a2 n2 l2) (hn1 : n1≤1099511627776) (hn2 : n2≤1099511627776) :
  Calls Tryz.prog 76 #[.slice (some ⟨W.heap.size,0,none⟩) 2 2] (W.alloc (.cells #[.slice a1 n1 c1,.slice a2 n2 c2] t)) (NewB W (l1 ++ l2)):=by
 have hb:=one_box W #[.slice a1 n1 c1,.slice a2 n2 c2] t
 have x:=BoxC.new W #[.slice a1 n1 c1,.slice a2 n2 c2] t
 refine (concatB_any W.heap.size 0 2 a1 n1 c1 (bcells l1) a2 n2 c2 (bcells l2) _ (x.cell 0 _ rfl) (x.cell 1 _ rfl) x.lt (((bytes_row h1).below hb (Nat.le_refl _)).more hb.size) (((bytes_row h2).below hb (Nat.le_refl _)).more hb.size) (bcells_one _) (bcells_one _) hn1 hn2).mono ?_
 rintro e w1 ⟨a,c,rfl,ho,hb1⟩
 rw [← bcells_app] at ho ⊢
 exact ⟨a,_,c,rfl,own_base ho hb.size,hb.trans (hb1.mono hb.size)⟩
theorem txnB_eq (s q : Int) (rs : List RdM) (ws : List WrM) : txnB bytesV (txT (s,q) rs ws) = writesB (readsB (idBytes (s,q)) rs) ws:=by
 unfold txnB writesB readsB txT txR txW
 simp only [List.length_map,List.append_assoc]
theorem tPut_any (a : Option Addr) (k c : Nat) (l : List UInt8) (s q : Int) (ra : Option Addr) (n rc : Nat) (rb : Option Addr) (m rd : Nat) (rs : List RdM) (ws : List WrM) (w : World) (hl : BAt w w.heap.size a k l) (hk : k≤1099510000000) (hX : TxAt w ra n rb m rs ws) (hU : Tabs w) :
  Calls Tryz.prog 73 #[.slice a k c,.agg (txV s q ra n rc rb m rd)] w (NewB w (putT l (txT (s,q) rs ws))):=by
 have H0:=Lib.hid ((Boxs.start w).more (txV s q ra n rc rb m rd) 30)
 have cF:=tFormed_any s q ra n rc rb m rd rs ws _ (hX.later H0.out.bel) (hU.below H0.out.bel)
 have HL : Hid (∀ W,Below w.heap.size w W→BAt W W.heap.size a k l):=fun W hW=>(hl.below hW (Nat.le_refl _)).more hW.size
 obtain ⟨x0,x1,x2,x3⟩:=(H0.out.get 0 _ _ _ rfl).four
 clear hl
 unfold putT
 cases hf : formT formedB (txT (s,q) rs ws)
 ·rw [hf] at cF
  rw [if_neg (by decide)]
  clear hf hX hU
  go_enter Tryz.func73,Tryz.ntmps73
  go_wp2_with (first | (go_at_call 90;((with_reducible refine cF.mono ?_);rintro e w1 ⟨rfl,hb1⟩;have H1:=Lib.hid (H0.out.below hb1))) | (go_at_call 65;((with_reducible refine (bclone_any a k c l _ (HL.out _ H1.out.bel) (by omega)).mono ?_);intro e w2 h2;have N2:=Lib.hid (NewB.on h2 H1.out.bel);obtain ⟨a2,n2,c2,rfl,ho2,hb2⟩:=h2)))
  go_ret
  exact N2.out
 ·rw [hf] at cF
  rw [if_pos rfl,txnB_eq]
  have hT:=(formT_iff _ _).1 hf
  have h6 : n≤6:=by
   have h1:=hT.rlen
   have h2:=hX.lenR
   simp only [txT,txR,List.length_map] at h1;omega
  have h7 : m≤6:=by
   have h1:=hT.wlen
   have h2:=hX.lenW
   simp only [txT,txW,List.length_map] at h1;omega
  have hid : idB (s,q) = true:=hT.id
  have hv : ∀ x ∈ ws,formedB (valM x) = true:=fun x hx=>List.all_eq_true.1 hT.vals (x.key.data.toList,valM x) (List.mem_map.2 ⟨x,hx,rfl⟩)
  have cI : ∀ W,Calls Tryz.prog 103 #[.slice none 0 0,.agg #[.int .i64 s,.int .i64 q]] W (NewB W (idBytes (s,q))):=fun W=>(tPutId_any none 0 0 s q [] W BAt.nil (by omega)).mono fun e w' h=>h.cast (by unfold putId;rw [if_pos hid];rfl)
  have hI5:=idBytes_len (s,q)
  generalize idBytes (s,q) = I at *
  have cR : ∀ a1 n1 c1 W,Below w.heap.size w W→BAt W W.heap.size a1 n1 I→n1≤5→_:=fun a1 n1 c1 W hW h1 h5=>putReads_any a1 n1 c1 I ra n rc rs W h1 (by omega) (hX.later hW).rds hX.okR h6
  have cW : ∀ a1 n1 c1 W,Below w.heap.size w W→BAt W W.heap.size a1 n1 (readsB I rs)→n1≤393276→_:=fun a1 n1 c1 W hW h1 h5=>putWrites_any a1 n1 c1 (readsB I rs) rb m rd ws W h1 (by omega) (hX.later hW).wrs hX.okW h7 hv (hU.below hW)
  generalize readsB I rs = J at *
  generalize writesB J ws = K at *
  clear hf hX hU hT hid hv
  go_enter Tryz.func73,Tryz.ntmps73
  go_wp2_with (first | (go_at_call 90;((with_reducible refine cF.mono ?_);rintro e w1 ⟨rfl,hb1⟩;have H1:=Lib.hid (H0.out.below hb1);(clear x0 x1 x2 x3);obtain ⟨x0,x1,x2,x3⟩:=(H1.out.get 0 _ _ _ rfl).four)) | (go_at_call 103;((with_reducible refine (cI _).mono ?_);rintro e w2 ⟨a2,n2,c2,rfl,ho2,hb2⟩;have H2:=Lib.hid (H1.out.below hb2);(clear x0 x1 x2 x3);obtain ⟨x0,x1,x2,x3⟩:=(H2.out.get 0 _ _ _ rfl).four;have B2:=Lib.hid (BAt.of_own ho2);have hn2 : n2≤5:=by (have:=own_len ho2;omega))) | (go_at_call 104;((with_reducible refine (cR a2 n2 c2 _ H2.out.bel B2.out hn2).mono ?_);rintro e w3 ⟨⟨a3,n3,c3,rfl,ho3,hb3⟩,hJ⟩;have H3:=Lib.hid (H2.out.below hb3);(clear x0 x1 x2 x3);obtain ⟨x0,x1,x2,x3⟩:=(H3.out.get 0 _ _ _ rfl).four;have B3:=Lib.hid (BAt.of_own ho3);have hn3 : n3≤393276:=by (have:=own_len ho3;omega))) | (go_at_call 105;((with_reducible refine (cW a3 n3 c3 _ H3.out.bel B3.out hn3).mono ?_);rintro e w4 ⟨⟨a4,n4,c4,rfl,ho4,hb4⟩,hK⟩;have H4:=Lib.hid (H3.out.below hb4);have B4:=Lib.hid (BAt.of_own ho4);have hn4 : n4≤1179727:=by (have:=own_len ho4;omega))) | (go_at_call 76;((with_reducible refine (concatBytes_any w4 _ a k c l a4 n4 c4 K (HL.out _ H4.out.bel) B4.out (by omega) (by omega)).mono ?_);intro e w5 h5;have N5:=Lib.hid (NewB.on h5 H4.out.bel);obtain ⟨a5,n5,c5,rfl,ho5,hb5⟩:=h5)))
  go_ret
  exact N5.out
theorem bal_put (r : Nat) (n : Int) (hn : formB n = true) : balB r n = balBytes (((r : Nat) : Int),n):=by
 have h : 0≤n∧n < 5:=by simpa [formB] using hn
 unfold balB balBytes
 show putB r 4 ++ _ = putB ((r : Nat) : Int).toNat 4 ++ putB n.toNat 1
 have e : (n % 256).toNat = n.toNat:=by omega
 rw [Int.toNat_natCast,put_one,e]
/-- As the walk spells it where the number's bounds are at hand. -/
theorem putM_any (a : Option Addr) (m c : Nat) (x : Int) (k : Int) (l : List UInt8) (w : World) (hl : BAt w w.heap.size a m l) (hlen : m≤1099511627776) (h0 : 0≤x) (hx : x < 18446744073709551616) :
  Calls Tryz.prog 34 #[.slice a m c,.int .u64 x,.int .i64 k] w (NewB w (l ++ putB x.toNat (held k))):=by
 have h:=put_any a m c x.toNat k l w hl hlen (by omega)
 rw [Int.toNat_of_nonneg h0] at h
 exact h
end Go.Proofs.YtcfmifongbapkaaGreatDoor
