/- Contract of the document's Tells. Conditions: the bytes lie in memory, a million at most. Contracts of a law's all, and of the document's SameAll. Conditions: the records lie in memory. Contracts of the document's Add, Compact and Open on the pair's disks. -/
import Derived.Test.YtcfmifongbapkaaGreatDoorRZE
import Derived.Test.YtcfmifongbapkaaGreatDoorRZJ
import Derived.Test.YtcfmifongbapkaaGreatDoorRZH
namespace Go.Proofs.YtcfmifongbapkaaGreatDoor
set_option maxRecDepth 100000
set_option maxHeartbeats 8000000
open Go.RowKit
open Go.Lib (hid)
set_option linter.unusedVariables false
set_option linter.unusedSimpArgs false
theorem Tryz.kInfo47 : (Tryz.prog.info? 47).map (fun i=>(i.zero,i.size,i.bytes)) = some (some (.agg zeroRV),15,168):=by kernel_rfl
theorem RowAt.inS {W : World} {a : Option Addr} {n k : Nat} {xs : List Value} {S : Nat→Prop} (h : RowAt W W.heap.size a n k xs) (hn : InP S n a) : InP (fun b=>S b∧b < W.heap.size) n a:=by
 rcases h with ⟨_,h | ⟨b,off,rfl,hb,_⟩⟩
 ·exact .inl h
 ·rcases hn with hn | hn
  ·exact .inl hn
  ·exact .inr fun p e=>by injection e with e;subst e;exact ⟨hn _ rfl,hb⟩
theorem BAt.inS {W : World} {a : Option Addr} {n : Nat} {l : List UInt8} {S : Nat→Prop} (h : BAt W W.heap.size a n l) (hn : InP S n a) : InP (fun b=>S b∧b < W.heap.size) n a:=by
 rcases h with ⟨_,h | ⟨b,off,rfl,hb,_⟩⟩
 ·exact .inl h
 ·rcases hn with hn | hn
  ·exact .inl hn
  ·exact .inr fun p e=>by injection e with e;subst e;exact ⟨hn _ rfl,hb⟩
theorem RcAt.inS {W : World} {x : RcM} {L : RcL} {S : Nat→Prop} (h : RcAt W x L) (hn : InR S x) : InR (fun b=>S b∧b < W.heap.size) x:=⟨h.cm.tx.rds.2.inS hn.a,h.cm.tx.wrs.2.inS hn.b,h.da.inS hn.d⟩
/-- The list so far: a row from w's end on, its records in other blocks, from C on. -/
structure TellR (C : Nat) (w wr : World) (v : Value) (k : Nat) (D : List RE) : Prop where
 bel : Below w.heap.size w wr
 own : wr.ownsRow w.heap.size 47 15 v k (D.flatMap rcC)
 len : D.length = k
 all : ∀ z ∈ D,RcAt wr z.1 z.2∧RcF z.1∧InR (fun b=>C≤b∧v.ownBlock≠some b∧b < wr.heap.size) z.1
/-- What bytes tell, as the document has it. -/
def TellC (w : World) (C : Nat) (l : List UInt8) (e : Ending) (w' : World) : Prop :=
 ∃ a n c D,e = .returned (.tuple #[.slice a n c,.int .i64 ((tellN l : Nat) : Int)])∧Below w.heap.size w w'∧RcsAt w' a n D∧RcsIn (fun b=>C≤b∧b < w'.heap.size) a n D∧rcS D = tellB l∧n≤c∧c≤maxLen
section
variable {C : Nat} {w wr w1 : World} {v : Value} {k : Nat} {D : List RE}
theorem TellR.nil (w : World) : TellR C w w (.slice none 0 0) 0 []:=⟨Below.refl _ _,World.ownsRow_nil _ _ _ _,rfl,fun z hz=>by cases hz⟩
theorem TellR.below (h : TellR C w wr v k D) (hb : Below wr.heap.size wr w1) : TellR C w w1 v k D :=
 ⟨h.bel.trans (hb.mono h.bel.size),ownk_below h.own hb,h.len,fun z hz=>⟨(h.all z hz).1.later hb,(h.all z hz).2.1,(h.all z hz).2.2.mono fun b hb'=>⟨hb'.1,hb'.2.1,Nat.lt_of_lt_of_le hb'.2.2 hb.size⟩⟩⟩
/-- A record is added. -/
theorem TellR.push {w2 w3 : World} {v' : Value} {x : RcM} {L : RcL} (h : TellR C w wr v k D) (hb : Below wr.heap.size wr w2) (hX : RcAt w2 x L) (hF : RcF x) (hN : InR (fun b=>C≤b∧v.ownBlock≠some b) x)
  (ho : w3.ownsRow w.heap.size 47 15 v' (k + 1) (D.flatMap rcC ++ (rcV x).toList)) (hg : w2.grownBy w3 v.ownBlock) (hat : v'.ownBlock = v.ownBlock∨v'.ownBlock = some w2.heap.size) : TellR C w w3 v' (k + 1) (D ++ [(x,L)]):=by
 have h2:=h.below hb
 have hold : ∀ b,(v.ownBlock≠some b∧b < w2.heap.size)→b < w2.heap.size→w3.heap[b]? = w2.heap[b]?:=fun b hb' hlt=>hg.block b hlt fun e=>hb'.1 e.symm
 have hst : ∀ z : RE,RcAt w2 z.1 z.2→InR (fun b=>C≤b∧v.ownBlock≠some b∧b < w2.heap.size) z.1→RcAt w3 z.1 z.2∧InR (fun b=>C≤b∧v'.ownBlock≠some b∧b < w3.heap.size) z.1:=fun z h1 h3 =>
  ⟨h1.keepS h3 hg.size fun b hb' hlt=>hold b hb'.2 hlt,h3.mono fun b hb'=>⟨hb'.1,fun e=>by
   rcases hat with e1 | e1
   ·exact hb'.2.1 (e1.symm.trans e)
   ·rw [e1] at e;injection e with e;have:=hb'.2.2;omega,Nat.lt_of_lt_of_le hb'.2.2 hg.size⟩⟩
 have hx : InR (fun b=>C≤b∧v.ownBlock≠some b∧b < w2.heap.size) x:=(hX.inS hN).mono fun b hb'=>⟨hb'.1.1,hb'.1.2,hb'.2⟩
 refine ⟨⟨hg.os.trans h2.bel.os,hg.tape.trans h2.bel.tape,hg.output.trans h2.bel.output,Nat.le_trans h2.bel.size hg.size,fun b hb'=>(hg.block b (Nat.lt_of_lt_of_le hb' h2.bel.size) fun e=>by have:=(h2.own.lt b e.symm).1;omega).trans (h2.bel.block b hb')⟩,?_,by rw [List.length_append,h.len];rfl,fun z hz=>?_⟩
 ·have e : (D ++ [(x,L)]).flatMap rcC = D.flatMap rcC ++ (rcV x).toList:=by rw [List.flatMap_append];simp [rcC]
  rw [e];exact ho
 ·rcases List.mem_append.1 hz with hz | hz
  ·obtain ⟨a1,a2⟩:=hst z (h2.all z hz).1 (h2.all z hz).2.2
   exact ⟨a1,(h2.all z hz).2.1,a2⟩
  ·obtain rfl:=List.mem_singleton.1 hz
   obtain ⟨a1,a2⟩:=hst (x,L) hX hx
   exact ⟨a1,hF,a2⟩
theorem TellR.out {w0 w' : World} {u : Nat} {l : List UInt8} (h : TellR C w w' v k D) (h0 : Below w0.heap.size w0 w) (hC : C≤w0.heap.size) (e1 : rcS D = tellB l) (e2 : u = tellN l) : TellC w0 C l (.returned (.tuple #[v,.int .i64 (u : Int)])) w':=by
 obtain ⟨a,c,rfl,h1,h2⟩:=ownk_form h.own
 subst e2
 refine ⟨a,k,c,D,rfl,h0.trans (h.bel.mono h0.size),⟨h.len,RowAt.of_own h.own,fun z hz=>⟨(h.all z hz).1,(h.all z hz).2.1⟩⟩,⟨?_,fun z hz=>(h.all z hz).2.2.mono fun b hb=>⟨hb.1,hb.2.2⟩⟩,e1,h1,h2⟩
 exact .inr fun p e=>by
  subst e
  have h5:=h.own.lt p.block rfl
  exact ⟨Nat.le_trans hC (Nat.le_trans h0.size h5.1),h5.2⟩
theorem own_formk {W : World} {B e k n : Nat} {v : Value} {xs : List Value} (h : W.ownsRow B e k v n xs) (hn : 0 < n) : ∃ g cap,v = .slice (some ⟨g,0,none⟩) n cap∧B≤g∧g < W.heap.size:=by
 rcases h.2 with ⟨_,h1,_⟩ | ⟨g,cap,cur,hv,hb,hh,_⟩
 ·omega
 ·exact ⟨g,cap,hv,hb,lt_of_heap hh⟩
end
section
variable {C : Nat} {w0 w : World} {S : Nat→Prop} {a : Option Addr} {n c : Nat} {ls : List (List UInt8)}
theorem OwnRowsC.len (h : OwnRowsC C w0 w S (.slice a n c) n ls) : ls.length = n:=by
 obtain ⟨hB,xs,ho,he,_⟩:=h
 rw [← he.1,ho.1,Nat.mul_one]
/-- A body's slice. -/
theorem OwnRowsC.at_ (h : OwnRowsC C w0 w S (.slice a n c) n ls) {i : Nat} (hi : i < ls.length) : ∃ g a' m c',a = some ⟨g,0,none⟩∧BAt w w.heap.size a' m (ls[i]'hi)∧m≤c'∧c'≤maxLen∧(∀ p,a' = some p→C≤p.block)∧(0 < m→∀ p,a' = some p→S p.block)∧∀ W,Below w.heap.size w W→W.cell? ⟨g,i,none⟩ = some (.slice a' m c'):=by
 have hln:=h.len
 obtain ⟨hB,xs,ho,he,hcp⟩:=h
 obtain ⟨a',m,c',h1,h2,h3⟩:=he.2 i hi
 have hn : 0 < n:=by omega
 obtain ⟨g,cap,hv,hBg,hlt⟩:=own_formk ho hn
 have hA : a = some ⟨g,0,none⟩:=by injection hv
 subst hA
 have hc:=ho.cells (g:=g) rfl i _ h1
 rw [add_plain,Nat.zero_add] at hc
 obtain ⟨a2,m2,c2,e2,q1,q2,q3⟩:=hcp _ (List.mem_of_getElem? h1)
 injection e2 with e2 e3 e4
 subst e2;subst e3;subst e4
 refine ⟨g,a',m,c',rfl,h2,q1,q2,q3,fun hm p e=>?_,fun W hW=>?_⟩
 ·obtain ⟨b,off,e5,_⟩:=h2.addr hm
  rw [e5] at e;injection e with e;subst e
  exact (h3 b off e5 hm).1
 ·exact (World.cell?_of_block (hW.block g hlt)).trans hc
end
theorem tells_at {ls : List (List UInt8)} {j : Nat} (h : j < ls.length) : ls.drop j = ls[j] :: ls.drop (j + 1):=List.drop_eq_getElem_cons h
theorem tells_none {ls : List (List UInt8)} {j : Nat} (h : j < ls.length) (hr : readR ls[j] = none) : tells (ls.drop j) = []∧tellsN (ls.drop j) = 0:=by
 rw [tells_at h]
 exact ⟨by rw [tells,hr],by rw [tellsN,hr]⟩
theorem tells_some {ls : List (List UInt8)} {j : Nat} {x : Rc} (h : j < ls.length) (hr : readR ls[j] = some x) : tells (ls.drop j) = x :: tells (ls.drop (j + 1))∧tellsN (ls.drop j) = 8 + ls[j].length + tellsN (ls.drop (j + 1)):=by
 rw [tells_at h]
 exact ⟨by rw [tells,hr],by rw [tellsN,hr]⟩
theorem readR_nil : readR [] = none:=readR_none (by unfold rcP bindP numP;rfl)
theorem rTells_any (C : Nat) (a : Option Addr) (m c : Nat) (l : List UInt8) (w : World) (hl : BAt w w.heap.size a m l) (hN : ∀ p,a = some p→C≤p.block) (hC : C≤w.heap.size) (hmc : m≤c) (hcm : c≤maxLen) (hm : m≤1000000) :
  Calls Tryz.prog 99 #[.slice a m c] w (TellC w C l):=by
 obtain ⟨i0,hi,hz0,hz1,hz2⟩:=info_parts Tryz.kInfo47
 have cA:=refAll_any C a m c l w hl hN hmc hcm (by omega)
 have hlen:=hl.len
 have TL : Hid (tellN l≤1000000):=by have:=tellN_le l;unfold Hid;omega
 have SZ : Hid ((∀ b ∈ allB l,b.length≤60000)∧(allB l).length * 8≤l.length):=all_sizes l
 have HC:=hid hC
 have eB : tells (allB l) = tellB l:=rfl
 have eN : tellsN (allB l) = tellN l:=rfl
 have EB:=hid eB
 have EN:=hid eN
 clear hl hN hC eB eN
 go_enter Tryz.func99,Tryz.ntmps99
 go_upto_region 5 with (go_at_call 127;((with_reducible refine cA.mono ?_);rintro e w1 ⟨a1,n1,c1,rfl,hO⟩;have O1:=hid hO;have B1 : Hid (Below w.heap.size w w1):=hO.1;clear hO))
 have hn1 : (allB l).length = n1:=O1.out.len
 have hn2 : n1 * 8≤1000000:=by have:=SZ.out.2;omega
 have HN1:=hid hn1
 clear hn1 cA
 go_loopw [6,7,8] (fun v e i wr => ∃ (j u : Nat) (D : List RE),j≤n1∧u≤1000000∧e = .int .i64 u∧i = .int .i64 j∧rcS D ++ tells ((allB l).drop j) = tells (allB l)∧u + tellsN ((allB l).drop j) = tellsN (allB l)∧TellR C w1 wr v j D) (fun _ _ i _=>n1 - (intOf i).toNat)
 case atStart=>exact ⟨0,0,[],Nat.zero_le _,Nat.zero_le _,rfl,rfl,rfl,Nat.zero_add _,TellR.nil w1⟩
 case round =>
  obtain ⟨j,u,D,hj,hu,rfl,rfl,h1,h2,hR⟩:=hrel
  have HR0:=hid hR
  clear hR
  by_cases hlt : j < n1
  ·have i1 : ((j : Nat) : Int) < ((n1 : Nat) : Int):=by omega
   have hjl : j < (allB l).length:=by rw [HN1.out];exact hlt
   obtain ⟨g1,a2,m2,c2,rfl,hB2,hc2,hm2,hN2,hS2,hcell⟩:=O1.out.at_ hjl
   have HCell:=hid hcell
   have ld0:=HCell.out _ HR0.out.bel
   have hln2 : (allB l)[j].length = m2:=hB2.len
   have h60:=SZ.out.1 _ (List.getElem_mem hjl)
   have HB2 : Hid (∀ W,Below w1.heap.size w1 W→BAt W W.heap.size a2 m2 (allB l)[j]):=fun W hW=>(hB2.below hW (Nat.le_refl _)).more hW.size
   have hm26 : m2≤60000:=by omega
   cases hr : readR (allB l)[j] with
   | none =>
    obtain ⟨t1,t2⟩:=tells_none hjl hr
    rw [t1,List.append_nil] at h1
    rw [t2,Nat.add_zero] at h2
    have S1 : Hid (rcS D = tellB l):=h1.trans EB.out
    have S2 : Hid (u = tellN l):=h2.trans EN.out
    have cR : ∀ W,Below w1.heap.size w1 W→Calls Tryz.prog 14 #[.slice a2 m2 c2] W fun e w'=>e = .returned (.tuple #[.agg (rcV zeroR),.int .i64 2])∧Below W.heap.size W w':=fun W hW =>
     (rRead_any (fun _=>True) a2 m2 c2 _ W (HB2.out W hW) (fun _ _=>trivial) (fun _ _=>trivial) hc2 hm2 (by omega)).mono fun e w' h=>by
      rcases h with ⟨x,L,_,_,_,_,_,h6⟩ | ⟨h1,h2,_⟩
      ·rw [hr] at h6;cases h6
      ·exact ⟨h1,h2⟩
    clear hr t1 t2 h1 h2 hcell hB2 hN2 hS2 hln2 h60
    go_wp2_with (first | (go_at_call 14;((with_reducible refine (cR _ HR0.out.bel).mono ?_);rintro e w2 ⟨rfl,hb2⟩;have HR2:=hid (HR0.out.below hb2);have HM:=hid (made_r w2 zeroR);clear hb2)) | (refine wpList_store_r rfl _ _ rfl w2.heap.size zeroR rfl rfl zeroR HM.out.1 ?_))
    go_ret2
    exact (HR2.out.below HM.out.2.1).out B1.out HC.out S1.out S2.out
   | some y =>
    obtain ⟨t1,t2⟩:=tells_some hjl hr
    rw [t1] at h1
    rw [t2,hln2] at h2
    have hu2 : u + (8 + m2)≤1000000:=by have e1:=EN.out;have e2:=TL.out;omega
    have S1 : Hid ((rcS D ++ [y]) ++ tells ((allB l).drop (j + 1)) = tells (allB l)):=by unfold Hid;rw [List.append_assoc];exact h1
    have S2 : Hid (u + (8 + m2) + tellsN ((allB l).drop (j + 1)) = tellsN (allB l)):=by unfold Hid;omega
    have hpos : 0 < m2:=by
     rcases Nat.eq_zero_or_pos m2 with h0 | h0
     ·have e0 : (allB l)[j] = []:=List.eq_nil_of_length_eq_zero (by omega)
      rw [e0,readR_nil] at hr;cases hr
     ·exact h0
    have cR : ∀ W v,Below w1.heap.size w1 W→(∀ b,v.ownBlock = some b→w1.heap.size≤b∧b < W.heap.size)→Calls Tryz.prog 14 #[.slice a2 m2 c2] W fun e w' => ∃ x L,e = .returned (.tuple #[.agg (rcV x),.int .i64 0])∧Below W.heap.size W w'∧RcAt w' x L∧RcF x∧InR (fun b=>C≤b∧(v : Value).ownBlock≠some b) x∧y = rcT x L:=fun W v hW hv =>
     (rRead_any (fun b=>C≤b∧(v : Value).ownBlock≠some b) a2 m2 c2 _ W (HB2.out W hW) (fun p e=>⟨hN2 p e,fun e2=>by have q1:=(hS2 hpos p e).2;have q2:=(hv _ e2).1;have q3:=B1.out.size;omega⟩) (fun b hb=>⟨Nat.le_trans HC.out (Nat.le_trans B1.out.size (Nat.le_trans hW.size hb)),fun e2=>by have:=(hv _ e2).2;omega⟩) hc2 hm2 (by omega)).mono fun e w' h=>by
      rcases h with ⟨x,L,h1,h2,h3,h4,h5,h6⟩ | ⟨_,_,h6⟩
      ·rw [hr] at h6;injection h6 with h6;exact ⟨x,L,h1,h2,h3,h4,h5,h6⟩
      ·rw [hr] at h6;cases h6
    have hk8 : (j + 1) * 168≤140737488355328:=by omega
    have cR1:=cR _ u6 HR0.out.bel HR0.out.own.lt
    clear hr t1 t2 h1 h2 hcell hB2 hN2 hS2 hln2 h60 cR
    go_upto_region 10 with (first | (go_at_call 14;((with_reducible refine cR1.mono ?_);rintro e w2 ⟨x,Lx,rfl,hb2,hX,hF,hNx,hy⟩;have BB2:=hid hb2;have X2:=hid hX;have F2:=hid hF;have N2:=hid hNx;have Y2:=hid hy;have HM:=hid (made_r w2 x);clear hb2 hX hF hNx hy)) | (refine wpList_store_r rfl _ _ rfl w2.heap.size x rfl rfl zeroR HM.out.1 ?_))
    have M3 : Hid (Below wr.heap.size wr ((w2.alloc (.cells zeroRV 47)).setRow w2.heap.size (rcV x))∧RcAt ((w2.alloc (.cells zeroRV 47)).setRow w2.heap.size (rcV x)) x Lx):=⟨BB2.out.trans (HM.out.2.1.mono BB2.out.size),X2.out.later HM.out.2.1⟩
    have ldX:=HM.out.2.2.ldR (x:=x)
    clear BB2 X2 HM ld0
    generalize (w2.alloc (.cells zeroRV 47)).setRow w2.heap.size (rcV x) = W3 at *
    have PUSH : Hid (∀ V v' w3,Below W3.heap.size W3 V→w3.ownsRow w1.heap.size 47 15 v' (j + 1) (D.flatMap rcC ++ (rcV x).toList)→V.grownBy w3 u6.ownBlock→(v'.ownBlock = u6.ownBlock∨v'.ownBlock = some V.heap.size)→TellR C w1 w3 v' (j + 1) (D ++ [(x,Lx)])):=fun V v' w3 hV ho hg hat=>HR0.out.push (M3.out.1.trans (hV.mono M3.out.1.size)) (M3.out.2.later hV) F2.out N2.out ho hg hat
    have OWN : Hid (∀ V,Below W3.heap.size W3 V→V.ownsRow w1.heap.size 47 15 u6 j (D.flatMap rcC)):=fun V hV=>ownk_below HR0.out.own (M3.out.1.trans (hV.mono M3.out.1.size))
    have SZ2 : Hid (w1.heap.size≤W3.heap.size):=Nat.le_trans HR0.out.bel.size M3.out.1.size
    have bA : Hid (Below W3.heap.size W3 (W3.alloc (.cells (rcV x) 47))):=(Below.refl _ _).alloc (Nat.le_refl _) _
    clear HR0 M3 F2 N2
    go_upto_region 11 with (at_builtin;(refine wpList_append_rowk _ rfl _ _ 114 rfl w1.heap.size 47 i0 (.agg zeroRV) 15 168 Tryz.underlying114 hi hz0 hz1 hz2 rfl (by omega) u6 j (D.flatMap rcC) rfl (OWN.out _ bA.out) (W3.heap.size + 1) (some ⟨W3.heap.size,0,none⟩) 1 1 (rcV x).toList rfl (RowAt.one W3 (rcV x) 47) (by simp [Value.oneCell']) (by unfold maxLen;omega) (by omega) (by have:=SZ2.out;simp;omega) ?_;intro v' w4 ho4 hg4 hat4;have R4:=hid (PUSH.out _ _ _ bA.out ho4 hg4 hat4);have ld1:=HCell.out _ R4.out.bel;clear ho4 hg4 hat4))
    go_wp2
    go_roundw
    case rel=>exact ⟨j + 1,u + (8 + m2),D ++ [(x,Lx)],by omega,hu2,by go_num,by go_num,by rw [rcS_app];have:=S1.out;rw [Y2.out] at this;exact this,S2.out,R4.out⟩
    case measure=>simp [intOf];omega
  ·have i1 : ¬ ((j : Nat) : Int) < ((n1 : Nat) : Int):=by omega
   rw [List.drop_eq_nil_of_le (by rw [HN1.out];omega)] at h1 h2
   have S1 : Hid (rcS D = tellB l):=by unfold Hid;rw [← EB.out,← h1];simp [tells]
   have S2 : Hid (u = tellN l):=by unfold Hid;rw [← EN.out,← h2];simp [tellsN]
   clear h1 h2
   go_wp2
   go_ret2
   exact HR0.out.out B1.out HC.out S1.out S2.out
theorem cells_ldR {w : World} {b off : Nat} {x : RcM} (h : ∀ j u,(rcV x).toList[j]? = some u→w.cell? ⟨b,off + j,none⟩ = some u) : (Go.Proofs.YtcfmifongbapkaaGreatDoor.ldR (.pointer (some ⟨b,off,none⟩))).run Tryz.prog w = .ok (.agg (rcV x)) w:=by
 have x0 : w.cell? ⟨b,off,none⟩ = some (.int .i64 x.k):=h 0 _ rfl
 have x1:=h 1 _ rfl;have x2:=h 2 _ rfl;have x3:=h 3 _ rfl;have x4:=h 4 _ rfl;have x5:=h 5 _ rfl;have x6:=h 6 _ rfl;have x7:=h 7 _ rfl;have x8:=h 8 _ rfl;have x9:=h 9 _ rfl;have x10:=h 10 _ rfl;have x11:=h 11 _ rfl;have x12:=h 12 _ rfl;have x13:=h 13 _ rfl;have x14:=h 14 _ rfl
 show (Instr.loadAt 47 (.pointer (some ⟨b,off,none⟩))).run Tryz.prog w = _
 simp only [Instr.loadAt,Instr.sureAddr,Sem.run_bind,Sem.run_pure,Result.andThen_ok]
 simp [go_sem,Tryz.underlying47,x0,x1,x2,x3,x4,x5,x6,x7,x8,x9,x10,x11,x12,x13,x14]
theorem RcsAt.atR {W : World} {a : Option Addr} {n : Nat} {L : List RE} (h : RcsAt W a n L) {i : Nat} (hi : i < L.length) : ∃ b0 off,a = some ⟨b0,off,none⟩∧∀ W',Below W.heap.size W W'→(Go.Proofs.YtcfmifongbapkaaGreatDoor.ldR (.pointer (some ⟨b0,off + i * 15,none⟩))).run Tryz.prog W' = .ok (.agg (rcV (L[i]'hi).1)) W':=by
 obtain ⟨b0,off,ha,hb,hc⟩:=h.row.addr (by have:=h.len;omega)
 have key : ∀ W',Below W.heap.size W W'→∀ (j : Nat) (u : Value),(rcV (L[i]'hi).1).toList[j]? = some u→W'.cell? ⟨b0,off + i * 15 + j,none⟩ = some u:=fun W' hW j u hu=>by
  have hj : j < 15:=(List.getElem?_eq_some_iff.1 hu).1
  have h1:=hc (i * 15 + j) u (by rw [flat_get rcC 15 rcC_len L i j hi hj];exact hu)
  rw [Nat.add_assoc]
  exact (World.cell?_of_block (hW.block b0 hb)).trans h1
 exact ⟨b0,off,ha,fun W' hW=>cells_ldR (key W' hW)⟩
/-- The copies so far. -/
structure AllR (w wr : World) (v : Value) (j : Nat) (L : List RE) : Prop where
 bel : Below w.heap.size w wr
 own : wr.ownsRow w.heap.size 47 15 v j ((L.take j).flatMap rcC)
theorem AllR.push {w wr w2 w3 : World} {v v' : Value} {j : Nat} {L : List RE} (h : AllR w wr v j L) (hj : j < L.length) (hb : Below wr.heap.size wr w2)
  (ho : w3.ownsRow w.heap.size 47 15 v' (j + 1) ((L.take j).flatMap rcC ++ (rcV (L[j]'hj).1).toList)) (hg : w2.grownBy w3 v.ownBlock) : AllR w w3 v' (j + 1) L:=by
 have h2 : Below w.heap.size w w2:=h.bel.trans (hb.mono h.bel.size)
 refine ⟨⟨hg.os.trans h2.os,hg.tape.trans h2.tape,hg.output.trans h2.output,Nat.le_trans h2.size hg.size,fun b hb'=>(hg.block b (Nat.lt_of_lt_of_le hb' h2.size) fun e=>by have:=(h.own.lt b e.symm).1;omega).trans (h2.block b hb')⟩,?_⟩
 have e : (L.take (j + 1)).flatMap rcC = (L.take j).flatMap rcC ++ (rcV (L[j]'hj).1).toList:=by
  rw [List.take_succ_eq_append_getElem hj,List.flatMap_append];simp [rcC]
 rw [e];exact ho
theorem all_recs (a : Option Addr) (n c : Nat) (L : List RE) (w : World) (h : RcsAt w a n L) (hn : n≤1000000) (hnc : n≤c) (hcm : c≤maxLen) :
  Calls Tryz.prog 59 #[.slice a n c] w fun e w' => ∃ a' c',e = .returned (.slice a' n c')∧Below w.heap.size w w'∧RcsAt w' a' n L∧n≤c'∧c'≤maxLen:=by
 obtain ⟨i0,hi,hz0,hz1,hz2⟩:=info_parts Tryz.kInfo47
 have hln:=h.len
 have H:=hid h
 have HLN:=hid hln
 unfold maxLen at hcm
 clear h hln
 go_enter Tryz.func59,Tryz.ntmps59
 go_upto_region 3 with (fail)
 go_loopw [3,4] (fun v y wr => ∃ j : Nat,y = .int .i64 j∧j≤n∧AllR w wr v j L) (fun _ y _=>n - (intOf y).toNat)
 case atStart=>exact ⟨0,rfl,Nat.zero_le _,⟨Below.refl _ _,World.ownsRow_nil _ _ _ _⟩⟩
 case round =>
  obtain ⟨j,rfl,hj,hR⟩:=hrel
  have HR0:=hid hR
  clear hR
  by_cases h1 : j < n
  ·have i1 : ((j : Nat) : Int) < ((n : Nat) : Int):=by omega
   have hjl : j < L.length:=by rw [HLN.out];exact h1
   obtain ⟨b0,off,rfl,hb0,LD0⟩:=H.out.raw.at_ hjl
   have ld:=(LD0 _ HR0.out.bel).1
   have PUSH : Hid (∀ w2 v' w3,Below wr.heap.size wr w2→w3.ownsRow w.heap.size 47 15 v' (j + 1) ((L.take j).flatMap rcC ++ (rcV (L[j]'hjl).1).toList)→w2.grownBy w3 u3.ownBlock→AllR w w3 v' (j + 1) L):=fun w2 v' w3 hb ho hg=>HR0.out.push hjl hb ho hg
   have OWN : Hid (∀ V,Below wr.heap.size wr V→V.ownsRow w.heap.size 47 15 u3 j ((L.take j).flatMap rcC)):=fun V hV=>ownk_below HR0.out.own hV
   have SZ : Hid (w.heap.size≤wr.heap.size):=HR0.out.bel.size
   have cP:=fun W=>plain_any L[j].1 W
   clear LD0 HR0
   generalize L[j] = z at *
   go_wp2_with (first | (go_at_call 12;((with_reducible refine (cP _).mono ?_);rintro e w2 ⟨rfl,hb2⟩;have B2:=hid hb2;have bA : Hid (Below wr.heap.size wr (w2.alloc (.cells (rcV z.1) 47))):=hb2.trans ((Below.refl _ _).alloc hb2.size _);clear hb2)) | (at_builtin;(refine wpList_append_rowk _ rfl _ _ 114 rfl w.heap.size 47 i0 (.agg zeroRV) 15 168 Tryz.underlying114 hi hz0 hz1 hz2 rfl (by omega) u3 j ((L.take j).flatMap rcC) rfl (OWN.out _ bA.out) (w2.heap.size + 1) (some ⟨w2.heap.size,0,none⟩) 1 1 (rcV z.1).toList rfl (RowAt.one w2 (rcV z.1) 47) (by simp [Value.oneCell']) (by unfold maxLen;omega) (by omega) (by have:=SZ.out;have:=B2.out.size;simp;omega) ?_;intro v' w4 ho4 hg4 hat4;have R4:=hid (PUSH.out _ _ _ bA.out ho4 hg4);clear ho4 hg4 hat4)))
   go_roundw
   case rel=>exact ⟨j + 1,by go_num,h1,R4.out⟩
   case measure=>simp [intOf];omega
  ·have i1 : ¬ ((j : Nat) : Int) < ((n : Nat) : Int):=by omega
   obtain rfl : j = n:=by omega
   have hO:=HR0.out.own
   rw [List.take_of_length_le (by rw [HLN.out];exact Nat.le_refl _)] at hO
   obtain ⟨a',c',rfl,hc1,hc2⟩:=ownk_form hO
   have RS : Hid (RcsAt wr a' j L):=⟨HLN.out,RowAt.of_own hO,fun z hz=>⟨(H.out.all z hz).1.later HR0.out.bel,(H.out.all z hz).2⟩⟩
   clear hO
   go_wp2
   go_ret
   exact ⟨a',c',rfl,HR0.out.bel,RS.out,hc1,hc2⟩
theorem sameAll_yes (a a' : Option Addr) (n n' c c' : Nat) (L L' : List RE) (w : World) (h : RcsAt w a n L) (h' : RcsAt w a' n' L') (he : rcS L = rcS L') (hnc : n≤c) (hcm : c≤maxLen) :
  Calls Tryz.prog 62 #[.slice a n c,.slice a' n' c'] w (Says w true):=by
 have hln:=h.len
 have hle : L.length = L'.length:=by have:=congrArg List.length he;rwa [rcS_len,rcS_len] at this
 obtain rfl : n = n':=by rw [← hln,hle,h'.len]
 have H:=hid h
 have H':=hid h'
 have HLN:=hid hln
 have HLE:=hid hle
 have HE:=hid he
 unfold maxLen at hcm
 clear h h' hln hle he
 go_enter Tryz.func62,Tryz.ntmps62
 go_upto_region 4 with (fail)
 go_loopw [5] (fun y wr => ∃ j : Nat,y = .int .i64 j∧j≤n∧Below w.heap.size w wr) (fun y _=>n - (intOf y).toNat)
 case atStart=>exact ⟨0,rfl,Nat.zero_le _,Below.refl _ _⟩
 case round =>
  obtain ⟨i,rfl,hi,hB⟩:=hrel
  have BR:=hid hB
  clear hB
  by_cases h1 : i < n
  ·have i1 : ((i : Nat) : Int) < ((n : Nat) : Int):=by omega
   have hil : i < L.length:=by rw [HLN.out];exact h1
   have hil' : i < L'.length:=by rw [← HLE.out];exact hil
   obtain ⟨b0,off,rfl,LD0⟩:=H.out.atR hil
   obtain ⟨b1,off1,rfl,LD1⟩:=H'.out.atR hil'
   have hX:=H.out.all _ (List.getElem_mem hil)
   have hX':=H'.out.all _ (List.getElem_mem hil')
   have e1 : (rcS L)[i]'(by rw [rcS_len];exact hil) = rcT L[i].1 L[i].2:=by simp [rcS]
   have e2 : (rcS L')[i]'(by rw [rcS_len];exact hil') = rcT L'[i].1 L'[i].2:=by simp [rcS]
   have e3 : rcT L[i].1 L[i].2 = rcT L'[i].1 L'[i].2:=by rw [← e1,← e2];simp only [HE.out]
   have LD : Hid (∀ W,Below w.heap.size w W→(Go.Proofs.YtcfmifongbapkaaGreatDoor.ldR (.pointer (some ⟨b0,off + i * 15,none⟩))).run Tryz.prog W = .ok (.agg (rcV L[i].1)) W∧(Go.Proofs.YtcfmifongbapkaaGreatDoor.ldR (.pointer (some ⟨b1,off1 + i * 15,none⟩))).run Tryz.prog W = .ok (.agg (rcV L'[i].1)) W):=fun W hW=>⟨LD0 W hW,LD1 W hW⟩
   have cS : ∀ W,Below w.heap.size w W→Calls Tryz.prog 18 #[.agg (rcV L[i].1),.agg (rcV L'[i].1)] W (Says W true):=fun W hW=>by
    have h3:=rSameR_any L[i].1 L'[i].1 L[i].2 L'[i].2 W (hX.1.later hW) (hX'.1.later hW) hX.2 hX'.2
    rw [(sameR_iff _ _ _ _).2 e3] at h3;exact h3
   clear LD0 LD1 hX hX' e1 e2 e3
   generalize L[i] = z at *
   generalize L'[i] = z' at *
   go_upto_region 6 with (fail)
   have X0 : Hid (Below w.heap.size w wr.drew):=below_drewN 1 BR.out
   have s0:=LD.out _ X0.out
   go_region_held3 (fun W=>((Go.Proofs.YtcfmifongbapkaaGreatDoor.ldR (.pointer (some ⟨b0,off + i * 15,none⟩))).run Tryz.prog W = .ok (.agg (rcV z.1)) W∧(Go.Proofs.YtcfmifongbapkaaGreatDoor.ldR (.pointer (some ⟨b1,off1 + i * 15,none⟩))).run Tryz.prog W = .ok (.agg (rcV z'.1)) W)) (first | (with_reducible exact s0) | (with_reducible exact s1))
    (first | (go_at_call 18;((with_reducible refine (cS _ X0.out).mono ?_);rintro e v1 ⟨rfl,hb1⟩;have X1:=hid (X0.out.trans (hb1.mono X0.out.size));have s1:=LD.out _ X1.out;clear hb1)))
   go_wp2
   go_roundw
   case rel=>exact ⟨i + 1,by go_num,h1,X1.out⟩
   case measure=>simp [intOf];omega
  ·have i1 : ¬ ((i : Nat) : Int) < ((n : Nat) : Int):=by omega
   go_wp2
   go_ret
   exact ⟨rfl,BR.out⟩
section
variable {W V V' : World} {g h : Nat} {d e : Dk} {L : Bxd}
theorem Duo.hlt (T : Duo W V g h d e L) : h < V.heap.size:=by
 obtain ⟨o1,o2,_,h2,_⟩:=T
 have h3:=h2.lt
 obtain ⟨vl,vr,vh,_,rfl⟩:=h2
 exact h3 h (List.mem_cons_self ..)
theorem dAppendV {a : Option Addr} {n c : Nat} {l : List UInt8} (T : Duo W V g h d e L) (hl : e.fuse < 9223372036854775808) (hM : BndD e 1099511627776) (hb : BAt V V.heap.size a n l) (hn : n≤1099511627776) (hf : ∀ b off,a = some ⟨b,off,none⟩→0 < n→b≠h) :
  Calls Tryz.prog 64 #[.pointer (some ⟨h,0,none⟩),.slice a n c] V fun x w'=>x = .returned (.int .i64 (appE e l))∧Duo W w' g h d (appD e l) L:=by
 obtain ⟨o1,o2,h1,h2,h3,h4,h5,h6⟩:=T
 exact (rappend_any h2 hl hM.1 hb hn hf).mono fun x w' ⟨hx,o',k1,k2,k3⟩=>⟨hx,Duo.onR h1 h2 h3 h4 h5 h6 k1 k2 k3⟩
theorem dReplaceV {a : Option Addr} {n c : Nat} {l : List UInt8} (T : Duo W V g h d e L) (hl : e.fuse < 9223372036854775808) (hb : BAt V V.heap.size a n l) (hn : n≤1099511627776) :
  Calls Tryz.prog 98 #[.pointer (some ⟨h,0,none⟩),.slice a n c] V fun x w'=>x = .returned (.int .i64 (repE e l))∧Duo W w' g h d (repD e l) L:=by
 obtain ⟨o1,o2,h1,h2,h3,h4,h5,h6⟩:=T
 exact (rreplace_any h2 hl hb hn).mono fun x w' ⟨hx,o',k1,k2,k3⟩=>⟨hx,Duo.onR h1 h2 h3 h4 h5 h6 k1 k2 k3⟩
theorem dAdd {x : RcM} {Lx : RcL} (T : Duo W V g h d e L) (hl : e.fuse < 9223372036854775808) (hM : BndD e 1099511627776) (hX : RcAt V x Lx) (hF : RcF x) :
  Calls Tryz.prog 56 #[.pointer (some ⟨h,0,none⟩),.agg (rcV x)] V fun y w'=>y = .returned (.int .i64 (addE e (rcT x Lx)))∧Duo W w' g h d (addD e (rcT x Lx)) L:=by
 have H0:=hid ((Boxs.start V).more (rcV x) 47)
 have TT:=hid T
 have xR:=(H0.out.get 0 _ _ _ rfl).ldR (x:=x)
 have cF:=fun X (hX' : Below V.heap.size V X)=>rFormed13_any x Lx X (hX.later hX') hF
 unfold addE addD
 cases hf : formR (rcT x Lx)
 ·rw [hf] at cF
  rw [if_neg (by decide),if_neg (by decide)]
  clear hX hF hf T hl hM
  go_enter Tryz.func56,Tryz.ntmps56
  go_wp2_with (go_at_call 16;((with_reducible refine (cF _ H0.out.bel).mono ?_);rintro e w1 ⟨rfl,hb1⟩;have H1:=hid (H0.out.below hb1)))
  go_ret
  exact ⟨rfl,TT.out.later H1.out.bel⟩
 ·rw [hf] at cF
  have cW:=fun X (hX' : Below V.heap.size V X)=>rFrame_yes x Lx X (hX.later hX') hF hf
  have hmx:=(rcB_max ((formR_iff _).1 hf)).2
  have hfl:=frameB_len (rcB (rcT x Lx))
  have hh:=T.hlt
  rw [if_pos rfl,if_pos rfl]
  have cA : ∀ W1 a n c B,Duo W W1 g h d e L→W1.ownsRow B 5 1 (.slice a n c) n (bcells (frameB (rcB (rcT x Lx))))→V.heap.size≤B→n≤1099511627776→Calls Tryz.prog 64 #[.pointer (some ⟨h,0,none⟩),.slice a n c] W1 fun e' w'=>e' = .returned (.int .i64 (appE e (frameB (rcB (rcT x Lx)))))∧Duo W w' g h d (appD e (frameB (rcB (rcT x Lx)))) L:=fun W1 a n c B h1 h2 hB h3 =>
   dAppendV h1 hl hM (BAt.of_own h2) h3 fun b off ha _=>by
    subst ha
    have:=own_block h2 b rfl
    omega
  clear hX hF hf T hl hM hh
  generalize rcB (rcT x Lx) = B at *
  generalize frameB B = F at *
  go_enter Tryz.func56,Tryz.ntmps56
  go_wp2_with (first | (go_at_call 16;((with_reducible refine (cF _ H0.out.bel).mono ?_);rintro e w1 ⟨rfl,hb1⟩;have H1:=hid (H0.out.below hb1);clear xR;have xR:=(H1.out.get 0 _ _ _ rfl).ldR (x:=x);clear hb1)) | (go_at_call 96;((with_reducible refine (cW _ H1.out.bel).mono ?_);rintro e w2 ⟨a2,n2,c2,rfl,ho2,hb2⟩;have O2:=hid ho2;have hn2:=own_len ho2;have T2:=hid (TT.out.later (H1.out.below hb2).bel);clear ho2 hb2)) | (go_at_call 64;((with_reducible refine (cA _ _ _ _ _ T2.out O2.out H1.out.bel.size (by omega)).mono ?_);rintro e w3 ⟨rfl,h3⟩;have T3:=hid h3;clear h3)))
  go_ret
  exact ⟨rfl,T3.out⟩
theorem dCompact {a : Option Addr} {n c : Nat} {D : List RE} (T : Duo W V g h d e L) (hl : e.fuse < 9223372036854775808) (hD : RcsAt V a n D) (hn : n≤1000) (hnc : n≤c) (hcm : c≤maxLen) :
  Calls Tryz.prog 58 #[.pointer (some ⟨h,0,none⟩),.slice a n c] V fun y w'=>y = .returned (.int .i64 (cmpE e D))∧Duo W w' g h d (cmpD e D) L:=by
 obtain ⟨i0,hi,hz0,hz1,hz2⟩:=info_parts Tryz.info5
 have hln:=hD.len
 have HL:=hid hD
 have HLN:=hid hln
 have TT:=hid T
 have HF:=hid hl
 have hcm':=hcm
 unfold maxLen at hcm'
 clear hD T hl hln
 go_enter Tryz.func58,Tryz.ntmps58
 go_upto_region 3 with (fail)
 go_loopw [5,6] (fun v y wr => ∃ (i m : Nat),y = .int .i64 i∧i≤n∧m≤i * 60008∧(∀ z ∈ D.take i,formR (rcT z.1 z.2) = true)∧PutIn V wr v m (catR ((rcS D).take i))) (fun _ y _=>n - (intOf y).toNat)
 case atStart=>exact ⟨0,0,rfl,Nat.zero_le _,Nat.zero_le _,(fun z hz=>by simp at hz),⟨World.ownsRow_nil _ _ _ _,Below.refl _ _⟩⟩
 case round =>
  obtain ⟨i,m,rfl,hi0,hm,hFo,hP⟩:=hrel
  have PI:=hid hP
  have FR:=hid hFo
  obtain ⟨a0,c0,rfl⟩:=hP.form
  clear hP hFo
  by_cases h1 : i < n
  ·have i1 : ((i : Nat) : Int) < (n : Int):=by omega
   have hiL : i < D.length:=by rw [HLN.out];exact h1
   obtain ⟨b0,off,rfl,LD0⟩:=HL.out.atR hiL
   have LD:=hid LD0
   have ld:=LD.out _ PI.out.bel
   have hZ:=HL.out.all _ (List.getElem_mem hiL)
   have eG:=rcS_get D i hiL
   have eN:=catR_next (rcS D) i (by rw [rcS_len];exact hiL)
   rw [eG] at eN
   have hmem : ∀ z ∈ D.take (i + 1),z ∈ D.take i∨z = D[i]:=fun z hz=>by
    rw [List.take_succ_eq_append_getElem hiL] at hz
    exact (List.mem_append.1 hz).imp id List.mem_singleton.1
   have FN : Hid (formR (rcT D[i].1 D[i].2) = true→∀ z ∈ D.take (i + 1),formR (rcT z.1 z.2) = true):=fun hf z hz=>(hmem z hz).elim (FR.out z) fun e=>by rw [e];exact hf
   have NO : Hid (formR (rcT D[i].1 D[i].2) = false→allF D = false):=fun hf=>allF_no fun hall=>by rw [hall _ (List.getElem_mem hiL)] at hf;cases hf
   have cF:=fun X (hX : Below V.heap.size V X)=>rFormed13_any D[i].1 D[i].2 X (hZ.1.later hX) hZ.2
   have EN:=hid eN
   have cW0:=fun X (hX : Below V.heap.size V X) (hf : formR (rcT D[i].1 D[i].2) = true)=>rFrame_yes D[i].1 D[i].2 X (hZ.1.later hX) hZ.2 hf
   have MX : Hid (formR (rcT D[i].1 D[i].2) = true→(frameB (rcB (rcT D[i].1 D[i].2))).length≤60008):=fun hf=>by have:=(rcB_max ((formR_iff _).1 hf)).2;rw [frameB_len];omega
   clear eG eN hmem hZ LD0
   generalize D[i] = z at *
   cases hf : formR (rcT z.1 z.2)
   ·rw [hf] at cF
    have AF:=hid (NO.out hf)
    clear hf NO cW0 FN MX EN
    go_wp2_with (go_at_call 16;((with_reducible refine (cF _ PI.out.bel).mono ?_);rintro e' w1 ⟨rfl,hb1⟩;have P1:=hid (PI.out.below hb1);clear hb1))
    go_ret
    refine ⟨?_,?_⟩
    ·unfold cmpE;rw [AF.out];rfl
    ·unfold cmpD;rw [AF.out];exact TT.out.later P1.out.bel
   ·rw [hf] at cF
    have hF60:=MX.out hf
    have F4:=hid (FN.out hf)
    have cW:=fun X (hX : Below V.heap.size V X)=>cW0 X hX hf
    clear hf NO cW0 FN MX
    generalize rcB (rcT z.1 z.2) = B at *
    generalize frameB B = F at *
    generalize catR ((rcS D).take i) = C0 at *
    go_wp2_with (first | (go_at_call 16;((with_reducible refine (cF _ PI.out.bel).mono ?_);rintro e' w1 ⟨rfl,hb1⟩;have P1:=hid (PI.out.below hb1);clear ld;have ld:=LD.out _ P1.out.bel;clear hb1)) | (go_at_call 96;((with_reducible refine (cW _ P1.out.bel).mono ?_);rintro e' w2 ⟨a2,n2,c2,rfl,ho2,hb2⟩;have P2:=hid (P1.out.below hb2);have hn2:=own_len ho2;have L2:=hid (BAt.of_own ho2);clear ho2 hb2)) | (at_builtin;(refine wpList_append_bytes _ rfl _ _ 34 rfl V.heap.size 5 i0 Tryz.underlying34 hi hz0 hz1 hz2 _ m C0 rfl P2.out.own w2.heap.size a2 n2 F c2 rfl L2.out (by omega) P2.out.bel.size ?_;intro v3 w3 ho3 hg3;have R:=hid (P2.out.next0 ho3 hg3);clear ho3 hg3)))
    go_roundw
    case rel=>exact ⟨i + 1,m + n2,by go_num,h1,by omega,F4.out,R.out.cast EN.out.symm⟩
    case measure=>simp [intOf];omega
  ·have i1 : ¬ ((i : Nat) : Int) < (n : Int):=by omega
   obtain rfl : i = n:=by omega
   have eT : (rcS D).take i = rcS D:=List.take_of_length_le (by rw [rcS_len,HLN.out];exact Nat.le_refl _)
   have eT2 : D.take i = D:=List.take_of_length_le (by rw [HLN.out];exact Nat.le_refl _)
   have FA:=FR.out
   rw [eT2] at FA
   have AF:=hid (allF_yes FA)
   have cR:=dReplaceV (c:=c0) (TT.out.later PI.out.bel) HF.out (by have:=PI.out.bat;rw [eT] at this;exact this) (by omega)
   clear eT eT2 FA FR
   go_wp2_with (go_at_call 98;((with_reducible refine cR.mono ?_);rintro e' w3 ⟨rfl,h3⟩;have Q3:=hid h3;clear h3))
   go_ret
   refine ⟨?_,?_⟩
   ·unfold cmpE;rw [AF.out];rfl
   ·unfold cmpD;rw [AF.out];exact Q3.out
theorem DuoL.at_below {P : World→Prop} (T : DuoL W V g h d e L P) (hb : Below V.heap.size V V') : P V':=by
 obtain ⟨o1,o2,h1,h2,h3,h4,h5,h6,h7⟩:=T
 exact h7 V' (Fr.of_below hb)
theorem DuoL.repl {P : World→Prop} {V2 : World} {a : Option Addr} {n c : Nat} {l : List UInt8} (T : DuoL W V g h d e L P) (hb : Below V.heap.size V V2) (hl : e.fuse < 9223372036854775808) (hb2 : BAt V2 V2.heap.size a n l) (hn : n≤1099511627776) :
  Calls Tryz.prog 98 #[.pointer (some ⟨h,0,none⟩),.slice a n c] V2 fun x w'=>x = .returned (.int .i64 (repE e l))∧Duo W w' g h d (repD e l) L∧P w'∧∀ a' n' D,RcsAt V2 a' n' D→RcsIn (fun b=>V.heap.size≤b∧b < V2.heap.size) a' n' D→RcsAt w' a' n' D:=by
 have T2:=T.duo.later hb
 obtain ⟨p1,p2,h1,h2,h3,h4,h5,h6,h7⟩:=T
 have g1:=h1.below hb
 have g2:=h2.below hb
 refine (rreplace_any g2 hl hb2 hn).mono fun x w' ⟨hx,o',k1,k2,k3⟩=>⟨hx,Duo.onR g1 g2 (h3.trans (hb.mono h3.size)) h4 h5 (fun b hm=>⟨(h6 b hm).1.below hb,(h6 b hm).2⟩) k1 k2 k3,h7 w' ((Fr.of_below hb).trans k2 fun i hi=>.inl hi),fun a' n' D hD hI=>hD.keepS hI k2.size fun b hb' hlt=>k2.block b hlt fun e=>by have:=h2.lt b e;have:=hb'.1;omega⟩
theorem dOpen {P : World→Prop} (T : DuoL W V g h d e L P) (hl : e.fuse < 9223372036854775808) (hM : BndD e 1000000) :
  Calls Tryz.prog 61 #[.pointer (some ⟨h,0,none⟩)] V fun y w' => ∃ a n c D,y = .returned (.tuple #[.slice a n c,.int .i64 (opnE e)])∧Duo W w' g h d (opnD e) L∧P w'∧RcsAt w' a n D∧rcS D = opnL e∧n≤c∧c≤maxLen:=by
 obtain ⟨vl,vr,vh,hR⟩:=T.duo.rbox
 have y4:=hR.box.seven.2.2.2.2.1
 have TT:=hid T
 cases hd : e.down
 rotate_left
 ·rw [hd] at y4
  have eE : opnE e = 8:=by unfold opnE;rw [if_pos hd]
  have eD : opnD e = e:=by unfold opnD;rw [if_pos hd]
  have eL : opnL e = []:=by unfold opnL;rw [eE];rfl
  rw [eE,eD,eL]
  clear eE eD eL hl hM T hd hR
  go_enter Tryz.func61,Tryz.ntmps61
  go_wp2
  go_ret2
  exact ⟨none,0,0,[],rfl,TT.out.duo,TT.out.get,(RcsOwn.nil 0 V).at_,rfl,Nat.le_refl _,by unfold maxLen;omega⟩
 rw [hd] at y4
 have cB:=rbytes_any hR (by have:=hM.1;omega)
 have hln2 : (opnB e).length≤1000000:=by unfold opnB;rw [List.length_append];exact hM.1
 have hle:=tellN_le (opnB e)
 have hN : e.la ++ e.re = opnB e:=rfl
 rw [hN] at cB
 have cT : ∀ W1 a n c,Below V.heap.size V W1→W1.ownsRow V.heap.size 5 1 (.slice a n c) n (bcells (opnB e))→Calls Tryz.prog 99 #[.slice a n c] W1 (TellC W1 V.heap.size (opnB e)):=fun W1 a n c hW ho=>by
  obtain ⟨q1,q2⟩:=own_caps ho
  exact rTells_any V.heap.size a n c (opnB e) W1 (BAt.of_own ho) (fun p e=>own_block ho p.block (by rw [e];rfl)) hW.size q1 q2 (by rw [← own_len ho];exact hln2)
 have cR : ∀ V2 a n c,Below V.heap.size V V2→BAt V2 V2.heap.size a n ((opnB e).take (tellN (opnB e)))→n≤1099511627776→Calls Tryz.prog 98 #[.pointer (some ⟨h,0,none⟩),.slice a n c] V2 fun x w'=>x = .returned (.int .i64 (repE e ((opnB e).take (tellN (opnB e)))))∧Duo W w' g h d (repD e ((opnB e).take (tellN (opnB e)))) L∧P w'∧∀ a' n' D,RcsAt V2 a' n' D→RcsIn (fun b=>V.heap.size≤b∧b < V2.heap.size) a' n' D→RcsAt w' a' n' D:=fun V2 a n c hb h2 h3=>TT.out.repl hb hl h2 h3
 have eE : opnE e = if tellN (opnB e) = (opnB e).length then 0 else repE e ((opnB e).take (tellN (opnB e))):=by unfold opnE;rw [hd];rfl
 have eD : opnD e = if tellN (opnB e) = (opnB e).length then e else repD e ((opnB e).take (tellN (opnB e))):=by unfold opnD;rw [hd];rfl
 have eL : opnL e = if opnE e = 0 then tellB (opnB e) else []:=rfl
 rw [eE] at eL
 rw [eE,eD,eL]
 clear eE eD eL hM T hd hN hl hR
 generalize repE e ((opnB e).take (tellN (opnB e))) = E at *
 generalize repD e ((opnB e).take (tellN (opnB e))) = D' at *
 generalize opnB e = B at *
 by_cases hu : tellN B = B.length
 ·rw [if_pos hu,if_pos hu,if_pos rfl]
  have iu : ¬ ((B.length : Nat) : Int) < ((B.length : Nat) : Int):=by omega
  clear cR hle
  go_enter Tryz.func61,Tryz.ntmps61
  go_upto_region 4 with (go_at_call 25;((with_reducible refine cB.mono ?_);rintro e' w1 ⟨a1,n1,c1,rfl,ho1,hb1⟩;have cT1:=cT _ _ _ _ hb1 ho1;have hn1:=own_len ho1;have B1:=hid hb1;clear ho1 hb1))
  obtain rfl : n1 = B.length:=by omega
  have HU:=hid hu
  clear hu cT hn1
  generalize B.length = z at *
  go_wp2_with (go_at_call 99;((with_reducible refine cT1.mono ?_);rintro e' w2 ⟨a2,n2,c2,D,rfl,hb2,hD2,hI2,hS2,hc2,hm2⟩;rw [HU.out];have B2:=hid (B1.out.trans (hb2.mono B1.out.size));have DD:=hid hD2;have SS:=hid hS2;clear hb2 hD2 hI2 hS2))
  go_ret2
  exact ⟨a2,n2,c2,D,by first | rfl | simp [*],TT.out.duo.later B2.out,TT.out.at_below B2.out,DD.out,SS.out,hc2,hm2⟩
 ·rw [if_neg hu,if_neg hu]
  have hlt : tellN B < B.length:=by omega
  have hT : Hid (∀ W1 a n,BAt W1 W1.heap.size a n B→BAt W1 W1.heap.size a (tellN B) (B.take (tellN B))):=fun W1 a n h=>h.take (by have:=h.len;omega)
  generalize hz : tellN B = z at *
  have HZ:=hid hz
  clear hz
  by_cases hE : E = 0
  ·subst hE
   rw [if_pos rfl]
   go_enter Tryz.func61,Tryz.ntmps61
   go_upto_region 4 with (go_at_call 25;((with_reducible refine cB.mono ?_);rintro e' w1 ⟨a1,n1,c1,rfl,ho1,hb1⟩;have cT1:=cT _ _ _ _ hb1 ho1;have hn1:=own_len ho1;have hcap:=own_caps ho1;have L1:=hid (BAt.of_own ho1);have B1:=hid hb1;clear ho1 hb1))
   obtain rfl : n1 = B.length:=by omega
   obtain ⟨b1,off1,rfl,_⟩:=L1.out.addr (by omega)
   have hq1 : ((z : Nat) : Int) < ((B.length : Nat) : Int):=by omega
   have hzc : z≤c1:=by have:=hcap.1;omega
   have hz4 : z≤1099511627776:=by omega
   clear hu hn1 cT hle hcap
   go_upto_region 7 with (first | (go_at_call 99;((with_reducible refine cT1.mono ?_);rintro e' w2 ⟨a2,n2,c2,D,rfl,hb2,hD2,hI2,hS2,hc2,hm2⟩;rw [HZ.out];have B2:=hid (B1.out.trans (hb2.mono B1.out.size));have L2:=hid (hT.out _ _ _ ((L1.out.below hb2 (Nat.le_refl _)).more hb2.size));have DD:=hid hD2;have II:=hid hI2;have SS:=hid hS2;clear hb2 hD2 hI2 hS2)) | (go_at_call 98;((with_reducible refine (cR _ _ _ _ B2.out L2.out hz4).mono ?_);rintro e' w3 ⟨rfl,h3,hp3,hk3⟩;have T3:=hid h3;have P3:=hid hp3;have D3:=hid (hk3 _ _ _ DD.out II.out);clear h3 hp3 hk3)))
   go_wp2
   go_ret2
   exact ⟨a2,n2,c2,D,by first | rfl | simp [*],T3.out,P3.out,D3.out,SS.out,hc2,hm2⟩
  ·rw [if_neg hE]
   have q1 : (E != 0) = true:=by simp [hE]
   have q2 : (E == 0) = false:=by simp [hE]
   go_enter Tryz.func61,Tryz.ntmps61
   go_upto_region 4 with (go_at_call 25;((with_reducible refine cB.mono ?_);rintro e' w1 ⟨a1,n1,c1,rfl,ho1,hb1⟩;have cT1:=cT _ _ _ _ hb1 ho1;have hn1:=own_len ho1;have hcap:=own_caps ho1;have L1:=hid (BAt.of_own ho1);have B1:=hid hb1;clear ho1 hb1))
   obtain rfl : n1 = B.length:=by omega
   obtain ⟨b1,off1,rfl,_⟩:=L1.out.addr (by omega)
   have hq1 : ((z : Nat) : Int) < ((B.length : Nat) : Int):=by omega
   have hzc : z≤c1:=by have:=hcap.1;omega
   have hz4 : z≤1099511627776:=by omega
   clear hu hn1 cT hle hcap
   go_upto_region 7 with (first | (go_at_call 99;((with_reducible refine cT1.mono ?_);rintro e' w2 ⟨a2,n2,c2,D,rfl,hb2,hD2,hI2,hS2,hc2,hm2⟩;rw [HZ.out];have B2:=hid (B1.out.trans (hb2.mono B1.out.size));have L2:=hid (hT.out _ _ _ ((L1.out.below hb2 (Nat.le_refl _)).more hb2.size));clear hb2 hD2 hI2 hS2)) | (go_at_call 98;((with_reducible refine (cR _ _ _ _ B2.out L2.out hz4).mono ?_);rintro e' w3 ⟨rfl,h3,hp3,hk3⟩;have T3:=hid h3;have P3:=hid hp3;clear h3 hp3 hk3)))
   go_wp2
   go_ret2
   exact ⟨none,0,0,[],by first | rfl | simp [*],T3.out,P3.out,(RcsOwn.nil 0 w3).at_,rfl,Nat.le_refl _,by unfold maxLen;omega⟩
end
end Go.Proofs.YtcfmifongbapkaaGreatDoor
