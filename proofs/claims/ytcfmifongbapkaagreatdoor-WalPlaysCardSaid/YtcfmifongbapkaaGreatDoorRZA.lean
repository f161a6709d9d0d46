/- Contract of wal.takeFields. Conditions: the reader lies in memory, and has no more than a million bytes left; the tables of utf8 lie there. Whether a reader is at its end, as a state. Conditions: the reader lies in memory. Contract of wal.Read. Conditions: the bytes lie in memory, a million at most; the tables of utf8 lie there. -/
import Derived.Test.YtcfmifongbapkaaGreatDoorRY
import Derived.Test.YtcfmifongbapkaaGreatDoorCommandTake
import Derived.Laws.ResultCell
import Derived.Test.YtcfmifongbapkaaGreatDoorRF
import Derived.Test.YtcfmifongbapkaaGreatDoorRA
import Derived.Test.YtcfmifongbapkaaGreatDoorRR
namespace Go.Proofs.YtcfmifongbapkaaGreatDoor
set_option maxRecDepth 100000
set_option maxHeartbeats 8000000
open Go.RowKit
open Go.Lib (hid)
set_option linter.unusedVariables false
set_option linter.unusedSimpArgs false
/-- A box of the call's own is filled anew. -/
theorem RdO.fillK {rd : World→Prop} {g : Nat} [Keep g rd] {w W : World} {G : Nat} {cs : Array Value} {t : TypeId} {bs : List (Nat×Array Value×TypeId)} (h : RdO rd g w W ((G,cs,t) :: bs) []) (hl : ∀ b ∈ bs,b.1≠G) (ds : Array Value) : RdO rd g w (W.setRow G ds) ((G,ds,t) :: bs) []:=by
 have hG:=h.2.1 (G,cs,t) (List.mem_cons_self ..)
 have hg:=h.gt
 have hb : ∀ b,b < w.heap.size→(W.setRow G ds).heap[b]? = W.heap[b]?:=fun b hb=>setRow_other W G b ds (by have:=hG.1;show b≠G;omega)
 refine ⟨⟨Keep.keep (g:=g) W _ h.rdr fun b hb'=>hb b (by omega),⟨h.onl.os,h.onl.tape,h.onl.output,by rw [setRow_size];exact h.onl.size,fun b hb' hne=>(hb b hb').trans (h.onl.block b hb' hne)⟩,h.gt⟩,fun b hb=>?_,(fun s hs=>by cases hs),.nil⟩
 rcases List.mem_cons.1 hb with rfl | hb
 ·exact ⟨hG.1,hG.2.fill ds⟩
 ·exact ⟨(h.2.1 b (List.mem_cons_of_mem _ hb)).1,(setRow_other W G b.1 ds (hl b hb)).trans (h.2.1 b (List.mem_cons_of_mem _ hb)).2⟩
/-- Ten cells of a box of fifteen are written. -/
theorem RdO.cmd15 {rd : World→Prop} {g : Nat} [Keep g rd] {w W : World} {G : Nat} {u0 u1 u2 u3 u4 u5 u6 u7 u8 u9 u10 u11 u12 u13 u14 : Value} {t : TypeId} {bs : List (Nat×Array Value×TypeId)} (h : RdO rd g w W ((G,#[u0,u1,u2,u3,u4,u5,u6,u7,u8,u9,u10,u11,u12,u13,u14],t) :: bs) []) (hl : ∀ b ∈ bs,b.1≠G) (v4 v5 v6 v7 v8 v9 v10 v11 v12 v13 : Value) :
  RdO rd g w ((((((((((W.setCell ⟨G,4,Option.none⟩ v4).setCell ⟨G,5,Option.none⟩ v5).setCell ⟨G,6,Option.none⟩ v6).setCell ⟨G,7,Option.none⟩ v7).setCell ⟨G,8,Option.none⟩ v8).setCell ⟨G,9,Option.none⟩ v9).setCell ⟨G,10,Option.none⟩ v10).setCell ⟨G,11,Option.none⟩ v11).setCell ⟨G,12,Option.none⟩ v12).setCell ⟨G,13,Option.none⟩ v13) ((G,#[u0,u1,u2,u3,v4,v5,v6,v7,v8,v9,v10,v11,v12,v13,u14],t) :: bs) []:=by
 have h4 : RdO rd g w (W.setCell ⟨G,4,Option.none⟩ v4) ((G,#[u0,u1,u2,u3,v4,u5,u6,u7,u8,u9,u10,u11,u12,u13,u14],t) :: bs) []:=h.set hl 4 v4
 have h5 : RdO rd g w ((W.setCell ⟨G,4,Option.none⟩ v4).setCell ⟨G,5,Option.none⟩ v5) ((G,#[u0,u1,u2,u3,v4,v5,u6,u7,u8,u9,u10,u11,u12,u13,u14],t) :: bs) []:=h4.set hl 5 v5
 have h6 : RdO rd g w (((W.setCell ⟨G,4,Option.none⟩ v4).setCell ⟨G,5,Option.none⟩ v5).setCell ⟨G,6,Option.none⟩ v6) ((G,#[u0,u1,u2,u3,v4,v5,v6,u7,u8,u9,u10,u11,u12,u13,u14],t) :: bs) []:=h5.set hl 6 v6
 have h7 : RdO rd g w ((((W.setCell ⟨G,4,Option.none⟩ v4).setCell ⟨G,5,Option.none⟩ v5).setCell ⟨G,6,Option.none⟩ v6).setCell ⟨G,7,Option.none⟩ v7) ((G,#[u0,u1,u2,u3,v4,v5,v6,v7,u8,u9,u10,u11,u12,u13,u14],t) :: bs) []:=h6.set hl 7 v7
 have h8 : RdO rd g w (((((W.setCell ⟨G,4,Option.none⟩ v4).setCell ⟨G,5,Option.none⟩ v5).setCell ⟨G,6,Option.none⟩ v6).setCell ⟨G,7,Option.none⟩ v7).setCell ⟨G,8,Option.none⟩ v8) ((G,#[u0,u1,u2,u3,v4,v5,v6,v7,v8,u9,u10,u11,u12,u13,u14],t) :: bs) []:=h7.set hl 8 v8
 have h9 : RdO rd g w ((((((W.setCell ⟨G,4,Option.none⟩ v4).setCell ⟨G,5,Option.none⟩ v5).setCell ⟨G,6,Option.none⟩ v6).setCell ⟨G,7,Option.none⟩ v7).setCell ⟨G,8,Option.none⟩ v8).setCell ⟨G,9,Option.none⟩ v9) ((G,#[u0,u1,u2,u3,v4,v5,v6,v7,v8,v9,u10,u11,u12,u13,u14],t) :: bs) []:=h8.set hl 9 v9
 have h10 : RdO rd g w (((((((W.setCell ⟨G,4,Option.none⟩ v4).setCell ⟨G,5,Option.none⟩ v5).setCell ⟨G,6,Option.none⟩ v6).setCell ⟨G,7,Option.none⟩ v7).setCell ⟨G,8,Option.none⟩ v8).setCell ⟨G,9,Option.none⟩ v9).setCell ⟨G,10,Option.none⟩ v10) ((G,#[u0,u1,u2,u3,v4,v5,v6,v7,v8,v9,v10,u11,u12,u13,u14],t) :: bs) []:=h9.set hl 10 v10
 have h11 : RdO rd g w ((((((((W.setCell ⟨G,4,Option.none⟩ v4).setCell ⟨G,5,Option.none⟩ v5).setCell ⟨G,6,Option.none⟩ v6).setCell ⟨G,7,Option.none⟩ v7).setCell ⟨G,8,Option.none⟩ v8).setCell ⟨G,9,Option.none⟩ v9).setCell ⟨G,10,Option.none⟩ v10).setCell ⟨G,11,Option.none⟩ v11) ((G,#[u0,u1,u2,u3,v4,v5,v6,v7,v8,v9,v10,v11,u12,u13,u14],t) :: bs) []:=h10.set hl 11 v11
 have h12 : RdO rd g w (((((((((W.setCell ⟨G,4,Option.none⟩ v4).setCell ⟨G,5,Option.none⟩ v5).setCell ⟨G,6,Option.none⟩ v6).setCell ⟨G,7,Option.none⟩ v7).setCell ⟨G,8,Option.none⟩ v8).setCell ⟨G,9,Option.none⟩ v9).setCell ⟨G,10,Option.none⟩ v10).setCell ⟨G,11,Option.none⟩ v11).setCell ⟨G,12,Option.none⟩ v12) ((G,#[u0,u1,u2,u3,v4,v5,v6,v7,v8,v9,v10,v11,v12,u13,u14],t) :: bs) []:=h11.set hl 12 v12
 have h13 : RdO rd g w ((((((((((W.setCell ⟨G,4,Option.none⟩ v4).setCell ⟨G,5,Option.none⟩ v5).setCell ⟨G,6,Option.none⟩ v6).setCell ⟨G,7,Option.none⟩ v7).setCell ⟨G,8,Option.none⟩ v8).setCell ⟨G,9,Option.none⟩ v9).setCell ⟨G,10,Option.none⟩ v10).setCell ⟨G,11,Option.none⟩ v11).setCell ⟨G,12,Option.none⟩ v12).setCell ⟨G,13,Option.none⟩ v13) ((G,#[u0,u1,u2,u3,v4,v5,v6,v7,v8,v9,v10,v11,v12,v13,u14],t) :: bs) []:=h12.set hl 13 v13
 exact h13
/-- A record is taken, formed or not. -/
def GotRc (g : Nat) (st : St) (w : World) (e : Ending) (w' : World) : Prop :=
 ∃ (x : RcM) (L : RcL) (st' : St),e = .returned (.agg (rcV x))∧RS g st' w'∧Only g w w'∧RcAt w' x L∧RcF x∧NewRc w.heap.size x∧Res rcP st (rcT x L) st'
section
variable {st st1 st2 st3 st4 : St}
theorem rc_one {k r : Nat} {n : Int} (h1 : Res (numP 1) st k st1) (hk : k = 1) (h2 : Res balQ st1 (((r : Nat) : Int),n) st2) : Res rcP st ⟨(k : Int),(((r : Nat) : Int),n),0,zeroC,[]⟩ st2:=by
 subst hk
 refine Res.bind (x:=1) h1 ?_
 show Res (bindP balQ fun b=>pureP (⟨1,b,0,zeroC,[]⟩ : Rc)) st1 _ st2
 exact Res.bind h2 (Res.pure _ _)
theorem rc_two {k r z : Nat} {n : Int} {c : Cm} (h1 : Res (numP 1) st k st1) (hk : k = 2) (h2 : Res balQ st1 (((r : Nat) : Int),n) st2) (h3 : Res (numP 4) st2 z st3) (h4 : Res cmF st3 c st4) : Res rcP st ⟨(k : Int),(((r : Nat) : Int),n),((z : Nat) : Int),c,[]⟩ st4:=by
 subst hk
 refine Res.bind (x:=2) h1 ?_
 show Res (bindP balQ fun b=>bindP (numI 4) fun s=>bindP cmF fun c=>pureP (⟨2,b,s,c,[]⟩ : Rc)) st1 _ st4
 exact Res.bind h2 (Res.bind (res_numI h3) (Res.bind h4 (Res.pure _ _)))
theorem rc_three {k z : Nat} {c : Cm} (h1 : Res (numP 1) st k st1) (hk : k = 3) (h3 : Res (numP 4) st1 z st3) (h4 : Res cmF st3 c st4) : Res rcP st ⟨(k : Int),(0,0),((z : Nat) : Int),c,[]⟩ st4:=by
 subst hk
 refine Res.bind (x:=3) h1 ?_
 show Res (bindP (numI 4) fun s=>bindP cmF fun c=>pureP (⟨3,(0,0),s,c,[]⟩ : Rc)) st1 _ st4
 exact Res.bind (res_numI h3) (Res.bind h4 (Res.pure _ _))
theorem rc_four {k z : Nat} {d : List UInt8} (h1 : Res (numP 1) st k st1) (hk : k = 4) (h3 : Res (numP 4) st1 z st3) (h4 : Res dataR st3 d st4) : Res rcP st ⟨(k : Int),(0,0),((z : Nat) : Int),zeroC,d⟩ st4:=by
 subst hk
 refine Res.bind (x:=4) h1 ?_
 show Res (bindP (numI 4) fun s=>bindP dataR fun d=>pureP (⟨4,(0,0),s,zeroC,d⟩ : Rc)) st1 _ st4
 exact Res.bind (res_numI h3) (Res.bind h4 (Res.pure _ _))
theorem rc_none {k : Nat} (h1 : Res (numP 1) st k st1) (n1 : ¬ k = 1) (n2 : ¬ k = 2) (n3 : ¬ k = 3) (n4 : ¬ k = 4) : Res rcP st ⟨(k : Int),(0,0),0,zeroC,[]⟩ st1:=by
 refine Res.bind (x:=k) h1 ?_
 unfold rcTail
 rw [if_neg n1,if_neg n2,if_neg n3,if_neg n4]
 exact Res.pure _ _
theorem left_num {k n m : Nat} (h : Res (numP k) st n st1) (hb : ∀ l,st = some l→l.length≤m) : ∀ l,st1 = some l→l.length≤m:=by
 intro l e
 rcases h with ⟨l',r,rfl,hp,rfl⟩ | ⟨_,rfl⟩
 ·injection e with e;subst e
  unfold numP at hp
  split at hp
  ·injection hp with hp;injection hp with h1 h2
   subst h2
   have:=hb l' rfl
   rw [List.length_drop];omega
  ·cases hp
 ·cases e
end
theorem wTakeFields_any (g : Nat) (st : St) (w : World) (h : RS g st w) (hb : ∀ l,st = some l→l.length≤1000000) (hU : Tabs w) :
  Calls Tryz.prog 43 #[.pointer (some ⟨g,0,none⟩)] w (GotRc g st w):=by
 have hlt:=h.lt
 have H0:=hid ((RdO.start h hlt).more zeroRV 36)
 obtain ⟨l0,ok0,hrd0⟩:=h.rd
 have HT : Hid (∀ W,Only g w W→Tabs W):=fun W ho=>hU.only hrd0 ho
 have HB:=hid hb
 have c1 : ∀ s W,RS g s W→Calls Tryz.prog 80 #[.pointer (some ⟨g,0,none⟩),.int .i64 1] W (Took1 (RS g) g numV (numP 1) 0 s W):=fun s W h=>takeS_any g 1 s W h (by omega)
 clear h hrd0 hU hb
 go_enter Tryz.func43,Tryz.ntmps43
 go_upto_region 2 with (first | (go_at_call 80;((with_reducible refine (c1 _ _ H0.out.rdr).mono ?_);rintro e w1 ⟨k,st1,rfl,hr1,ho1,hR1,hz1⟩;have H1:=hid (H0.out.only hr1 ho1);have R1:=hid hR1;have hk : k < 256:=num_lt hR1 hz1 (by decide);have ek:=wrap_i64 k (by omega);have HZ : Hid (BoxC (w1.alloc (.cells zeroRV 36)) w1.heap.size (rcV zeroR) 36):=BoxC.new w1 zeroRV 36;clear hr1 ho1 hR1 hz1)) | (refine wpList_store_k rfl _ _ rfl w1.heap.size ⟨k,0,0,0,zeroM,none,0,0⟩ rfl rfl zeroR HZ.out ?_))
 have hG : w.heap.size < w1.heap.size:=(H1.out.get 0 _ _ _ rfl).lt
 have hl1 : ∀ x ∈ ([(w.heap.size,rcV zeroR,36)] : List (Nat×Array Value×TypeId)),x.1≠w1.heap.size:=by simp;omega
 have H2 : Hid (RdO (RS g st1) g w ((w1.alloc (.cells zeroRV 36)).setRow w1.heap.size (rcV ⟨k,0,0,0,zeroM,none,0,0⟩)) [(w1.heap.size,rcV ⟨k,0,0,0,zeroM,none,0,0⟩,36),(w.heap.size,rcV zeroR,36)] []):=(H1.out.more zeroRV 36).fillK hl1 _
 clear H0 H1 HZ
 generalize (w1.alloc (.cells zeroRV 36)).setRow w1.heap.size (rcV ⟨k,0,0,0,zeroM,none,0,0⟩) = W2 at *
 generalize w1.heap.size = G at *
 have hgG : g≠G:=by omega
 have hgw : g≠w.heap.size:=by omega
 have x0 : W2.cell? ⟨G,0,none⟩ = some (.int .i64 ((k : Nat) : Int)):=(H2.out.get 0 _ _ _ rfl).cell 0 _ rfl
 by_cases h1 : k = 1
 ·have q1 : (((k : Nat) : Int) == 1) = true:=by simp;omega
  have K1:=hid h1
  clear h1
  go_upto_region 15 with (go_at_call 81;((with_reducible refine (bTakeS_any g _ _ H2.out.rdr).mono ?_);rintro e v3 ⟨r,n,t3,rfl,hr,ho,hR,hlt1⟩;have H3:=hid (H2.out.only hr ho);have R3:=hid hR;have BR:=hid hlt1;have y1:=(H3.out.get 0 _ _ _ rfl).cell 1 _ rfl;have f1:=(H3.out.get 0 _ _ _ rfl).frozen 1;have y2:=(H3.out.get 0 _ _ _ rfl).cell 2 _ rfl;have f2:=(H3.out.get 0 _ _ _ rfl).frozen 2;clear hr ho hR hlt1))
  have H4 : Hid (RdO (RS g t3) g w ((v3.setCell ⟨G,1,none⟩ (.int .u32 ((r : Nat) : Int))).setCell ⟨G,2,none⟩ (.int .i64 n)) [(G,rcV ⟨k,r,n,0,zeroM,none,0,0⟩,36),(w.heap.size,rcV zeroR,36)] []):=((H3.out.set hl1 1 (.int .u32 ((r : Nat) : Int))).set hl1 2 (.int .i64 n))
  clear H2 H3 x0 y1 f1 y2 f2
  generalize ((v3.setCell ⟨G,1,none⟩ (.int .u32 ((r : Nat) : Int))).setCell ⟨G,2,none⟩ (.int .i64 n)) = V4 at *
  have x0 : V4.cell? ⟨G,0,none⟩ = some (.int .i64 ((k : Nat) : Int)):=(H4.out.get 0 _ _ _ rfl).cell 0 _ rfl
  have ldX:=(H4.out.get 0 _ _ _ rfl).ldK (x:=⟨k,r,n,0,zeroM,none,0,0⟩)
  have HZ:=H4.out.get 1 _ _ _ rfl
  have hl2 : ∀ x ∈ ([(G,rcV ⟨k,r,n,0,zeroM,none,0,0⟩,36)] : List (Nat×Array Value×TypeId)),x.1≠w.heap.size:=by simp;omega
  go_wp2_with (refine wpList_store_k rfl _ _ rfl w.heap.size ⟨k,r,n,0,zeroM,none,0,0⟩ rfl rfl zeroR HZ ?_)
  have F:=H4.out.swap.fillK hl2 (rcV ⟨k,r,n,0,zeroM,none,0,0⟩)
  have z0:=(F.get 0 _ _ _ rfl).cell 0 _ rfl;have z1:=(F.get 0 _ _ _ rfl).cell 1 _ rfl;have z2:=(F.get 0 _ _ _ rfl).cell 2 _ rfl;have z3:=(F.get 0 _ _ _ rfl).cell 3 _ rfl;have z4:=(F.get 0 _ _ _ rfl).cell 4 _ rfl;have z5:=(F.get 0 _ _ _ rfl).cell 5 _ rfl;have z6:=(F.get 0 _ _ _ rfl).cell 6 _ rfl;have z7:=(F.get 0 _ _ _ rfl).cell 7 _ rfl;have z8:=(F.get 0 _ _ _ rfl).cell 8 _ rfl;have z9:=(F.get 0 _ _ _ rfl).cell 9 _ rfl;have z10:=(F.get 0 _ _ _ rfl).cell 10 _ rfl;have z11:=(F.get 0 _ _ _ rfl).cell 11 _ rfl;have z12:=(F.get 0 _ _ _ rfl).cell 12 _ rfl;have z13:=(F.get 0 _ _ _ rfl).cell 13 _ rfl;have z14:=(F.get 0 _ _ _ rfl).cell 14 _ rfl
  exact bodyPost_ret (v:=.agg (rcV ⟨k,r,n,0,zeroM,none,0,0⟩)) (by simp [results,Tryz.results43,go_sem,z0,z1,z2,z3,z4,z5,z6,z7,z8,z9,z10,z11,z12,z13,z14]) rfl ⟨⟨k,r,n,0,zeroM,none,0,0⟩,noLR,t3,rfl,F.rdr,F.onl,⟨CmAt.zero,BAt.nil,BR.out⟩,⟨Nat.zero_le _,Nat.zero_le _,Nat.zero_le _⟩,⟨NewP.none _,NewP.none _,NewP.none _⟩,rc_one R1.out K1.out R3.out⟩
 by_cases h2 : k = 2
 ·have q1 : (((k : Nat) : Int) == 1) = false:=by simp;omega
  have q2 : (((k : Nat) : Int) == 2) = true:=by simp;omega
  have K1:=hid h2
  clear h2
  go_upto_region 7 with (go_at_call 81;((with_reducible refine (bTakeS_any g _ _ H2.out.rdr).mono ?_);rintro e v3 ⟨r,n,t3,rfl,hr,ho,hR,hlt1⟩;have H3:=hid (H2.out.only hr ho);have R3:=hid hR;have BR:=hid hlt1;have y1:=(H3.out.get 0 _ _ _ rfl).cell 1 _ rfl;have f1:=(H3.out.get 0 _ _ _ rfl).frozen 1;have y2:=(H3.out.get 0 _ _ _ rfl).cell 2 _ rfl;have f2:=(H3.out.get 0 _ _ _ rfl).frozen 2;clear hr ho hR hlt1))
  have H4 : Hid (RdO (RS g t3) g w ((v3.setCell ⟨G,1,none⟩ (.int .u32 ((r : Nat) : Int))).setCell ⟨G,2,none⟩ (.int .i64 n)) [(G,rcV ⟨k,r,n,0,zeroM,none,0,0⟩,36),(w.heap.size,rcV zeroR,36)] []):=((H3.out.set hl1 1 (.int .u32 ((r : Nat) : Int))).set hl1 2 (.int .i64 n))
  clear H2 H3 x0 y1 f1 y2 f2
  generalize ((v3.setCell ⟨G,1,none⟩ (.int .u32 ((r : Nat) : Int))).setCell ⟨G,2,none⟩ (.int .i64 n)) = V4 at *
  have x0 : V4.cell? ⟨G,0,none⟩ = some (.int .i64 ((k : Nat) : Int)):=(H4.out.get 0 _ _ _ rfl).cell 0 _ rfl
  go_upto_region 8 with (go_at_call 82;((with_reducible refine (wTakeSlot_any g _ _ H4.out.rdr).mono ?_);rintro e v5 ⟨z,t5,rfl,hr,ho,hR,hz⟩;have H5:=hid (H4.out.only hr ho);have R5:=hid hR;have y3:=(H5.out.get 0 _ _ _ rfl).cell 3 _ rfl;have f3:=(H5.out.get 0 _ _ _ rfl).frozen 3;clear hr ho hR))
  have H6 : Hid (RdO (RS g t5) g w (v5.setCell ⟨G,3,none⟩ (.int .i64 ((z : Nat) : Int))) [(G,rcV ⟨k,r,n,z,zeroM,none,0,0⟩,36),(w.heap.size,rcV zeroR,36)] []):=(H5.out.set hl1 3 (.int .i64 ((z : Nat) : Int)))
  clear H4 H5 x0 y3 f3
  generalize (v5.setCell ⟨G,3,none⟩ (.int .i64 ((z : Nat) : Int))) = V6 at *
  have x0 : V6.cell? ⟨G,0,none⟩ = some (.int .i64 ((k : Nat) : Int)):=(H6.out.get 0 _ _ _ rfl).cell 0 _ rfl
  go_upto_region 15 with (go_at_call 83;((with_reducible refine (kTake_any g _ _ H6.out.rdr (HT.out _ H6.out.onl)).mono ?_);rintro e v7 ⟨c,rs,ws,t7,rfl,hr,ho,hX,⟨hn1,na,nb⟩,hR,hz0⟩;have H7:=hid (H6.out.only hr ho);have R7:=hid hR;have CX:=hid hX;have CN : Hid (NewP V6.heap.size c.a∧NewP V6.heap.size c.b):=⟨na,nb⟩;have y4:=(H7.out.get 0 _ _ _ rfl).cell 4 _ rfl;have f4:=(H7.out.get 0 _ _ _ rfl).frozen 4;have y5:=(H7.out.get 0 _ _ _ rfl).cell 5 _ rfl;have f5:=(H7.out.get 0 _ _ _ rfl).frozen 5;have y6:=(H7.out.get 0 _ _ _ rfl).cell 6 _ rfl;have f6:=(H7.out.get 0 _ _ _ rfl).frozen 6;have y7:=(H7.out.get 0 _ _ _ rfl).cell 7 _ rfl;have f7:=(H7.out.get 0 _ _ _ rfl).frozen 7;have y8:=(H7.out.get 0 _ _ _ rfl).cell 8 _ rfl;have f8:=(H7.out.get 0 _ _ _ rfl).frozen 8;have y9:=(H7.out.get 0 _ _ _ rfl).cell 9 _ rfl;have f9:=(H7.out.get 0 _ _ _ rfl).frozen 9;have y10:=(H7.out.get 0 _ _ _ rfl).cell 10 _ rfl;have f10:=(H7.out.get 0 _ _ _ rfl).frozen 10;have y11:=(H7.out.get 0 _ _ _ rfl).cell 11 _ rfl;have f11:=(H7.out.get 0 _ _ _ rfl).frozen 11;have y12:=(H7.out.get 0 _ _ _ rfl).cell 12 _ rfl;have f12:=(H7.out.get 0 _ _ _ rfl).frozen 12;have y13:=(H7.out.get 0 _ _ _ rfl).cell 13 _ rfl;have f13:=(H7.out.get 0 _ _ _ rfl).frozen 13;clear hr ho hR hX na nb hz0))
  have H8 : Hid (RdO (RS g t7) g w ((((((((((v7.setCell ⟨G,4,none⟩ (.int .i64 c.k)).setCell ⟨G,5,none⟩ (.int .i64 c.s)).setCell ⟨G,6,none⟩ (.int .i64 c.q)).setCell ⟨G,7,none⟩ (.slice c.a c.n c.c)).setCell ⟨G,8,none⟩ (.slice c.b c.m c.d)).setCell ⟨G,9,none⟩ (.int .i64 c.i)).setCell ⟨G,10,none⟩ (.int .i64 c.j)).setCell ⟨G,11,none⟩ (.int .i64 c.g)).setCell ⟨G,12,none⟩ (.int .u64 ((c.st : Nat) : Int))).setCell ⟨G,13,none⟩ (.bool c.y)) [(G,rcV ⟨k,r,n,z,c,none,0,0⟩,36),(w.heap.size,rcV zeroR,36)] []):=(RdO.cmd15 H7.out hl1 (.int .i64 c.k) (.int .i64 c.s) (.int .i64 c.q) (.slice c.a c.n c.c) (.slice c.b c.m c.d) (.int .i64 c.i) (.int .i64 c.j) (.int .i64 c.g) (.int .u64 ((c.st : Nat) : Int)) (.bool c.y))
  have HG2 : Hid (G < V6.heap.size):=(H6.out.get 0 _ _ _ rfl).lt
  have CY : Hid (CmAt ((((((((((v7.setCell ⟨G,4,none⟩ (.int .i64 c.k)).setCell ⟨G,5,none⟩ (.int .i64 c.s)).setCell ⟨G,6,none⟩ (.int .i64 c.q)).setCell ⟨G,7,none⟩ (.slice c.a c.n c.c)).setCell ⟨G,8,none⟩ (.slice c.b c.m c.d)).setCell ⟨G,9,none⟩ (.int .i64 c.i)).setCell ⟨G,10,none⟩ (.int .i64 c.j)).setCell ⟨G,11,none⟩ (.int .i64 c.g)).setCell ⟨G,12,none⟩ (.int .u64 ((c.st : Nat) : Int))).setCell ⟨G,13,none⟩ (.bool c.y)) c rs ws):=CX.out.far (B:=V6.heap.size) CN.out.1 CN.out.2 (by simp [World.setCell]) (fun b hb _=>by rw [Below.heap_setCell _ _ _ _ (by show b≠G;have:=HG2.out;omega)];rw [Below.heap_setCell _ _ _ _ (by show b≠G;have:=HG2.out;omega)];rw [Below.heap_setCell _ _ _ _ (by show b≠G;have:=HG2.out;omega)];rw [Below.heap_setCell _ _ _ _ (by show b≠G;have:=HG2.out;omega)];rw [Below.heap_setCell _ _ _ _ (by show b≠G;have:=HG2.out;omega)];rw [Below.heap_setCell _ _ _ _ (by show b≠G;have:=HG2.out;omega)];rw [Below.heap_setCell _ _ _ _ (by show b≠G;have:=HG2.out;omega)];rw [Below.heap_setCell _ _ _ _ (by show b≠G;have:=HG2.out;omega)];rw [Below.heap_setCell _ _ _ _ (by show b≠G;have:=HG2.out;omega)];rw [Below.heap_setCell _ _ _ _ (by show b≠G;have:=HG2.out;omega)])
  have HN : Hid (w.heap.size < V6.heap.size∧w.heap.size≤V6.heap.size):=by have h1:=HG2.out;exact ⟨by omega,by omega⟩
  clear CX
  clear H6 H7 x0 y4 f4 y5 f5 y6 f6 y7 f7 y8 f8 y9 f9 y10 f10 y11 f11 y12 f12 y13 f13
  generalize ((((((((((v7.setCell ⟨G,4,none⟩ (.int .i64 c.k)).setCell ⟨G,5,none⟩ (.int .i64 c.s)).setCell ⟨G,6,none⟩ (.int .i64 c.q)).setCell ⟨G,7,none⟩ (.slice c.a c.n c.c)).setCell ⟨G,8,none⟩ (.slice c.b c.m c.d)).setCell ⟨G,9,none⟩ (.int .i64 c.i)).setCell ⟨G,10,none⟩ (.int .i64 c.j)).setCell ⟨G,11,none⟩ (.int .i64 c.g)).setCell ⟨G,12,none⟩ (.int .u64 ((c.st : Nat) : Int))).setCell ⟨G,13,none⟩ (.bool c.y)) = V8 at *
  have x0 : V8.cell? ⟨G,0,none⟩ = some (.int .i64 ((k : Nat) : Int)):=(H8.out.get 0 _ _ _ rfl).cell 0 _ rfl
  have ldX:=(H8.out.get 0 _ _ _ rfl).ldK (x:=⟨k,r,n,z,c,none,0,0⟩)
  have HZ:=H8.out.get 1 _ _ _ rfl
  have hl2 : ∀ x ∈ ([(G,rcV ⟨k,r,n,z,c,none,0,0⟩,36)] : List (Nat×Array Value×TypeId)),x.1≠w.heap.size:=by simp;omega
  go_wp2_with (refine wpList_store_k rfl _ _ rfl w.heap.size ⟨k,r,n,z,c,none,0,0⟩ rfl rfl zeroR HZ ?_)
  have F:=H8.out.swap.fillK hl2 (rcV ⟨k,r,n,z,c,none,0,0⟩)
  have z0:=(F.get 0 _ _ _ rfl).cell 0 _ rfl;have z1:=(F.get 0 _ _ _ rfl).cell 1 _ rfl;have z2:=(F.get 0 _ _ _ rfl).cell 2 _ rfl;have z3:=(F.get 0 _ _ _ rfl).cell 3 _ rfl;have z4:=(F.get 0 _ _ _ rfl).cell 4 _ rfl;have z5:=(F.get 0 _ _ _ rfl).cell 5 _ rfl;have z6:=(F.get 0 _ _ _ rfl).cell 6 _ rfl;have z7:=(F.get 0 _ _ _ rfl).cell 7 _ rfl;have z8:=(F.get 0 _ _ _ rfl).cell 8 _ rfl;have z9:=(F.get 0 _ _ _ rfl).cell 9 _ rfl;have z10:=(F.get 0 _ _ _ rfl).cell 10 _ rfl;have z11:=(F.get 0 _ _ _ rfl).cell 11 _ rfl;have z12:=(F.get 0 _ _ _ rfl).cell 12 _ rfl;have z13:=(F.get 0 _ _ _ rfl).cell 13 _ rfl;have z14:=(F.get 0 _ _ _ rfl).cell 14 _ rfl
  exact bodyPost_ret (v:=.agg (rcV ⟨k,r,n,z,c,none,0,0⟩)) (by simp [results,Tryz.results43,go_sem,z0,z1,z2,z3,z4,z5,z6,z7,z8,z9,z10,z11,z12,z13,z14]) rfl ⟨⟨k,r,n,z,c,none,0,0⟩,⟨rs,ws,[]⟩,t7,rfl,F.rdr,F.onl,⟨CY.out.far CN.out.1 CN.out.2 (by rw [setRow_size];exact Nat.le_refl _) (fun b hb _=>setRow_other _ _ _ _ (by have:=HN.out.1;omega)),BAt.nil,BR.out⟩,⟨by show c.n≤1000000;omega,by show c.m≤1000000;omega,Nat.zero_le _⟩,⟨CN.out.1.mono HN.out.2,CN.out.2.mono HN.out.2,NewP.none _⟩,rc_two R1.out K1.out R3.out R5.out R7.out⟩
 by_cases h3 : k = 3
 ·have q1 : (((k : Nat) : Int) == 1) = false:=by simp;omega
  have q2 : (((k : Nat) : Int) == 2) = false:=by simp;omega
  have q3 : (((k : Nat) : Int) == 3) = true:=by simp;omega
  have K1:=hid h3
  clear h3
  go_upto_region 11 with (go_at_call 82;((with_reducible refine (wTakeSlot_any g _ _ H2.out.rdr).mono ?_);rintro e v3 ⟨z,t3,rfl,hr,ho,hR,hz⟩;have H3:=hid (H2.out.only hr ho);have R3:=hid hR;have y3:=(H3.out.get 0 _ _ _ rfl).cell 3 _ rfl;have f3:=(H3.out.get 0 _ _ _ rfl).frozen 3;clear hr ho hR))
  have H4 : Hid (RdO (RS g t3) g w (v3.setCell ⟨G,3,none⟩ (.int .i64 ((z : Nat) : Int))) [(G,rcV ⟨k,0,0,z,zeroM,none,0,0⟩,36),(w.heap.size,rcV zeroR,36)] []):=(H3.out.set hl1 3 (.int .i64 ((z : Nat) : Int)))
  clear H2 H3 x0 y3 f3
  generalize (v3.setCell ⟨G,3,none⟩ (.int .i64 ((z : Nat) : Int))) = V4 at *
  have x0 : V4.cell? ⟨G,0,none⟩ = some (.int .i64 ((k : Nat) : Int)):=(H4.out.get 0 _ _ _ rfl).cell 0 _ rfl
  go_upto_region 15 with (go_at_call 83;((with_reducible refine (kTake_any g _ _ H4.out.rdr (HT.out _ H4.out.onl)).mono ?_);rintro e v5 ⟨c,rs,ws,t5,rfl,hr,ho,hX,⟨hn1,na,nb⟩,hR,hz0⟩;have H5:=hid (H4.out.only hr ho);have R5:=hid hR;have CX:=hid hX;have CN : Hid (NewP V4.heap.size c.a∧NewP V4.heap.size c.b):=⟨na,nb⟩;have y4:=(H5.out.get 0 _ _ _ rfl).cell 4 _ rfl;have f4:=(H5.out.get 0 _ _ _ rfl).frozen 4;have y5:=(H5.out.get 0 _ _ _ rfl).cell 5 _ rfl;have f5:=(H5.out.get 0 _ _ _ rfl).frozen 5;have y6:=(H5.out.get 0 _ _ _ rfl).cell 6 _ rfl;have f6:=(H5.out.get 0 _ _ _ rfl).frozen 6;have y7:=(H5.out.get 0 _ _ _ rfl).cell 7 _ rfl;have f7:=(H5.out.get 0 _ _ _ rfl).frozen 7;have y8:=(H5.out.get 0 _ _ _ rfl).cell 8 _ rfl;have f8:=(H5.out.get 0 _ _ _ rfl).frozen 8;have y9:=(H5.out.get 0 _ _ _ rfl).cell 9 _ rfl;have f9:=(H5.out.get 0 _ _ _ rfl).frozen 9;have y10:=(H5.out.get 0 _ _ _ rfl).cell 10 _ rfl;have f10:=(H5.out.get 0 _ _ _ rfl).frozen 10;have y11:=(H5.out.get 0 _ _ _ rfl).cell 11 _ rfl;have f11:=(H5.out.get 0 _ _ _ rfl).frozen 11;have y12:=(H5.out.get 0 _ _ _ rfl).cell 12 _ rfl;have f12:=(H5.out.get 0 _ _ _ rfl).frozen 12;have y13:=(H5.out.get 0 _ _ _ rfl).cell 13 _ rfl;have f13:=(H5.out.get 0 _ _ _ rfl).frozen 13;clear hr ho hR hX na nb hz0))
  have H6 : Hid (RdO (RS g t5) g w ((((((((((v5.setCell ⟨G,4,none⟩ (.int .i64 c.k)).setCell ⟨G,5,none⟩ (.int .i64 c.s)).setCell ⟨G,6,none⟩ (.int .i64 c.q)).setCell ⟨G,7,none⟩ (.slice c.a c.n c.c)).setCell ⟨G,8,none⟩ (.slice c.b c.m c.d)).setCell ⟨G,9,none⟩ (.int .i64 c.i)).setCell ⟨G,10,none⟩ (.int .i64 c.j)).setCell ⟨G,11,none⟩ (.int .i64 c.g)).setCell ⟨G,12,none⟩ (.int .u64 ((c.st : Nat) : Int))).setCell ⟨G,13,none⟩ (.bool c.y)) [(G,rcV ⟨k,0,0,z,c,none,0,0⟩,36),(w.heap.size,rcV zeroR,36)] []):=(RdO.cmd15 H5.out hl1 (.int .i64 c.k) (.int .i64 c.s) (.int .i64 c.q) (.slice c.a c.n c.c) (.slice c.b c.m c.d) (.int .i64 c.i) (.int .i64 c.j) (.int .i64 c.g) (.int .u64 ((c.st : Nat) : Int)) (.bool c.y))
  have HG2 : Hid (G < V4.heap.size):=(H4.out.get 0 _ _ _ rfl).lt
  have CY : Hid (CmAt ((((((((((v5.setCell ⟨G,4,none⟩ (.int .i64 c.k)).setCell ⟨G,5,none⟩ (.int .i64 c.s)).setCell ⟨G,6,none⟩ (.int .i64 c.q)).setCell ⟨G,7,none⟩ (.slice c.a c.n c.c)).setCell ⟨G,8,none⟩ (.slice c.b c.m c.d)).setCell ⟨G,9,none⟩ (.int .i64 c.i)).setCell ⟨G,10,none⟩ (.int .i64 c.j)).setCell ⟨G,11,none⟩ (.int .i64 c.g)).setCell ⟨G,12,none⟩ (.int .u64 ((c.st : Nat) : Int))).setCell ⟨G,13,none⟩ (.bool c.y)) c rs ws):=CX.out.far (B:=V4.heap.size) CN.out.1 CN.out.2 (by simp [World.setCell]) (fun b hb _=>by rw [Below.heap_setCell _ _ _ _ (by show b≠G;have:=HG2.out;omega)];rw [Below.heap_setCell _ _ _ _ (by show b≠G;have:=HG2.out;omega)];rw [Below.heap_setCell _ _ _ _ (by show b≠G;have:=HG2.out;omega)];rw [Below.heap_setCell _ _ _ _ (by show b≠G;have:=HG2.out;omega)];rw [Below.heap_setCell _ _ _ _ (by show b≠G;have:=HG2.out;omega)];rw [Below.heap_setCell _ _ _ _ (by show b≠G;have:=HG2.out;omega)];rw [Below.heap_setCell _ _ _ _ (by show b≠G;have:=HG2.out;omega)];rw [Below.heap_setCell _ _ _ _ (by show b≠G;have:=HG2.out;omega)];rw [Below.heap_setCell _ _ _ _ (by show b≠G;have:=HG2.out;omega)];rw [Below.heap_setCell _ _ _ _ (by show b≠G;have:=HG2.out;omega)])
  have HN : Hid (w.heap.size < V4.heap.size∧w.heap.size≤V4.heap.size):=by have h1:=HG2.out;exact ⟨by omega,by omega⟩
  clear CX
  clear H4 H5 x0 y4 f4 y5 f5 y6 f6 y7 f7 y8 f8 y9 f9 y10 f10 y11 f11 y12 f12 y13 f13
  generalize ((((((((((v5.setCell ⟨G,4,none⟩ (.int .i64 c.k)).setCell ⟨G,5,none⟩ (.int .i64 c.s)).setCell ⟨G,6,none⟩ (.int .i64 c.q)).setCell ⟨G,7,none⟩ (.slice c.a c.n c.c)).setCell ⟨G,8,none⟩ (.slice c.b c.m c.d)).setCell ⟨G,9,none⟩ (.int .i64 c.i)).setCell ⟨G,10,none⟩ (.int .i64 c.j)).setCell ⟨G,11,none⟩ (.int .i64 c.g)).setCell ⟨G,12,none⟩ (.int .u64 ((c.st : Nat) : Int))).setCell ⟨G,13,none⟩ (.bool c.y)) = V6 at *
  have x0 : V6.cell? ⟨G,0,none⟩ = some (.int .i64 ((k : Nat) : Int)):=(H6.out.get 0 _ _ _ rfl).cell 0 _ rfl
  have ldX:=(H6.out.get 0 _ _ _ rfl).ldK (x:=⟨k,0,0,z,c,none,0,0⟩)
  have HZ:=H6.out.get 1 _ _ _ rfl
  have hl2 : ∀ x ∈ ([(G,rcV ⟨k,0,0,z,c,none,0,0⟩,36)] : List (Nat×Array Value×TypeId)),x.1≠w.heap.size:=by simp;omega
  go_wp2_with (refine wpList_store_k rfl _ _ rfl w.heap.size ⟨k,0,0,z,c,none,0,0⟩ rfl rfl zeroR HZ ?_)
  have F:=H6.out.swap.fillK hl2 (rcV ⟨k,0,0,z,c,none,0,0⟩)
  have z0:=(F.get 0 _ _ _ rfl).cell 0 _ rfl;have z1:=(F.get 0 _ _ _ rfl).cell 1 _ rfl;have z2:=(F.get 0 _ _ _ rfl).cell 2 _ rfl;have z3:=(F.get 0 _ _ _ rfl).cell 3 _ rfl;have z4:=(F.get 0 _ _ _ rfl).cell 4 _ rfl;have z5:=(F.get 0 _ _ _ rfl).cell 5 _ rfl;have z6:=(F.get 0 _ _ _ rfl).cell 6 _ rfl;have z7:=(F.get 0 _ _ _ rfl).cell 7 _ rfl;have z8:=(F.get 0 _ _ _ rfl).cell 8 _ rfl;have z9:=(F.get 0 _ _ _ rfl).cell 9 _ rfl;have z10:=(F.get 0 _ _ _ rfl).cell 10 _ rfl;have z11:=(F.get 0 _ _ _ rfl).cell 11 _ rfl;have z12:=(F.get 0 _ _ _ rfl).cell 12 _ rfl;have z13:=(F.get 0 _ _ _ rfl).cell 13 _ rfl;have z14:=(F.get 0 _ _ _ rfl).cell 14 _ rfl
  exact bodyPost_ret (v:=.agg (rcV ⟨k,0,0,z,c,none,0,0⟩)) (by simp [results,Tryz.results43,go_sem,z0,z1,z2,z3,z4,z5,z6,z7,z8,z9,z10,z11,z12,z13,z14]) rfl ⟨⟨k,0,0,z,c,none,0,0⟩,⟨rs,ws,[]⟩,t5,rfl,F.rdr,F.onl,⟨CY.out.far CN.out.1 CN.out.2 (by rw [setRow_size];exact Nat.le_refl _) (fun b hb _=>setRow_other _ _ _ _ (by have:=HN.out.1;omega)),BAt.nil,by show 0 < 4294967296;decide⟩,⟨by show c.n≤1000000;omega,by show c.m≤1000000;omega,Nat.zero_le _⟩,⟨CN.out.1.mono HN.out.2,CN.out.2.mono HN.out.2,NewP.none _⟩,rc_three R1.out K1.out R3.out R5.out⟩
 by_cases h4 : k = 4
 ·have q1 : (((k : Nat) : Int) == 1) = false:=by simp;omega
  have q2 : (((k : Nat) : Int) == 2) = false:=by simp;omega
  have q3 : (((k : Nat) : Int) == 3) = false:=by simp;omega
  have q4 : (((k : Nat) : Int) == 4) = true:=by simp;omega
  have K1:=hid h4
  clear h4
  have HB2:=hid (left_num R1.out HB.out)
  go_upto_region 14 with (go_at_call 82;((with_reducible refine (wTakeSlot_any g _ _ H2.out.rdr).mono ?_);rintro e v3 ⟨z,t3,rfl,hr,ho,hR,hz⟩;have H3:=hid (H2.out.only hr ho);have R3:=hid hR;have y3:=(H3.out.get 0 _ _ _ rfl).cell 3 _ rfl;have f3:=(H3.out.get 0 _ _ _ rfl).frozen 3;clear hr ho hR))
  have H4 : Hid (RdO (RS g t3) g w (v3.setCell ⟨G,3,none⟩ (.int .i64 ((z : Nat) : Int))) [(G,rcV ⟨k,0,0,z,zeroM,none,0,0⟩,36),(w.heap.size,rcV zeroR,36)] []):=(H3.out.set hl1 3 (.int .i64 ((z : Nat) : Int)))
  clear H2 H3 x0 y3 f3
  generalize (v3.setCell ⟨G,3,none⟩ (.int .i64 ((z : Nat) : Int))) = V4 at *
  have x0 : V4.cell? ⟨G,0,none⟩ = some (.int .i64 ((k : Nat) : Int)):=(H4.out.get 0 _ _ _ rfl).cell 0 _ rfl
  have HB3:=hid (left_num R3.out HB2.out)
  go_upto_region 15 with (go_at_call 84;((with_reducible refine (wTakeData_any g _ _ H4.out.rdr (HB3.out)).mono ?_);rintro e v5 ⟨a,m,cc,d,t5,rfl,hr,ho,hX,⟨hn1,na⟩,hR⟩;have H5:=hid (H4.out.only hr ho);have R5:=hid hR;have DX:=hid hX;have DN : Hid (NewP V4.heap.size a):=na;have y14:=(H5.out.get 0 _ _ _ rfl).cell 14 _ rfl;have f14:=(H5.out.get 0 _ _ _ rfl).frozen 14;clear hr ho hR hX na))
  have H6 : Hid (RdO (RS g t5) g w (v5.setCell ⟨G,14,none⟩ (.slice a m cc)) [(G,rcV ⟨k,0,0,z,zeroM,a,m,cc⟩,36),(w.heap.size,rcV zeroR,36)] []):=(H5.out.set hl1 14 (.slice a m cc))
  have HG2 : Hid (G < V4.heap.size):=(H4.out.get 0 _ _ _ rfl).lt
  have DY : Hid (BAt (v5.setCell ⟨G,14,none⟩ (.slice a m cc)) (v5.setCell ⟨G,14,none⟩ (.slice a m cc)).heap.size a m d):=DX.out.far (B:=V4.heap.size) DN.out (by simp [World.setCell]) (fun b hb _=>by rw [Below.heap_setCell _ _ _ _ (by show b≠G;have:=HG2.out;omega)])
  have HN : Hid (w.heap.size < V4.heap.size∧w.heap.size≤V4.heap.size):=by have h1:=HG2.out;exact ⟨by omega,by omega⟩
  clear DX
  clear H4 H5 x0 y14 f14
  generalize (v5.setCell ⟨G,14,none⟩ (.slice a m cc)) = V6 at *
  have x0 : V6.cell? ⟨G,0,none⟩ = some (.int .i64 ((k : Nat) : Int)):=(H6.out.get 0 _ _ _ rfl).cell 0 _ rfl
  have ldX:=(H6.out.get 0 _ _ _ rfl).ldK (x:=⟨k,0,0,z,zeroM,a,m,cc⟩)
  have HZ:=H6.out.get 1 _ _ _ rfl
  have hl2 : ∀ x ∈ ([(G,rcV ⟨k,0,0,z,zeroM,a,m,cc⟩,36)] : List (Nat×Array Value×TypeId)),x.1≠w.heap.size:=by simp;omega
  go_wp2_with (refine wpList_store_k rfl _ _ rfl w.heap.size ⟨k,0,0,z,zeroM,a,m,cc⟩ rfl rfl zeroR HZ ?_)
  have F:=H6.out.swap.fillK hl2 (rcV ⟨k,0,0,z,zeroM,a,m,cc⟩)
  have z0:=(F.get 0 _ _ _ rfl).cell 0 _ rfl;have z1:=(F.get 0 _ _ _ rfl).cell 1 _ rfl;have z2:=(F.get 0 _ _ _ rfl).cell 2 _ rfl;have z3:=(F.get 0 _ _ _ rfl).cell 3 _ rfl;have z4:=(F.get 0 _ _ _ rfl).cell 4 _ rfl;have z5:=(F.get 0 _ _ _ rfl).cell 5 _ rfl;have z6:=(F.get 0 _ _ _ rfl).cell 6 _ rfl;have z7:=(F.get 0 _ _ _ rfl).cell 7 _ rfl;have z8:=(F.get 0 _ _ _ rfl).cell 8 _ rfl;have z9:=(F.get 0 _ _ _ rfl).cell 9 _ rfl;have z10:=(F.get 0 _ _ _ rfl).cell 10 _ rfl;have z11:=(F.get 0 _ _ _ rfl).cell 11 _ rfl;have z12:=(F.get 0 _ _ _ rfl).cell 12 _ rfl;have z13:=(F.get 0 _ _ _ rfl).cell 13 _ rfl;have z14:=(F.get 0 _ _ _ rfl).cell 14 _ rfl
  exact bodyPost_ret (v:=.agg (rcV ⟨k,0,0,z,zeroM,a,m,cc⟩)) (by simp [results,Tryz.results43,go_sem,z0,z1,z2,z3,z4,z5,z6,z7,z8,z9,z10,z11,z12,z13,z14]) rfl ⟨⟨k,0,0,z,zeroM,a,m,cc⟩,⟨[],[],d⟩,t5,rfl,F.rdr,F.onl,⟨CmAt.zero,DY.out.far DN.out (by rw [setRow_size];exact Nat.le_refl _) (fun b hb _=>setRow_other _ _ _ _ (by have:=HN.out.1;omega)),by show 0 < 4294967296;decide⟩,⟨Nat.zero_le _,Nat.zero_le _,hn1⟩,⟨NewP.none _,NewP.none _,DN.out.mono HN.out.2⟩,rc_four R1.out K1.out R3.out R5.out⟩
 have q1 : (((k : Nat) : Int) == 1) = false:=by simp;omega
 have q2 : (((k : Nat) : Int) == 2) = false:=by simp;omega
 have q3 : (((k : Nat) : Int) == 3) = false:=by simp;omega
 have q4 : (((k : Nat) : Int) == 4) = false:=by simp;omega
 have XX:=H2
 have ldX:=(H2.out.get 0 _ _ _ rfl).ldK (x:=⟨k,0,0,0,zeroM,none,0,0⟩)
 have HZ:=H2.out.get 1 _ _ _ rfl
 have hl2 : ∀ x ∈ ([(G,rcV ⟨k,0,0,0,zeroM,none,0,0⟩,36)] : List (Nat×Array Value×TypeId)),x.1≠w.heap.size:=by simp;omega
 go_wp2_with (refine wpList_store_k rfl _ _ rfl w.heap.size ⟨k,0,0,0,zeroM,none,0,0⟩ rfl rfl zeroR HZ ?_)
 have F:=H2.out.swap.fillK hl2 (rcV ⟨k,0,0,0,zeroM,none,0,0⟩)
 have z0:=(F.get 0 _ _ _ rfl).cell 0 _ rfl;have z1:=(F.get 0 _ _ _ rfl).cell 1 _ rfl;have z2:=(F.get 0 _ _ _ rfl).cell 2 _ rfl;have z3:=(F.get 0 _ _ _ rfl).cell 3 _ rfl;have z4:=(F.get 0 _ _ _ rfl).cell 4 _ rfl;have z5:=(F.get 0 _ _ _ rfl).cell 5 _ rfl;have z6:=(F.get 0 _ _ _ rfl).cell 6 _ rfl;have z7:=(F.get 0 _ _ _ rfl).cell 7 _ rfl;have z8:=(F.get 0 _ _ _ rfl).cell 8 _ rfl;have z9:=(F.get 0 _ _ _ rfl).cell 9 _ rfl;have z10:=(F.get 0 _ _ _ rfl).cell 10 _ rfl;have z11:=(F.get 0 _ _ _ rfl).cell 11 _ rfl;have z12:=(F.get 0 _ _ _ rfl).cell 12 _ rfl;have z13:=(F.get 0 _ _ _ rfl).cell 13 _ rfl;have z14:=(F.get 0 _ _ _ rfl).cell 14 _ rfl
 exact bodyPost_ret (v:=.agg (rcV ⟨k,0,0,0,zeroM,none,0,0⟩)) (by simp [results,Tryz.results43,go_sem,z0,z1,z2,z3,z4,z5,z6,z7,z8,z9,z10,z11,z12,z13,z14]) rfl ⟨⟨k,0,0,0,zeroM,none,0,0⟩,noLR,st1,rfl,F.rdr,F.onl,⟨CmAt.zero,BAt.nil,by show 0 < 4294967296;decide⟩,⟨Nat.zero_le _,Nat.zero_le _,Nat.zero_le _⟩,⟨NewP.none _,NewP.none _,NewP.none _⟩,rc_none R1.out h1 h2 h3 h4⟩
theorem endS_any (g : Nat) (st : St) (W : World) (h : RS g st W) :
  Calls Tryz.prog 44 #[.pointer (some ⟨g,0,none⟩)] W fun e w'=>e = .returned (.bool (decide (st = some [])))∧W = w':=by
 cases st with
 | none =>
  have h1:=end_any g [] false W h
  simpa using h1
 | some l =>
  have h1:=end_any g l true W h
  cases l with
  | nil=>simpa using h1
  | cons a r=>simpa using h1
/-- What bytes are read as: the record, whose lists and data lie in blocks made by the call; or none. -/
def ReadK (w : World) (l : List UInt8) (e : Ending) (w' : World) : Prop :=
 (∃ x L,e = .returned (.tuple #[.agg (rcV x),.int .i64 0])∧Below w.heap.size w w'∧RcAt w' x L∧RcF x∧NewRc w.heap.size x∧readR l = some (rcT x L))∨(e = .returned (.tuple #[.agg (rcV zeroR),.int .i64 2])∧Below w.heap.size w w'∧readR l = none)
theorem res_read {l : List UInt8} {x : Rc} (h : Res rcP (some l) x (some [])) : rcP l = some (x,[]):=by
 rcases h with ⟨l',r,e,hp,e2⟩ | ⟨_,e⟩
 ·injection e with e;subst e;injection e2 with e2;subst e2;exact hp
 ·cases e
theorem res_left {l : List UInt8} {x : Rc} {st : St} (h : Res rcP (some l) x st) (hs : ¬ st = some []) : readR l = none:=by
 rcases h with ⟨l',r,e,hp,e2⟩ | ⟨hn,e⟩
 ·injection e with e;subst e
  exact readR_more hp (fun e=>hs (by rw [e2,e]))
 ·exact readR_none (hn l rfl)
theorem wRead_any (a : Option Addr) (m c : Nat) (l : List UInt8) (w : World) (hl : BAt w w.heap.size a m l) (hm : m≤1000000) (hU : Tabs w) :
  Calls Tryz.prog 13 #[.slice a m c] w (ReadK w l):=by
 have H0:=hid ((Boxs.start w).more zeroRV 36)
 have b0 : Below w.heap.size w (w.alloc (.cells zeroRV 36)):=H0.out.bel
 have s0 : (w.alloc (.cells zeroRV 36)).heap.size = w.heap.size + 1:=by simp
 have cN:=new_any a m c l (w.alloc (.cells zeroRV 36)) ((hl.below b0 (Nat.le_refl _)).more b0.size) (by omega)
 have U0:=hid hU
 have hll:=hl.len
 have LB : Hid (∀ l',some l = some l'→l'.length≤1000000):=fun l' e=>by injection e with e;subst e;omega
 clear hl hU hll
 go_enter Tryz.func13,Tryz.ntmps13
 go_upto_region 2 with (go_at_call 42;((with_reducible refine cN.mono ?_);rintro e w1 ⟨g,rfl,hr1,hge1,hlt1,hb1⟩;rw [s0] at hge1;have H1:=hid (H0.out.below hb1);have D1 : Hid (RS g (some l) w1):=hr1;have GE:=hid hge1;have GL:=hid hlt1;clear hr1 hge1 hlt1 hb1))
 have BX1 : Hid (BoxC w1 w.heap.size (rcV zeroR) 36):=H1.out.get 0 _ _ _ rfl
 have BL1 : Hid (Below w.heap.size w w1):=H1.out.bel
 clear H0 b0 s0 cN H1
 have cT:=wTakeFields_any g (some l) w1 D1.out LB.out (U0.out.below BL1.out)
 go_upto_region 3 with (first | (go_at_call 43;((with_reducible refine cT.mono ?_);rintro e w2 ⟨x,L,st1,rfl,hr2,ho2,hX,hF,hN,hR⟩;have D2:=hid hr2;have O2:=hid ho2;have R2:=hid hR;have X2:=hid hX;have F2:=hid hF;have N2:=hid hN;have HZ : Hid (BoxC (w2.alloc (.cells zeroRV 36)) w2.heap.size (rcV zeroR) 36):=BoxC.new w2 zeroRV 36;clear hr2 ho2 hX hF hN hR)) | (refine wpList_store_k rfl _ _ rfl w2.heap.size x rfl rfl zeroR HZ.out ?_))
 have R4 : Hid (Boxs w ((w2.alloc (.cells zeroRV 36)).setRow w2.heap.size (rcV x)) [(w2.heap.size,rcV x,36),(w.heap.size,rcV zeroR,36)]∧RS g st1 ((w2.alloc (.cells zeroRV 36)).setRow w2.heap.size (rcV x))∧RcAt ((w2.alloc (.cells zeroRV 36)).setRow w2.heap.size (rcV x)) x L∧w.heap.size < w2.heap.size):=by
  have hge:=GE.out
  have b2 : Below w.heap.size w w2:=Only.below BL1.out O2.out (by omega) BL1.out.size
  have x2 : BoxC w2 w.heap.size (rcV zeroR) 36:=BX1.out.only O2.out (by omega)
  have z2:=x2.lt
  have bA : Below w2.heap.size w2 (w2.alloc (.cells zeroRV 36)):=(Below.refl _ _).alloc (Nat.le_refl _) _
  have oF:=only_fill (w2.alloc (.cells zeroRV 36)) w2.heap.size (rcV x)
  have bF : Below w2.heap.size w2 ((w2.alloc (.cells zeroRV 36)).setRow w2.heap.size (rcV x)):=Only.below bA oF (Nat.le_refl _) bA.size
  have hB : Boxs w w2 [(w.heap.size,rcV zeroR,36)]:=⟨b2,fun b hb=>by rw [List.mem_singleton.1 hb];exact x2⟩
  exact ⟨(hB.more zeroRV 36).fillK b2.size (by simp;omega) _,Keep.keep (g:=g) w2 _ D2.out fun b hb=>bF.block b (by have : g < w2.heap.size:=D2.out.lt;omega),X2.out.later bF,z2⟩
 have NN : Hid (NewRc (w.heap.size + 1) x):=N2.out.mono (by have h1:=GE.out;have h2:=GL.out;omega)
 clear D1 BX1 BL1 D2 O2 cT HZ GL X2 N2
 generalize (w2.alloc (.cells zeroRV 36)).setRow w2.heap.size (rcV x) = W4 at *
 generalize w2.heap.size = G at *
 have cE:=endS_any g st1 W4 R4.out.2.1
 have hGw : ∀ b ∈ [(w.heap.size,rcV zeroR,36)],b.1≠G:=by have:=R4.out.2.2.2;simp;omega
 have hwG : ∀ b ∈ [(G,rcV x,36)],b.1≠w.heap.size:=by have:=R4.out.2.2.2;simp;omega
 have swap : ∀ V (A B : Nat×Array Value×TypeId),Boxs w V [A,B]→Boxs w V [B,A]:=fun V A B h=>⟨h.1,fun b hb=>h.2 b (by simp only [List.mem_cons] at hb ⊢;rcases hb with h | h | h;exact .inr (.inl h);exact .inl h;exact .inr (.inr h))⟩
 by_cases he : st1 = some []
 rotate_left
 ·have NO:=hid (res_left R2.out he)
  have de : decide (st1 = some []) = false:=decide_eq_false he
  rw [de] at cE
  have HZ:=R4.out.1.get 1 _ _ _ rfl
  clear he de
  go_wp2_with (first | (go_at_call 44;((with_reducible refine cE.mono ?_);rintro e w3 ⟨rfl,rfl⟩)) | (refine wpList_store_k rfl _ _ rfl w.heap.size zeroR rfl rfl zeroR HZ ?_))
  have F:=(swap _ _ _ R4.out.1).fillK (Nat.le_refl _) hwG (rcV zeroR)
  have z0:=(F.get 0 _ _ _ rfl).cell 0 _ rfl;have z1:=(F.get 0 _ _ _ rfl).cell 1 _ rfl;have z2:=(F.get 0 _ _ _ rfl).cell 2 _ rfl;have z3:=(F.get 0 _ _ _ rfl).cell 3 _ rfl;have z4:=(F.get 0 _ _ _ rfl).cell 4 _ rfl;have z5:=(F.get 0 _ _ _ rfl).cell 5 _ rfl;have z6:=(F.get 0 _ _ _ rfl).cell 6 _ rfl;have z7:=(F.get 0 _ _ _ rfl).cell 7 _ rfl;have z8:=(F.get 0 _ _ _ rfl).cell 8 _ rfl;have z9:=(F.get 0 _ _ _ rfl).cell 9 _ rfl;have z10:=(F.get 0 _ _ _ rfl).cell 10 _ rfl;have z11:=(F.get 0 _ _ _ rfl).cell 11 _ rfl;have z12:=(F.get 0 _ _ _ rfl).cell 12 _ rfl;have z13:=(F.get 0 _ _ _ rfl).cell 13 _ rfl;have z14:=(F.get 0 _ _ _ rfl).cell 14 _ rfl
  exact bodyPost_ret (v:=.tuple #[.agg (rcV zeroR),.int .i64 2]) (by simp [results,Tryz.results13,go_sem,z0,z1,z2,z3,z4,z5,z6,z7,z8,z9,z10,z11,z12,z13,z14]) rfl (.inr ⟨rfl,F.bel,NO.out⟩)
 have de : decide (st1 = some []) = true:=decide_eq_true he
 rw [de] at cE
 have RP : Hid (rcP l = some (rcT x L,[])):=res_read (he ▸ R2.out)
 clear de
 have cF:=wFormed_any x L W4 R4.out.2.2.1 F2.out (U0.out.below R4.out.1.bel)
 have ldX:=(R4.out.1.get 0 _ _ _ rfl).ldK (x:=x)
 cases hf : formR (rcT x L)
 ·rw [hf] at cF
  have NO:=hid (readR_bad RP.out hf)
  go_wp2_with (first | (go_at_call 44;((with_reducible refine cE.mono ?_);rintro e w3 ⟨rfl,rfl⟩)) | (go_at_call 15;((with_reducible refine cF.mono ?_);rintro e w5 ⟨rfl,hb5⟩;have H5:=hid (R4.out.1.below hb5);have HZ:=H5.out.get 1 _ _ _ rfl;clear ldX)) | (refine wpList_store_k rfl _ _ rfl w.heap.size zeroR rfl rfl zeroR HZ ?_))
  have F:=(swap _ _ _ H5.out).fillK (Nat.le_refl _) hwG (rcV zeroR)
  have z0:=(F.get 0 _ _ _ rfl).cell 0 _ rfl;have z1:=(F.get 0 _ _ _ rfl).cell 1 _ rfl;have z2:=(F.get 0 _ _ _ rfl).cell 2 _ rfl;have z3:=(F.get 0 _ _ _ rfl).cell 3 _ rfl;have z4:=(F.get 0 _ _ _ rfl).cell 4 _ rfl;have z5:=(F.get 0 _ _ _ rfl).cell 5 _ rfl;have z6:=(F.get 0 _ _ _ rfl).cell 6 _ rfl;have z7:=(F.get 0 _ _ _ rfl).cell 7 _ rfl;have z8:=(F.get 0 _ _ _ rfl).cell 8 _ rfl;have z9:=(F.get 0 _ _ _ rfl).cell 9 _ rfl;have z10:=(F.get 0 _ _ _ rfl).cell 10 _ rfl;have z11:=(F.get 0 _ _ _ rfl).cell 11 _ rfl;have z12:=(F.get 0 _ _ _ rfl).cell 12 _ rfl;have z13:=(F.get 0 _ _ _ rfl).cell 13 _ rfl;have z14:=(F.get 0 _ _ _ rfl).cell 14 _ rfl
  exact bodyPost_ret (v:=.tuple #[.agg (rcV zeroR),.int .i64 2]) (by simp [results,Tryz.results13,go_sem,z0,z1,z2,z3,z4,z5,z6,z7,z8,z9,z10,z11,z12,z13,z14]) rfl (.inr ⟨rfl,F.bel,NO.out⟩)
 ·rw [hf] at cF
  have YES:=hid (readR_some RP.out hf)
  go_wp2_with (first | (go_at_call 44;((with_reducible refine cE.mono ?_);rintro e w3 ⟨rfl,rfl⟩)) | (go_at_call 15;((with_reducible refine cF.mono ?_);rintro e w5 ⟨rfl,hb5⟩;have H5:=hid (R4.out.1.below hb5);have X5:=hid (R4.out.2.2.1.later hb5);have HZ:=H5.out.get 1 _ _ _ rfl;clear ldX;have ldX:=(H5.out.get 0 _ _ _ rfl).ldK (x:=x))) | (refine wpList_store_k rfl _ _ rfl w.heap.size x rfl rfl zeroR HZ ?_))
  have F:=(swap _ _ _ H5.out).fillK (Nat.le_refl _) hwG (rcV x)
  have z0:=(F.get 0 _ _ _ rfl).cell 0 _ rfl;have z1:=(F.get 0 _ _ _ rfl).cell 1 _ rfl;have z2:=(F.get 0 _ _ _ rfl).cell 2 _ rfl;have z3:=(F.get 0 _ _ _ rfl).cell 3 _ rfl;have z4:=(F.get 0 _ _ _ rfl).cell 4 _ rfl;have z5:=(F.get 0 _ _ _ rfl).cell 5 _ rfl;have z6:=(F.get 0 _ _ _ rfl).cell 6 _ rfl;have z7:=(F.get 0 _ _ _ rfl).cell 7 _ rfl;have z8:=(F.get 0 _ _ _ rfl).cell 8 _ rfl;have z9:=(F.get 0 _ _ _ rfl).cell 9 _ rfl;have z10:=(F.get 0 _ _ _ rfl).cell 10 _ rfl;have z11:=(F.get 0 _ _ _ rfl).cell 11 _ rfl;have z12:=(F.get 0 _ _ _ rfl).cell 12 _ rfl;have z13:=(F.get 0 _ _ _ rfl).cell 13 _ rfl;have z14:=(F.get 0 _ _ _ rfl).cell 14 _ rfl
  exact bodyPost_ret (v:=.tuple #[.agg (rcV x),.int .i64 0]) (by simp [results,Tryz.results13,go_sem,z0,z1,z2,z3,z4,z5,z6,z7,z8,z9,z10,z11,z12,z13,z14]) rfl (.inl ⟨x,L,rfl,F.bel,X5.out.far NN.out (by rw [setRow_size];exact Nat.le_refl _) (fun b hb _=>setRow_other _ _ _ _ (by omega)),F2.out,NN.out.mono (by omega),YES.out⟩)
end Go.Proofs.YtcfmifongbapkaaGreatDoor
