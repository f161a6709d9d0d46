/- Words for lists of records in memory. No condition. Contracts of the document's TakeId and Take of transactions. Conditions: the reader lies in memory. Contract of the document's Take of a transaction. -/
import Derived.Test.YtcfmifongbapkaaGreatDoorRX
import Derived.Test.YtcfmifongbapkaaGreatDoorRT
import Derived.Test.YtcfmifongbapkaaGreatDoorTxnRefFormed
import Derived.Deep.DeepCutAuto
import Derived.Deep.AppendLies
import Derived.Deep.CutBlock
namespace Go.Proofs.YtcfmifongbapkaaGreatDoor
set_option maxRecDepth 100000
set_option maxHeartbeats 4000000
open Go.RowKit
open Go.Lib (hid)
set_option linter.unusedVariables false
set_option linter.unusedSimpArgs false
theorem Tryz.kInfo36 : (Tryz.prog.info? 36).map (fun i=>(i.zero,i.size,i.bytes)) = some (some (.agg zeroRV),15,168):=by kernel_rfl
/-- An address in a block of S, if there is anything there. -/
def InP (S : Nat→Prop) (n : Nat) (a : Option Addr) : Prop:=n = 0∨∀ p,a = some p→S p.block
/-- A record's lists and data lie in blocks of S. -/
structure InR (S : Nat→Prop) (x : RcM) : Prop where
 a : InP S x.cm.n x.cm.a
 b : InP S x.cm.m x.cm.b
 d : InP S x.dn x.da
theorem InP.mono {S T : Nat→Prop} {n : Nat} {a : Option Addr} (h : InP S n a) (hs : ∀ b,S b→T b) : InP T n a:=h.elim .inl fun h=>.inr fun p e=>hs _ (h p e)
theorem InR.mono {S T : Nat→Prop} {x : RcM} (h : InR S x) (hs : ∀ b,S b→T b) : InR T x:=⟨h.a.mono hs,h.b.mono hs,h.d.mono hs⟩
section
variable {W W' : World} {B n k : Nat} {a : Option Addr} {S : Nat→Prop}
theorem RowAt.inP {xs : List Value} (h : RowAt W W.heap.size a n k xs) (hn : NewP B a) : InP (fun b=>B≤b∧b < W.heap.size) n a:=by
 rcases h with ⟨_,h | ⟨b,off,rfl,hb,_⟩⟩
 ·exact .inl h
 ·exact .inr fun p e=>by injection e with e;subst e;exact ⟨hn _ rfl,hb⟩
theorem BAt.inP {l : List UInt8} (h : BAt W W.heap.size a n l) (hn : NewP B a) : InP (fun b=>B≤b∧b < W.heap.size) n a:=by
 rcases h with ⟨_,h | ⟨b,off,rfl,hb,_⟩⟩
 ·exact .inl h
 ·exact .inr fun p e=>by injection e with e;subst e;exact ⟨hn _ rfl,hb⟩
theorem RcAt.inR {x : RcM} {L : RcL} (h : RcAt W x L) (hn : NewRc B x) : InR (fun b=>B≤b∧b < W.heap.size) x:=⟨h.cm.tx.rds.2.inP hn.a,h.cm.tx.wrs.2.inP hn.b,h.da.inP hn.d⟩
theorem RowAt.keepS {xs : List Value} (h : RowAt W W.heap.size a n k xs) (hn : InP S n a) (hs : W.heap.size≤W'.heap.size) (hk : ∀ b,S b→b < W.heap.size→W'.heap[b]? = W.heap[b]?) : RowAt W' W'.heap.size a n k xs:=by
 refine RowAt.more ?_ hs
 rcases h with ⟨hl,h | ⟨b,off,rfl,hb,hc⟩⟩
 ·exact ⟨hl,.inl h⟩
 ·rcases hn with hn | hn
  ·exact ⟨hl,.inl hn⟩
  ·exact ⟨hl,.inr ⟨b,off,rfl,hb,fun j u hu=>(World.cell?_of_block (hk b (hn _ rfl) hb)).trans (hc j u hu)⟩⟩
theorem BAt.keepS {l : List UInt8} (h : BAt W W.heap.size a n l) (hn : InP S n a) (hs : W.heap.size≤W'.heap.size) (hk : ∀ b,S b→b < W.heap.size→W'.heap[b]? = W.heap[b]?) : BAt W' W'.heap.size a n l:=by
 refine BAt.more ?_ hs
 rcases h with ⟨hl,h | ⟨b,off,rfl,hb,hc⟩⟩
 ·exact ⟨hl,.inl h⟩
 ·rcases hn with hn | hn
  ·exact ⟨hl,.inl hn⟩
  ·exact ⟨hl,.inr ⟨b,off,rfl,hb,fun j hj=>(World.cell?_of_block (hk b (hn _ rfl) hb)).trans (hc j hj)⟩⟩
theorem RcAt.keepS {x : RcM} {L : RcL} (h : RcAt W x L) (hn : InR S x) (hs : W.heap.size≤W'.heap.size) (hk : ∀ b,S b→b < W.heap.size→W'.heap[b]? = W.heap[b]?) : RcAt W' x L :=
 ⟨⟨⟨⟨⟨h.cm.tx.lenR,h.cm.tx.rds.2.keepS hn.a hs hk⟩,⟨h.cm.tx.lenW,h.cm.tx.wrs.2.keepS hn.b hs hk⟩⟩,h.cm.tx.okR,h.cm.tx.okW⟩,h.cm.st⟩,h.da.keepS hn.d hs hk,h.br⟩
end
abbrev RE:=RcM×RcL
def rcC (z : RE) : List Value:=(rcV z.1).toList
theorem rcC_len (z : RE) : (rcC z).length = 15:=rfl
def rcS (L : List RE) : List Rc:=L.map fun z=>rcT z.1 z.2
theorem rcS_len (L : List RE) : (rcS L).length = L.length:=by simp [rcS]
theorem rcS_app (L M : List RE) : rcS (L ++ M) = rcS L ++ rcS M:=by simp [rcS]
/-- A list of records that lies in memory. -/
structure RcsAt (W : World) (a : Option Addr) (n : Nat) (L : List RE) : Prop where
 len : L.length = n
 row : RowAt W W.heap.size a n 15 (L.flatMap rcC)
 all : ∀ z ∈ L,RcAt W z.1 z.2∧RcF z.1
/-- .. in blocks of S. -/
structure RcsIn (S : Nat→Prop) (a : Option Addr) (n : Nat) (L : List RE) : Prop where
 row : InP S n a
 all : ∀ z ∈ L,InR S z.1
section
variable {W W' : World} {n : Nat} {a : Option Addr} {S T : Nat→Prop} {L : List RE}
theorem RcsAt.later (h : RcsAt W a n L) (hb : Below W.heap.size W W') : RcsAt W' a n L:=⟨h.len,(h.row.below hb (Nat.le_refl _)).more hb.size,fun z hz=>⟨(h.all z hz).1.later hb,(h.all z hz).2⟩⟩
theorem RcsAt.keepS (h : RcsAt W a n L) (hn : RcsIn S a n L) (hs : W.heap.size≤W'.heap.size) (hk : ∀ b,S b→b < W.heap.size→W'.heap[b]? = W.heap[b]?) : RcsAt W' a n L :=
 ⟨h.len,h.row.keepS hn.row hs hk,fun z hz=>⟨(h.all z hz).1.keepS (hn.all z hz) hs hk,(h.all z hz).2⟩⟩
end
theorem rTakeId_any (B g : Nat) (L : List UInt8) (st : St) (w : World) (h : FS B g L st w) :
  Calls Tryz.prog 88 #[.pointer (some ⟨g,0,none⟩)] w (Took1 (FS B g L) g idV idQ (0,0) st w):=by
 have hlt:=h.lt
 have H0:=hid ((RdO.start h hlt).more #[.int .i64 0,.int .i64 0] 26)
 have c1 : ∀ s W,FS B g L s W→Calls Tryz.prog 45 #[.pointer (some ⟨g,0,none⟩),.int .i64 1] W (Took1 (FS B g L) g numV (numP 1) 0 s W):=fun s W h=>refTakeS_any B g L 1 s W h (by omega)
 have c4 : ∀ s W,FS B g L s W→Calls Tryz.prog 45 #[.pointer (some ⟨g,0,none⟩),.int .i64 4] W (Took1 (FS B g L) g numV (numP 4) 0 s W):=fun s W h=>refTakeS_any B g L 4 s W h (by omega)
 clear h
 go_enter Tryz.func88,Tryz.ntmps88
 go_upto_region 2 with (go_at_call 45;((with_reducible refine (c1 _ _ H0.out.rdr).mono ?_);rintro e w1 ⟨x,st1,rfl,hr1,ho1,hR1,hz1⟩;have H1:=hid (H0.out.only hr1 ho1);have R1:=hid hR1;have Z1:=hid hz1;have hx : x < 256:=num_lt hR1 hz1 (by decide);clear hr1 ho1 hR1 hz1))
 go_upto_region 3 with (go_at_call 45;((with_reducible refine (c4 _ _ H1.out.rdr).mono ?_);rintro e w3 ⟨y,st2,rfl,hr3,ho3,hR3,hz3⟩;have H3:=hid (H1.out.only hr3 ho3);have R3:=hid hR3;have Z3:=hid hz3;have hy : y < 4294967296:=num_lt hR3 hz3 (by decide);clear hr3 ho3 hR3 hz3))
 have H4:=hid (H3.out.more #[.int .i64 x,.int .i64 y] 26)
 have hG : w.heap.size < w3.heap.size:=(H3.out.get 0 _ _ _ rfl).lt
 have RR : Hid (Res idP st ((x : Int),(y : Int)) st2):=res_id R1.out R3.out
 clear H0 H1 H3 c1 c4 R1 R3 Z1
 generalize w3.alloc (.cells #[.int .i64 x,.int .i64 y] 26) = W4 at *
 generalize w3.heap.size = G at *
 have hgG : g≠G:=by omega
 have hgw : g≠w.heap.size:=by omega
 obtain ⟨fl,ff⟩:=H4.out.rdr.flag
 obtain ⟨x0,x1⟩:=(H4.out.get 0 _ _ _ rfl).two
 obtain ⟨z0,z1⟩:=(H4.out.get 1 _ _ _ rfl).two
 have f0:=(H4.out.get 1 _ _ _ rfl).frozen 0
 have f1:=(H4.out.get 1 _ _ _ rfl).frozen 1
 have cI:=rId_any (x : Int) (y : Int)
 cases st2 with
 | none =>
  have Q:=hid (RR.out.guard_no (c:=idB) (0,0))
  have H5 : Hid (RdO (FS B g L none) g w (W4.setCell ⟨g,2,none⟩ (.bool true)) [(G,#[.int .i64 x,.int .i64 y],26),(w.heap.size,#[.int .i64 0,.int .i64 0],26)] []):=H4.out.only H4.out.rdr.fails (only_set W4 g 2 _)
  go_wp2
  have H8:=(H5.out.tail.set (fun _ h=>by cases h) 0 (.int .i64 0)).set (fun _ h=>by cases h) 1 (.int .i64 0)
  exact bodyPost_ret (v:=.agg #[.int .i64 0,.int .i64 0]) (by simp [results,Tryz.results88,go_sem,z0,z1]) rfl ⟨(0,0),none,rfl,H8.rdr,H8.onl,Q.out,fun _=>rfl⟩
 | some r =>
  cases hf : idB ((x : Int),(y : Int))
  ·rw [hf] at cI
   have Q:=hid (RR.out.guard_bad (c:=idB) hf (0,0))
   clear hf RR
   go_wp2_with (go_at_call 93;((with_reducible refine (cI _).mono ?_);rintro e w5 ⟨rfl,hb5⟩;have H5:=hid (H4.out.below hb5);(clear fl ff x0 x1 z0 z1 f0 f1);obtain ⟨fl,ff⟩:=H5.out.rdr.flag;obtain ⟨x0,x1⟩:=(H5.out.get 0 _ _ _ rfl).two;obtain ⟨z0,z1⟩:=(H5.out.get 1 _ _ _ rfl).two;have f0:=(H5.out.get 1 _ _ _ rfl).frozen 0;have f1:=(H5.out.get 1 _ _ _ rfl).frozen 1))
   have H6 : RdO (FS B g L none) g w (w5.setCell ⟨g,2,none⟩ (.bool true)) [(G,#[.int .i64 x,.int .i64 y],26),(w.heap.size,#[.int .i64 0,.int .i64 0],26)] []:=H5.out.only H5.out.rdr.fails (only_set w5 g 2 _)
   have H8:=(H6.tail.set (fun _ h=>by cases h) 0 (.int .i64 0)).set (fun _ h=>by cases h) 1 (.int .i64 0)
   exact bodyPost_ret (v:=.agg #[.int .i64 0,.int .i64 0]) (by simp [results,Tryz.results88,go_sem,z0,z1]) rfl ⟨(0,0),none,rfl,H8.rdr,H8.onl,Q.out,fun _=>rfl⟩
  ·rw [hf] at cI
   have Q:=hid (RR.out.guard_yes (c:=idB) hf)
   clear hf RR
   go_wp2_with (go_at_call 93;((with_reducible refine (cI _).mono ?_);rintro e w5 ⟨rfl,hb5⟩;have H5:=hid (H4.out.below hb5);(clear fl ff x0 x1 z0 z1 f0 f1);obtain ⟨fl,ff⟩:=H5.out.rdr.flag;obtain ⟨x0,x1⟩:=(H5.out.get 0 _ _ _ rfl).two;obtain ⟨z0,z1⟩:=(H5.out.get 1 _ _ _ rfl).two;have f0:=(H5.out.get 1 _ _ _ rfl).frozen 0;have f1:=(H5.out.get 1 _ _ _ rfl).frozen 1))
   have H8:=(H5.out.tail.set (fun _ h=>by cases h) 0 (.int .i64 x)).set (fun _ h=>by cases h) 1 (.int .i64 y)
   exact bodyPost_ret (v:=.agg #[.int .i64 x,.int .i64 y]) (by simp [results,Tryz.results88,go_sem,z0,z1]) rfl ⟨((x : Int),(y : Int)),some r,rfl,H8.rdr,H8.onl,Q.out,fun e=>by cases e⟩
theorem rTake_any (B g : Nat) (L : List UInt8) (st : St) (w : World) (h : FS B g L st w) :
  Calls Tryz.prog 87 #[.pointer (some ⟨g,0,none⟩)] w (GotT (FS B g L) g st w):=by
 obtain ⟨iR,hi1,hz10,hz11,hz12⟩:=info_parts Tryz.rInfo153
 obtain ⟨iW,hi2,hz20,hz21,hz22⟩:=info_parts Tryz.rInfo157
 have hlt:=h.lt
 have H0:=hid ((RdO.start h hlt).more (txV 0 0 none 0 0 none 0 0) 30)
 have c1 : ∀ s W,FS B g L s W→Calls Tryz.prog 45 #[.pointer (some ⟨g,0,none⟩),.int .i64 1] W (Took1 (FS B g L) g numV (numP 1) 0 s W):=fun s W h=>refTakeS_any B g L 1 s W h (by omega)
 have c8 : ∀ s W,FS B g L s W→Calls Tryz.prog 45 #[.pointer (some ⟨g,0,none⟩),.int .i64 8] W (Took1 (FS B g L) g numV (numP 8) 0 s W):=fun s W h=>refTakeS_any B g L 8 s W h (by omega)
 have ct : ∀ s W,FS B g L s W→Calls Tryz.prog 115 #[.pointer (some ⟨g,0,none⟩),.int .i64 12] W (Took1 (FS B g L) g textV (textP 12) [] s W):=fun s W h=>refTakeTextS_any B g L 12 s W h
 clear h
 go_enter Tryz.func87,Tryz.ntmps87
 go_upto_region 2 with (go_at_call 88;((with_reducible refine (rTakeId_any B g L _ _ H0.out.rdr).mono ?_);rintro e w1 ⟨⟨s,q⟩,st1,rfl,hr1,ho1,hR1,hz1⟩;have H1:=hid (H0.out.only hr1 ho1);have R1:=hid hR1;clear hr1 ho1 hR1 hz1))
 have H2:=hid (H1.out.more (txV s q none 0 0 none 0 0) 30)
 have hG : w.heap.size < w1.heap.size:=(H1.out.get 0 _ _ _ rfl).lt
 clear H0 H1
 generalize w1.alloc (.cells (txV s q none 0 0 none 0 0) 30) = W2 at *
 generalize w1.heap.size = G at *
 have hl1 : ∀ x ∈ ([(w.heap.size,txV 0 0 none 0 0 none 0 0,30)] : List (Nat×Array Value×TypeId)),x.1≠G:=by simp;omega
 have hgG : g≠G:=by omega
 have hgw : g≠w.heap.size:=by omega
 go_upto_region 3 with (go_at_call 45;((with_reducible refine (c1 _ _ H2.out.rdr).mono ?_);rintro e w3 ⟨n,st2,rfl,hr3,ho3,hR3,hz3⟩;have H3:=hid (H2.out.only hr3 ho3);have R3:=hid hR3;have hn : n < 256:=num_lt hR3 hz3 (by decide);clear hr3 ho3 hR3 hz3))
 clear H2
 go_upto_block 0 with (fail)
 go_cut [5] (fun _ wr => ∃ (xs : List RdM) (v : Value) (st3 : St),RdO (FS B g L st3) g w wr [(G,#[.int .i64 s,.int .i64 q,v,.slice none 0 0],30),(w.heap.size,txV 0 0 none 0 0 none 0 0,30)] [⟨153,2,v,xs.length,xs.flatMap readC⟩]∧(xs.length≤255∧∀ x ∈ xs,RdOk x)∧Res (repP readP n) st2 (txR xs) st3)
 case first =>
  go_wp2_with (fail)
  go_loopw [5] (fun i wr => ∃ (k : Nat) (xs : List RdM) (v : Value) (st3 : St),k≤n∧i = .int .i64 k∧RdO (FS B g L st3) g w wr [(G,#[.int .i64 s,.int .i64 q,v,.slice none 0 0],30),(w.heap.size,txV 0 0 none 0 0 none 0 0,30)] [⟨153,2,v,xs.length,xs.flatMap readC⟩]∧(∀ x ∈ xs,RdOk x)∧RunZ readP n st2 k (txR xs) st3) (fun i _=>n - (intOf i).toNat)
  case atStart=>exact ⟨0,[],.slice none 0 0,st2,Nat.zero_le _,rfl,H3.out.none _ _,(fun x hx=>by cases hx),RunZ.start _ _ _⟩
  case round =>
   obtain ⟨k,xs,v,st3,hk,rfl,hO,hok,hrun⟩:=hrel
   have OO:=hid hO
   have KK:=hid hok
   have RU:=hid hrun
   have hxl : xs.length≤255:=by have:=hrun.len;simp only [txR,List.length_map] at this;omega
   clear hO hok hrun H3
   obtain ⟨fl,ff⟩:=OO.out.rdr.flag
   by_cases hltk : k < n
   ·have i1 : (k : Int) < (n : Int):=by omega
    cases st3 with
    | none =>
     go_wp2
     go_meet
     case rel=>exact ⟨xs,v,none,OO.out,⟨hxl,KK.out⟩,RU.out.stop _⟩
    | some r =>
     go_upto_region 7 with (go_at_call 115;((with_reducible refine (ct _ _ OO.out.rdr).mono ?_);rintro e w4 ⟨y,st4,rfl,hr4,ho4,hR4,hz4⟩;have H4:=hid (OO.out.only hr4 ho4);have R4:=hid hR4;have hy : y.length≤12:=text_le hR4 hz4;clear hr4 ho4 hR4 hz4))
     clear fl ff OO
     have x2:=(H4.out.get 0 _ _ _ rfl).cell 2 v rfl
     have H4d:=hid H4.out.drew
     have hsz:=H4.out.size
     obtain ⟨a0,c0,e0,_,_⟩:=ownk_form H4.out.head
     have e0' : v = .slice a0 xs.length c0:=e0
     clear e0
     subst e0'
     go_region_law (first | (refine step_append_rowk _ rfl _ _ 27 rfl w.heap.size 153 iR _ 2 24 Tryz.underlying27 hi1 hz10 hz11 hz12 rfl (by omega) _ xs.length (xs.flatMap readC) rfl (H5.out.alloc _).head (w5.heap.size + 1) (some ⟨w5.heap.size,0,none⟩) 1 1 (readC (⟨y.toArray⟩,z)) rfl (RowAt.oneR w5 (⟨y.toArray⟩,z) _) (readC_cells _) (by unfold maxLen;omega) (by omega) (by simp;omega) ?_;intro v6 w6 ho6 hg6 hat6;obtain ⟨a6,c6,rfl,_,_⟩:=ownk_form ho6;have H6:=hid ((H5.out.alloc _).grow ho6 hg6 hat6);have z6:=(H6.out.get 0 _ _ _ rfl).cell 2 (.slice a0 xs.length c0) rfl;have f6:=(H6.out.get 0 _ _ _ rfl).frozen 2;clear ho6 hg6 hat6) | (go_simp;go_at_call 45;((with_reducible refine (c8 _ _ H4d.out.rdr).mono ?_);rintro e w5 ⟨z,st5,rfl,hr5,ho5,hR5,hz5⟩;have H5:=hid (H4d.out.only hr5 ho5);have R5:=hid hR5;have hzl : z < 18446744073709551616:=num_lt hR5 hz5 (by decide);have y2:=(H5.out.get 0 _ _ _ rfl).cell 2 (.slice a0 xs.length c0) rfl;have y3:=((H5.out.alloc (.cells #[textV y,numV z] 153)).get 0 _ _ _ rfl).cell 2 (.slice a0 xs.length c0) rfl;have hsz5:=H5.out.size;clear hr5 ho5 hR5 hz5)))
     ·have H7 : Hid (RdO (FS B g L st5) g w (w6.setCell ⟨G,2,none⟩ (.slice a6 (xs.length + 1) c6)) [(G,#[.int .i64 s,.int .i64 q,.slice a6 (xs.length + 1) c6,.slice none 0 0],30),(w.heap.size,txV 0 0 none 0 0 none 0 0,30)] [⟨153,2,.slice a6 (xs.length + 1) c6,xs.length + 1,xs.flatMap readC ++ readC (⟨y.toArray⟩,z)⟩]):=H6.out.set hl1 2 _
      have RN : Hid (RunZ readP n st2 (k + 1) (txR xs ++ [(y,z)]) st5):=RU.out.next hltk (by unfold readP;exact Res.bind (x:=y) R4.out (Res.bind (x:=z) R5.out (Res.pure _ _)))
      go_wp2
      go_roundw
      case rel=>exact ⟨k + 1,xs ++ [(⟨y.toArray⟩,z)],.slice a6 (xs.length + 1) c6,st5,by omega,by go_num,by rw [List.length_append,List.flatMap_append];simpa using H7.out,(fun x hx=>by
        rcases List.mem_append.1 hx with hx | hx
        ·exact KK.out x hx
        ·simp only [List.mem_cons,List.not_mem_nil,or_false] at hx
         subst hx
         refine ⟨?_,hzl⟩
         show y.toArray.size≤maxLen
         unfold maxLen;simp;omega),by rw [txR_app];exact RN.out⟩
      case measure=>simp [intOf];omega
     ·have H7 : Hid (RdO (FS B g L st5) g w (w6.setCell ⟨G,2,none⟩ (.slice a6 (xs.length + 1) c6)) [(G,#[.int .i64 s,.int .i64 q,.slice a6 (xs.length + 1) c6,.slice none 0 0],30),(w.heap.size,txV 0 0 none 0 0 none 0 0,30)] [⟨153,2,.slice a6 (xs.length + 1) c6,xs.length + 1,xs.flatMap readC ++ readC (⟨y.toArray⟩,z)⟩]):=H6.out.set hl1 2 _
      have RN : Hid (RunZ readP n st2 (k + 1) (txR xs ++ [(y,z)]) st5):=RU.out.next hltk (by unfold readP;exact Res.bind (x:=y) R4.out (Res.bind (x:=z) R5.out (Res.pure _ _)))
      go_wp2
      go_roundw
      case rel=>exact ⟨k + 1,xs ++ [(⟨y.toArray⟩,z)],.slice a6 (xs.length + 1) c6,st5,by omega,by go_num,by rw [List.length_append,List.flatMap_append];simpa using H7.out,(fun x hx=>by
        rcases List.mem_append.1 hx with hx | hx
        ·exact KK.out x hx
        ·simp only [List.mem_cons,List.not_mem_nil,or_false] at hx
         subst hx
         refine ⟨?_,hzl⟩
         show y.toArray.size≤maxLen
         unfold maxLen;simp;omega),by rw [txR_app];exact RN.out⟩
      case measure=>simp [intOf];omega
     ·have H7 : Hid (RdO (FS B g L st5) g w (w6.setCell ⟨G,2,none⟩ (.slice a6 (xs.length + 1) c6)) [(G,#[.int .i64 s,.int .i64 q,.slice a6 (xs.length + 1) c6,.slice none 0 0],30),(w.heap.size,txV 0 0 none 0 0 none 0 0,30)] [⟨153,2,.slice a6 (xs.length + 1) c6,xs.length + 1,xs.flatMap readC ++ readC (⟨y.toArray⟩,z)⟩]):=H6.out.set hl1 2 _
      have RN : Hid (RunZ readP n st2 (k + 1) (txR xs ++ [(y,z)]) st5):=RU.out.next hltk (by unfold readP;exact Res.bind (x:=y) R4.out (Res.bind (x:=z) R5.out (Res.pure _ _)))
      go_wp2
      go_roundw
      case rel=>exact ⟨k + 1,xs ++ [(⟨y.toArray⟩,z)],.slice a6 (xs.length + 1) c6,st5,by omega,by go_num,by rw [List.length_append,List.flatMap_append];simpa using H7.out,(fun x hx=>by
        rcases List.mem_append.1 hx with hx | hx
        ·exact KK.out x hx
        ·simp only [List.mem_cons,List.not_mem_nil,or_false] at hx
         subst hx
         refine ⟨?_,hzl⟩
         show y.toArray.size≤maxLen
         unfold maxLen;simp;omega),by rw [txR_app];exact RN.out⟩
      case measure=>simp [intOf];omega
   ·have hkn : n = k:=by omega
    subst hkn
    have QQ:=hid RU.out.done
    go_wp2
    go_meet
    case rel=>exact ⟨xs,v,st3,OO.out,⟨hxl,KK.out⟩,QQ.out⟩
 case rest =>
 obtain ⟨rs,v1,st4,hO,hk1,hRR⟩:=hcut
 have K1:=hid hk1
 have RL : Hid (Res (listP readP) st1 (txR rs) st4):=by unfold Hid listP;exact Res.bind (x:=n) R3.out hRR
 obtain ⟨ra,rc,e1,_,_⟩:=ownk_form hO.head
 have e1' : v1 = .slice ra rs.length rc:=e1
 clear e1
 subst e1'
 have O1:=hid hO
 clear hO hk1 hRR H3 R3
 go_upto_region 9 with (go_at_call 45;((with_reducible refine (c1 _ _ O1.out.rdr).mono ?_);rintro e w3 ⟨m,st5,rfl,hr3,ho3,hR3,hz3⟩;have H3:=hid (O1.out.only hr3 ho3);have R3:=hid hR3;have hm : m < 256:=num_lt hR3 hz3 (by decide);clear hr3 ho3 hR3 hz3))
 have cv : ∀ s W,FS B g L s W→Calls Tryz.prog 116 #[.pointer (some ⟨g,0,none⟩)] W (Took1 (FS B g L) g valV valP ⟨0,0,[]⟩ s W):=fun s W h=>refTakeVS_any B g L s W h
 clear O1 c1 c8
 go_upto_block 2 with (fail)
 go_cut [8] (fun _ wr => ∃ (xs : List WrM) (v : Value) (st6 : St),RdO (FS B g L st6) g w wr [(G,#[.int .i64 s,.int .i64 q,.slice ra rs.length rc,v],30),(w.heap.size,txV 0 0 none 0 0 none 0 0,30)] [⟨157,4,v,xs.length,xs.flatMap writeC⟩,⟨153,2,.slice ra rs.length rc,rs.length,rs.flatMap readC⟩]∧(xs.length≤255∧∀ x ∈ xs,WrOk x)∧Res (repP (writeP valP) m) st5 (txW xs) st6)
 case first =>
  go_wp2_with (fail)
  go_loopw [8] (fun i wr => ∃ (k : Nat) (xs : List WrM) (v : Value) (st6 : St),k≤m∧i = .int .i64 k∧RdO (FS B g L st6) g w wr [(G,#[.int .i64 s,.int .i64 q,.slice ra rs.length rc,v],30),(w.heap.size,txV 0 0 none 0 0 none 0 0,30)] [⟨157,4,v,xs.length,xs.flatMap writeC⟩,⟨153,2,.slice ra rs.length rc,rs.length,rs.flatMap readC⟩]∧(∀ x ∈ xs,WrOk x)∧RunZ (writeP valP) m st5 k (txW xs) st6) (fun i _=>m - (intOf i).toNat)
  case atStart=>exact ⟨0,[],.slice none 0 0,st5,Nat.zero_le _,rfl,H3.out.none _ _,(fun x hx=>by cases hx),RunZ.start _ _ _⟩
  case round =>
   obtain ⟨k,xs,v,st6,hk,rfl,hO,hok,hrun⟩:=hrel
   have OO:=hid hO
   have KK:=hid hok
   have RU:=hid hrun
   have hxl : xs.length≤255:=by have:=hrun.len;simp only [txW,List.length_map] at this;omega
   clear hO hok hrun H3
   obtain ⟨fl,ff⟩:=OO.out.rdr.flag
   by_cases hltk : k < m
   ·have i1 : (k : Int) < (m : Int):=by omega
    cases st6 with
    | none =>
     go_wp2
     go_meet
     case rel=>exact ⟨xs,v,none,OO.out,⟨hxl,KK.out⟩,RU.out.stop _⟩
    | some r =>
     go_upto_region 13 with (go_at_call 115;((with_reducible refine (ct _ _ OO.out.rdr).mono ?_);rintro e w4 ⟨y,st7,rfl,hr4,ho4,hR4,hz4⟩;have H4:=hid (OO.out.only hr4 ho4);have R4:=hid hR4;have hy : y.length≤12:=text_le hR4 hz4;clear hr4 ho4 hR4 hz4))
     clear fl ff OO
     have x2:=(H4.out.get 0 _ _ _ rfl).cell 3 v rfl
     have H4d:=hid H4.out.drew
     have hsz:=H4.out.size
     obtain ⟨a0,c0,e0,_,_⟩:=ownk_form H4.out.head
     have e0' : v = .slice a0 xs.length c0:=e0
     clear e0
     subst e0'
     go_region_law (first | (refine step_append_rowk _ rfl _ _ 28 rfl w.heap.size 157 iW _ 4 48 Tryz.underlying28 hi2 hz20 hz21 hz22 rfl (by omega) _ xs.length (xs.flatMap writeC) rfl (H5.out.alloc _).head (w5.heap.size + 1) (some ⟨w5.heap.size,0,none⟩) 1 1 (writeC ⟨⟨y.toArray⟩,z.k,z.b,⟨z.t.toArray⟩⟩) rfl (RowAt.oneW w5 ⟨⟨y.toArray⟩,z.k,z.b,⟨z.t.toArray⟩⟩ _) (writeC_cells _) (by unfold maxLen;omega) (by omega) (by simp;omega) ?_;intro v6 w6 ho6 hg6 hat6;obtain ⟨a6,c6,rfl,_,_⟩:=ownk_form ho6;have H6:=hid ((H5.out.alloc _).grow ho6 hg6 hat6);have z6:=(H6.out.get 0 _ _ _ rfl).cell 3 (.slice a0 xs.length c0) rfl;have f6:=(H6.out.get 0 _ _ _ rfl).frozen 3;clear ho6 hg6 hat6) | (go_simp;go_at_call 116;((with_reducible refine (cv _ _ H4d.out.rdr).mono ?_);rintro e w5 ⟨z,st8,rfl,hr5,ho5,hR5,hz5⟩;have H5:=hid (H4d.out.only hr5 ho5);have R5:=hid hR5;have hzl:=val_lt hR5 hz5;have y2:=(H5.out.get 0 _ _ _ rfl).cell 3 (.slice a0 xs.length c0) rfl;have y3:=((H5.out.alloc (.cells #[textV y,.int .i64 z.k,.int .u64 ((z.b : Nat) : Int),.string ⟨z.t.toArray⟩] 157)).get 0 _ _ _ rfl).cell 3 (.slice a0 xs.length c0) rfl;have hsz5:=H5.out.size;clear hr5 ho5 hR5 hz5)))
     ·have H7 : Hid (RdO (FS B g L st8) g w (w6.setCell ⟨G,3,none⟩ (.slice a6 (xs.length + 1) c6)) [(G,#[.int .i64 s,.int .i64 q,.slice ra rs.length rc,.slice a6 (xs.length + 1) c6],30),(w.heap.size,txV 0 0 none 0 0 none 0 0,30)] [⟨157,4,.slice a6 (xs.length + 1) c6,xs.length + 1,xs.flatMap writeC ++ writeC ⟨⟨y.toArray⟩,z.k,z.b,⟨z.t.toArray⟩⟩⟩,⟨153,2,.slice ra rs.length rc,rs.length,rs.flatMap readC⟩]):=H6.out.set hl1 3 _
      have RN : Hid (RunZ (writeP valP) m st5 (k + 1) (txW xs ++ [(y,z)]) st8):=RU.out.next hltk (by unfold writeP;exact Res.bind (x:=y) R4.out (Res.bind (x:=z) R5.out (Res.pure _ _)))
      go_wp2
      go_roundw
      case rel=>exact ⟨k + 1,xs ++ [⟨⟨y.toArray⟩,z.k,z.b,⟨z.t.toArray⟩⟩],.slice a6 (xs.length + 1) c6,st8,by omega,by go_num,by rw [List.length_append,List.flatMap_append];simpa using H7.out,(fun x hx=>by
        rcases List.mem_append.1 hx with hx | hx
        ·exact KK.out x hx
        ·simp only [List.mem_cons,List.not_mem_nil,or_false] at hx
         subst hx
         refine ⟨?_,hzl.1,?_⟩
         ·show y.toArray.size≤maxLen
          unfold maxLen;simp;omega
         ·show z.t.toArray.size≤maxLen
          have:=hzl.2
          unfold maxLen;simp;omega),by rw [txW_app];exact RN.out⟩
      case measure=>simp [intOf];omega
     ·have H7 : Hid (RdO (FS B g L st8) g w (w6.setCell ⟨G,3,none⟩ (.slice a6 (xs.length + 1) c6)) [(G,#[.int .i64 s,.int .i64 q,.slice ra rs.length rc,.slice a6 (xs.length + 1) c6],30),(w.heap.size,txV 0 0 none 0 0 none 0 0,30)] [⟨157,4,.slice a6 (xs.length + 1) c6,xs.length + 1,xs.flatMap writeC ++ writeC ⟨⟨y.toArray⟩,z.k,z.b,⟨z.t.toArray⟩⟩⟩,⟨153,2,.slice ra rs.length rc,rs.length,rs.flatMap readC⟩]):=H6.out.set hl1 3 _
      have RN : Hid (RunZ (writeP valP) m st5 (k + 1) (txW xs ++ [(y,z)]) st8):=RU.out.next hltk (by unfold writeP;exact Res.bind (x:=y) R4.out (Res.bind (x:=z) R5.out (Res.pure _ _)))
      go_wp2
      go_roundw
      case rel=>exact ⟨k + 1,xs ++ [⟨⟨y.toArray⟩,z.k,z.b,⟨z.t.toArray⟩⟩],.slice a6 (xs.length + 1) c6,st8,by omega,by go_num,by rw [List.length_append,List.flatMap_append];simpa using H7.out,(fun x hx=>by
        rcases List.mem_append.1 hx with hx | hx
        ·exact KK.out x hx
        ·simp only [List.mem_cons,List.not_mem_nil,or_false] at hx
         subst hx
         refine ⟨?_,hzl.1,?_⟩
         ·show y.toArray.size≤maxLen
          unfold maxLen;simp;omega
         ·show z.t.toArray.size≤maxLen
          have:=hzl.2
          unfold maxLen;simp;omega),by rw [txW_app];exact RN.out⟩
      case measure=>simp [intOf];omega
     ·have H7 : Hid (RdO (FS B g L st8) g w (w6.setCell ⟨G,3,none⟩ (.slice a6 (xs.length + 1) c6)) [(G,#[.int .i64 s,.int .i64 q,.slice ra rs.length rc,.slice a6 (xs.length + 1) c6],30),(w.heap.size,txV 0 0 none 0 0 none 0 0,30)] [⟨157,4,.slice a6 (xs.length + 1) c6,xs.length + 1,xs.flatMap writeC ++ writeC ⟨⟨y.toArray⟩,z.k,z.b,⟨z.t.toArray⟩⟩⟩,⟨153,2,.slice ra rs.length rc,rs.length,rs.flatMap readC⟩]):=H6.out.set hl1 3 _
      have RN : Hid (RunZ (writeP valP) m st5 (k + 1) (txW xs ++ [(y,z)]) st8):=RU.out.next hltk (by unfold writeP;exact Res.bind (x:=y) R4.out (Res.bind (x:=z) R5.out (Res.pure _ _)))
      go_wp2
      go_roundw
      case rel=>exact ⟨k + 1,xs ++ [⟨⟨y.toArray⟩,z.k,z.b,⟨z.t.toArray⟩⟩],.slice a6 (xs.length + 1) c6,st8,by omega,by go_num,by rw [List.length_append,List.flatMap_append];simpa using H7.out,(fun x hx=>by
        rcases List.mem_append.1 hx with hx | hx
        ·exact KK.out x hx
        ·simp only [List.mem_cons,List.not_mem_nil,or_false] at hx
         subst hx
         refine ⟨?_,hzl.1,?_⟩
         ·show y.toArray.size≤maxLen
          unfold maxLen;simp;omega
         ·show z.t.toArray.size≤maxLen
          have:=hzl.2
          unfold maxLen;simp;omega),by rw [txW_app];exact RN.out⟩
      case measure=>simp [intOf];omega
   ·have hkn : m = k:=by omega
    subst hkn
    have QQ:=hid RU.out.done
    go_wp2
    go_meet
    case rel=>exact ⟨xs,v,st6,OO.out,⟨hxl,KK.out⟩,QQ.out⟩
 case rest =>
 obtain ⟨ws,v2,st6,hO,hk2,hRR⟩:=hcut
 have K2:=hid hk2
 have RW : Hid (Res (listP (writeP valP)) st4 (txW ws) st6):=by unfold Hid listP;exact Res.bind (x:=m) R3.out hRR
 obtain ⟨wa,wc',e2,_,_⟩:=ownk_form hO.head
 have e2' : v2 = .slice wa ws.length wc':=e2
 clear e2
 subst e2'
 have H6 : Hid (RdO (FS B g L st6) g w _ [(G,txV s q ra rs.length rc wa ws.length wc',30),(w.heap.size,txV 0 0 none 0 0 none 0 0,30)] [⟨157,4,.slice wa ws.length wc',ws.length,ws.flatMap writeC⟩,⟨153,2,.slice ra rs.length rc,rs.length,rs.flatMap readC⟩]):=hO
 have RR:=hid (res_txn R1.out RL.out RW.out)
 clear hO hk2 hRR H3 R3 R1 RL RW
 have hl2 : ∀ x ∈ ([(G,txV s q ra rs.length rc wa ws.length wc',30)] : List (Nat×Array Value×TypeId)),x.1≠w.heap.size:=by simp;omega
 have cF:=rFormedT_any s q ra rs.length rc wa ws.length wc' rs ws _ (TxAt.rows (RowAt.of_own (H6.out.own 1 _ rfl)) (RowAt.of_own (H6.out.own 0 _ rfl)) K1.out.2 K2.out.2)
 obtain ⟨fl,ff⟩:=H6.out.rdr.flag
 obtain ⟨x0,x1,x2,x3⟩:=(H6.out.get 0 _ _ _ rfl).four
 obtain ⟨z0,z1,z2,z3⟩:=(H6.out.get 1 _ _ _ rfl).four
 have f0:=(H6.out.get 1 _ _ _ rfl).frozen 0
 have f1:=(H6.out.get 1 _ _ _ rfl).frozen 1
 have f2:=(H6.out.get 1 _ _ _ rfl).frozen 2
 have f3:=(H6.out.get 1 _ _ _ rfl).frozen 3
 cases st6 with
 | none =>
  have Q:=hid (RR.out.guard_no (c:=formT formedB) (txT (0,0) [] []))
  clear RR cF
  have H7:=H6.out.only (rd':=FS B g L none) H6.out.rdr.fails (only_set _ g 2 _)
  go_wp2
  have H9:=(((H7.tail.set (fun _ h=>by cases h) 0 (.int .i64 0)).set (fun _ h=>by cases h) 1 (.int .i64 0)).set (fun _ h=>by cases h) 2 (.slice none 0 0)).set (fun _ h=>by cases h) 3 (.slice none 0 0)
  exact bodyPost_ret (v:=.agg (txV 0 0 none 0 0 none 0 0)) (by simp [results,Tryz.results87,go_sem,z0,z1,z2,z3]) rfl ⟨0,0,none,0,0,none,0,0,[],[],none,rfl,H9.rdr,H9.onl,TxAt.nil,⟨⟨by omega,by omega⟩,NewP.none _,NewP.none _⟩,Q.out,fun _=>⟨⟨rfl,rfl⟩,rfl,rfl⟩⟩
 | some r =>
  cases hf : formT formedB (txT (s,q) rs ws)
  ·rw [hf] at cF
   have Q:=hid (RR.out.guard_bad (c:=formT formedB) hf (txT (0,0) [] []))
   clear hf RR
   go_wp2_with (go_at_call 94;((with_reducible refine cF.mono ?_);rintro e w7 ⟨rfl,hb7⟩;have H8:=hid (H6.out.below hb7);(clear x0 x1 x2 x3 z0 z1 z2 z3 f0 f1 f2 f3 fl ff);obtain ⟨fl,ff⟩:=H8.out.rdr.flag;obtain ⟨x0,x1,x2,x3⟩:=(H8.out.get 0 _ _ _ rfl).four;obtain ⟨z0,z1,z2,z3⟩:=(H8.out.get 1 _ _ _ rfl).four;have f0:=(H8.out.get 1 _ _ _ rfl).frozen 0;have f1:=(H8.out.get 1 _ _ _ rfl).frozen 1;have f2:=(H8.out.get 1 _ _ _ rfl).frozen 2;have f3:=(H8.out.get 1 _ _ _ rfl).frozen 3))
   have H7:=H8.out.only (rd':=FS B g L none) H8.out.rdr.fails (only_set _ g 2 _)
   have H9:=(((H7.tail.set (fun _ h=>by cases h) 0 (.int .i64 0)).set (fun _ h=>by cases h) 1 (.int .i64 0)).set (fun _ h=>by cases h) 2 (.slice none 0 0)).set (fun _ h=>by cases h) 3 (.slice none 0 0)
   exact bodyPost_ret (v:=.agg (txV 0 0 none 0 0 none 0 0)) (by simp [results,Tryz.results87,go_sem,z0,z1,z2,z3]) rfl ⟨0,0,none,0,0,none,0,0,[],[],none,rfl,H9.rdr,H9.onl,TxAt.nil,⟨⟨by omega,by omega⟩,NewP.none _,NewP.none _⟩,Q.out,fun _=>⟨⟨rfl,rfl⟩,rfl,rfl⟩⟩
  ·rw [hf] at cF
   have Q:=hid (RR.out.guard_yes (c:=formT formedB) hf)
   clear hf RR
   go_wp2_with (go_at_call 94;((with_reducible refine cF.mono ?_);rintro e w7 ⟨rfl,hb7⟩;have H8:=hid (H6.out.below hb7);(clear x0 x1 x2 x3 z0 z1 z2 z3 f0 f1 f2 f3 fl ff);obtain ⟨fl,ff⟩:=H8.out.rdr.flag;obtain ⟨x0,x1,x2,x3⟩:=(H8.out.get 0 _ _ _ rfl).four;obtain ⟨z0,z1,z2,z3⟩:=(H8.out.get 1 _ _ _ rfl).four;have f0:=(H8.out.get 1 _ _ _ rfl).frozen 0;have f1:=(H8.out.get 1 _ _ _ rfl).frozen 1;have f2:=(H8.out.get 1 _ _ _ rfl).frozen 2;have f3:=(H8.out.get 1 _ _ _ rfl).frozen 3))
   have H9:=(((H8.out.swap.set hl2 0 (.int .i64 s)).set hl2 1 (.int .i64 q)).set hl2 2 (.slice ra rs.length rc)).set hl2 3 (.slice wa ws.length wc')
   exact bodyPost_ret (v:=.agg (txV s q ra rs.length rc wa ws.length wc')) (by simp [results,Tryz.results87,go_sem,z0,z1,z2,z3]) rfl ⟨s,q,ra,rs.length,rc,wa,ws.length,wc',rs,ws,some r,rfl,H9.rdr,H9.onl,TxAt.rows (RowAt.of_own (H9.own 1 _ rfl)) (RowAt.of_own (H9.own 0 _ rfl)) K1.out.2 K2.out.2,⟨⟨K1.out.1,K2.out.1⟩,NewP.of_own (H9.own 1 _ rfl),NewP.of_own (H9.own 0 _ rfl)⟩,Q.out,fun e=>by cases e⟩
end Go.Proofs.YtcfmifongbapkaaGreatDoor
