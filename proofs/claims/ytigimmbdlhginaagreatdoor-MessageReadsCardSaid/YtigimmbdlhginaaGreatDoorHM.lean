/- Contracts of the document's TakeId and Take of transactions. Conditions: the reader lies in memory. Contract of the document's Take of a transaction. Contract of the document's Take of a command. -/
import Derived.Test.YtigimmbdlhginaaGreatDoorHD
import Derived.Test.YtigimmbdlhginaaGreatDoorTxnRefFormed
import Derived.Deep.DeepCutAuto
import Derived.Deep.AppendLies
import Derived.Deep.CutBlock
import Derived.Test.YtigimmbdlhginaaGreatDoorHB
import Derived.Test.YtigimmbdlhginaaGreatDoorHJ
namespace Go.Proofs.YtigimmbdlhginaaGreatDoor
set_option maxRecDepth 100000
set_option maxHeartbeats 8000000
open Go.RowKit
open Go.Lib (hid)
set_option linter.unusedVariables false
theorem rTakeId_any (B g : Nat) (L : List UInt8) (st : St) (w : World) (h : FS B g L st w) :
  Calls Tryz.prog 18 #[.pointer (some ⟨g,0,none⟩)] w (Took1 (FS B g L) g idV idQ (0,0) st w):=by
 have hlt:=h.lt
 have H0:=hid ((RdO.start h hlt).more #[.int .i64 0,.int .i64 0] 28)
 have c1 : ∀ s W,FS B g L s W→Calls Tryz.prog 15 #[.pointer (some ⟨g,0,none⟩),.int .i64 1] W (Took1 (FS B g L) g numV (numP 1) 0 s W):=fun s W h=>refTakeS_any B g L 1 s W h (by omega)
 have c4 : ∀ s W,FS B g L s W→Calls Tryz.prog 15 #[.pointer (some ⟨g,0,none⟩),.int .i64 4] W (Took1 (FS B g L) g numV (numP 4) 0 s W):=fun s W h=>refTakeS_any B g L 4 s W h (by omega)
 clear h
 go_enter Tryz.func18,Tryz.ntmps18
 go_upto_region 2 with (go_at_call 15;((with_reducible refine (c1 _ _ H0.out.rdr).mono ?_);rintro e w1 ⟨x,st1,rfl,hr1,ho1,hR1,hz1⟩;have H1:=hid (H0.out.only hr1 ho1);have R1:=hid hR1;have Z1:=hid hz1;have hx : x < 256:=num_lt hR1 hz1 (by decide);clear hr1 ho1 hR1 hz1))
 go_upto_region 3 with (go_at_call 15;((with_reducible refine (c4 _ _ H1.out.rdr).mono ?_);rintro e w3 ⟨y,st2,rfl,hr3,ho3,hR3,hz3⟩;have H3:=hid (H1.out.only hr3 ho3);have R3:=hid hR3;have Z3:=hid hz3;have hy : y < 4294967296:=num_lt hR3 hz3 (by decide);clear hr3 ho3 hR3 hz3))
 have H4:=hid (H3.out.more #[.int .i64 x,.int .i64 y] 28)
 have hG : w.heap.size < w3.heap.size:=(H3.out.get 0 _ _ _ rfl).lt
 have RR : Hid (Res idP st ((x : Int),(y : Int)) st2):=res_id R1.out R3.out
 clear H0 H1 H3 c1 c4 R1 R3 Z1
 generalize w3.alloc (.cells #[.int .i64 x,.int .i64 y] 28) = W4 at *
 generalize w3.heap.size = G at *
 have hgG : g≠G:=by omega
 have hgw : g≠w.heap.size:=by omega
 obtain ⟨fl,ff⟩:=H4.out.rdr.flag
 obtain ⟨x0,x1⟩:=(H4.out.get 0 _ _ _ rfl).two
 obtain ⟨z0,z1⟩:=(H4.out.get 1 _ _ _ rfl).two
 have f0:=(H4.out.get 1 _ _ _ rfl).frozen 0
 have f1:=(H4.out.get 1 _ _ _ rfl).frozen 1
 have cI:=rId_any (x : Int) (y : Int)
 cases st2 with
 | none =>
  have Q:=hid (RR.out.guard_no (c:=idB) (0,0))
  have H5 : Hid (RdO (FS B g L none) g w (W4.setCell ⟨g,2,none⟩ (.bool true)) [(G,#[.int .i64 x,.int .i64 y],28),(w.heap.size,#[.int .i64 0,.int .i64 0],28)] []):=H4.out.only H4.out.rdr.fails (only_set W4 g 2 _)
  go_wp2
  have H8:=(H5.out.tail.set (fun _ h=>by cases h) 0 (.int .i64 0)).set (fun _ h=>by cases h) 1 (.int .i64 0)
  exact bodyPost_ret (v:=.agg #[.int .i64 0,.int .i64 0]) (by simp [results,Tryz.results18,go_sem,z0,z1]) rfl ⟨(0,0),none,rfl,H8.rdr,H8.onl,Q.out,fun _=>rfl⟩
 | some r =>
  cases hf : idB ((x : Int),(y : Int))
  ·rw [hf] at cI
   have Q:=hid (RR.out.guard_bad (c:=idB) hf (0,0))
   clear hf RR
   go_wp2_with (go_at_call 45;((with_reducible refine (cI _).mono ?_);rintro e w5 ⟨rfl,hb5⟩;have H5:=hid (H4.out.below hb5);(clear fl ff x0 x1 z0 z1 f0 f1);obtain ⟨fl,ff⟩:=H5.out.rdr.flag;obtain ⟨x0,x1⟩:=(H5.out.get 0 _ _ _ rfl).two;obtain ⟨z0,z1⟩:=(H5.out.get 1 _ _ _ rfl).two;have f0:=(H5.out.get 1 _ _ _ rfl).frozen 0;have f1:=(H5.out.get 1 _ _ _ rfl).frozen 1))
   have H6 : RdO (FS B g L none) g w (w5.setCell ⟨g,2,none⟩ (.bool true)) [(G,#[.int .i64 x,.int .i64 y],28),(w.heap.size,#[.int .i64 0,.int .i64 0],28)] []:=H5.out.only H5.out.rdr.fails (only_set w5 g 2 _)
   have H8:=(H6.tail.set (fun _ h=>by cases h) 0 (.int .i64 0)).set (fun _ h=>by cases h) 1 (.int .i64 0)
   exact bodyPost_ret (v:=.agg #[.int .i64 0,.int .i64 0]) (by simp [results,Tryz.results18,go_sem,z0,z1]) rfl ⟨(0,0),none,rfl,H8.rdr,H8.onl,Q.out,fun _=>rfl⟩
  ·rw [hf] at cI
   have Q:=hid (RR.out.guard_yes (c:=idB) hf)
   clear hf RR
   go_wp2_with (go_at_call 45;((with_reducible refine (cI _).mono ?_);rintro e w5 ⟨rfl,hb5⟩;have H5:=hid (H4.out.below hb5);(clear fl ff x0 x1 z0 z1 f0 f1);obtain ⟨fl,ff⟩:=H5.out.rdr.flag;obtain ⟨x0,x1⟩:=(H5.out.get 0 _ _ _ rfl).two;obtain ⟨z0,z1⟩:=(H5.out.get 1 _ _ _ rfl).two;have f0:=(H5.out.get 1 _ _ _ rfl).frozen 0;have f1:=(H5.out.get 1 _ _ _ rfl).frozen 1))
   have H8:=(H5.out.tail.set (fun _ h=>by cases h) 0 (.int .i64 x)).set (fun _ h=>by cases h) 1 (.int .i64 y)
   exact bodyPost_ret (v:=.agg #[.int .i64 x,.int .i64 y]) (by simp [results,Tryz.results18,go_sem,z0,z1]) rfl ⟨((x : Int),(y : Int)),some r,rfl,H8.rdr,H8.onl,Q.out,fun e=>by cases e⟩
theorem rTake_any (B g : Nat) (L : List UInt8) (st : St) (w : World) (h : FS B g L st w) :
  Calls Tryz.prog 44 #[.pointer (some ⟨g,0,none⟩)] w (GotT (FS B g L) g st w):=by
 obtain ⟨iR,hi1,hz10,hz11,hz12⟩:=info_parts Tryz.rInfo103
 obtain ⟨iW,hi2,hz20,hz21,hz22⟩:=info_parts Tryz.rInfo105
 have hlt:=h.lt
 have H0:=hid ((RdO.start h hlt).more (txV 0 0 none 0 0 none 0 0) 32)
 have c1 : ∀ s W,FS B g L s W→Calls Tryz.prog 15 #[.pointer (some ⟨g,0,none⟩),.int .i64 1] W (Took1 (FS B g L) g numV (numP 1) 0 s W):=fun s W h=>refTakeS_any B g L 1 s W h (by omega)
 have c8 : ∀ s W,FS B g L s W→Calls Tryz.prog 15 #[.pointer (some ⟨g,0,none⟩),.int .i64 8] W (Took1 (FS B g L) g numV (numP 8) 0 s W):=fun s W h=>refTakeS_any B g L 8 s W h (by omega)
 have ct : ∀ s W,FS B g L s W→Calls Tryz.prog 19 #[.pointer (some ⟨g,0,none⟩),.int .i64 12] W (Took1 (FS B g L) g textV (textP 12) [] s W):=fun s W h=>refTakeTextS_any B g L 12 s W h
 clear h
 go_enter Tryz.func44,Tryz.ntmps44
 go_upto_region 2 with (go_at_call 18;((with_reducible refine (rTakeId_any B g L _ _ H0.out.rdr).mono ?_);rintro e w1 ⟨⟨s,q⟩,st1,rfl,hr1,ho1,hR1,hz1⟩;have H1:=hid (H0.out.only hr1 ho1);have R1:=hid hR1;clear hr1 ho1 hR1 hz1))
 have H2:=hid (H1.out.more (txV s q none 0 0 none 0 0) 32)
 have hG : w.heap.size < w1.heap.size:=(H1.out.get 0 _ _ _ rfl).lt
 clear H0 H1
 generalize w1.alloc (.cells (txV s q none 0 0 none 0 0) 32) = W2 at *
 generalize w1.heap.size = G at *
 have hl1 : ∀ x ∈ ([(w.heap.size,txV 0 0 none 0 0 none 0 0,32)] : List (Nat×Array Value×TypeId)),x.1≠G:=by simp;omega
 have hgG : g≠G:=by omega
 have hgw : g≠w.heap.size:=by omega
 go_upto_region 3 with (go_at_call 15;((with_reducible refine (c1 _ _ H2.out.rdr).mono ?_);rintro e w3 ⟨n,st2,rfl,hr3,ho3,hR3,hz3⟩;have H3:=hid (H2.out.only hr3 ho3);have R3:=hid hR3;have hn : n < 256:=num_lt hR3 hz3 (by decide);clear hr3 ho3 hR3 hz3))
 clear H2
 go_upto_block 0 with (fail)
 go_cut [5] (fun _ wr => ∃ (xs : List RdM) (v : Value) (st3 : St),RdO (FS B g L st3) g w wr [(G,#[.int .i64 s,.int .i64 q,v,.slice none 0 0],32),(w.heap.size,txV 0 0 none 0 0 none 0 0,32)] [⟨103,2,v,xs.length,xs.flatMap readC⟩]∧(xs.length≤255∧∀ x ∈ xs,RdOk x)∧Res (repP readP n) st2 (txR xs) st3)
 case first =>
  go_wp2_with (fail)
  go_loopw [5] (fun i wr => ∃ (k : Nat) (xs : List RdM) (v : Value) (st3 : St),k≤n∧i = .int .i64 k∧RdO (FS B g L st3) g w wr [(G,#[.int .i64 s,.int .i64 q,v,.slice none 0 0],32),(w.heap.size,txV 0 0 none 0 0 none 0 0,32)] [⟨103,2,v,xs.length,xs.flatMap readC⟩]∧(∀ x ∈ xs,RdOk x)∧RunZ readP n st2 k (txR xs) st3) (fun i _=>n - (intOf i).toNat)
  case atStart=>exact ⟨0,[],.slice none 0 0,st2,Nat.zero_le _,rfl,H3.out.none _ _,(fun x hx=>by cases hx),RunZ.start _ _ _⟩
  case round =>
   obtain ⟨k,xs,v,st3,hk,rfl,hO,hok,hrun⟩:=hrel
   have OO:=hid hO
   have KK:=hid hok
   have RU:=hid hrun
   have hxl : xs.length≤255:=by have:=hrun.len;simp only [txR,List.length_map] at this;omega
   clear hO hok hrun H3
   obtain ⟨fl,ff⟩:=OO.out.rdr.flag
   by_cases hltk : k < n
   ·have i1 : (k : Int) < (n : Int):=by omega
    cases st3 with
    | none =>
     go_wp2
     go_meet
     case rel=>exact ⟨xs,v,none,OO.out,⟨hxl,KK.out⟩,RU.out.stop _⟩
    | some r =>
     go_upto_region 7 with (go_at_call 19;((with_reducible refine (ct _ _ OO.out.rdr).mono ?_);rintro e w4 ⟨y,st4,rfl,hr4,ho4,hR4,hz4⟩;have H4:=hid (OO.out.only hr4 ho4);have R4:=hid hR4;have hy : y.length≤12:=text_le hR4 hz4;clear hr4 ho4 hR4 hz4))
     clear fl ff OO
     have x2:=(H4.out.get 0 _ _ _ rfl).cell 2 v rfl
     have H4d:=hid H4.out.drew
     have hsz:=H4.out.size
     obtain ⟨a0,c0,e0,_,_⟩:=ownk_form H4.out.head
     have e0' : v = .slice a0 xs.length c0:=e0
     clear e0
     subst e0'
     go_region_law (first | (refine step_append_rowk _ rfl _ _ 29 rfl w.heap.size 103 iR _ 2 24 Tryz.underlying29 hi1 hz10 hz11 hz12 rfl (by omega) _ xs.length (xs.flatMap readC) rfl (H5.out.alloc _).head (w5.heap.size + 1) (some ⟨w5.heap.size,0,none⟩) 1 1 (readC (⟨y.toArray⟩,z)) rfl (RowAt.oneR w5 (⟨y.toArray⟩,z) _) (readC_cells _) (by unfold maxLen;omega) (by omega) (by simp;omega) ?_;intro v6 w6 ho6 hg6 hat6;obtain ⟨a6,c6,rfl,_,_⟩:=ownk_form ho6;have H6:=hid ((H5.out.alloc _).grow ho6 hg6 hat6);have z6:=(H6.out.get 0 _ _ _ rfl).cell 2 (.slice a0 xs.length c0) rfl;have f6:=(H6.out.get 0 _ _ _ rfl).frozen 2;clear ho6 hg6 hat6) | (go_simp;go_at_call 15;((with_reducible refine (c8 _ _ H4d.out.rdr).mono ?_);rintro e w5 ⟨z,st5,rfl,hr5,ho5,hR5,hz5⟩;have H5:=hid (H4d.out.only hr5 ho5);have R5:=hid hR5;have hzl : z < 18446744073709551616:=num_lt hR5 hz5 (by decide);have y2:=(H5.out.get 0 _ _ _ rfl).cell 2 (.slice a0 xs.length c0) rfl;have y3:=((H5.out.alloc (.cells #[textV y,numV z] 103)).get 0 _ _ _ rfl).cell 2 (.slice a0 xs.length c0) rfl;have hsz5:=H5.out.size;clear hr5 ho5 hR5 hz5)))
     ·have H7 : Hid (RdO (FS B g L st5) g w (w6.setCell ⟨G,2,none⟩ (.slice a6 (xs.length + 1) c6)) [(G,#[.int .i64 s,.int .i64 q,.slice a6 (xs.length + 1) c6,.slice none 0 0],32),(w.heap.size,txV 0 0 none 0 0 none 0 0,32)] [⟨103,2,.slice a6 (xs.length + 1) c6,xs.length + 1,xs.flatMap readC ++ readC (⟨y.toArray⟩,z)⟩]):=H6.out.set hl1 2 _
      have RN : Hid (RunZ readP n st2 (k + 1) (txR xs ++ [(y,z)]) st5):=RU.out.next hltk (by unfold readP;exact Res.bind (x:=y) R4.out (Res.bind (x:=z) R5.out (Res.pure _ _)))
      go_wp2
      go_roundw
      case rel=>exact ⟨k + 1,xs ++ [(⟨y.toArray⟩,z)],.slice a6 (xs.length + 1) c6,st5,by omega,by go_num,by rw [List.length_append,List.flatMap_append];simpa using H7.out,(fun x hx=>by
        rcases List.mem_append.1 hx with hx | hx
        ·exact KK.out x hx
        ·simp only [List.mem_cons,List.not_mem_nil,or_false] at hx
         subst hx
         refine ⟨?_,hzl⟩
         show y.toArray.size≤maxLen
         unfold maxLen;simp;omega),by rw [txR_app];exact RN.out⟩
      case measure=>simp [intOf];omega
     ·have H7 : Hid (RdO (FS B g L st5) g w (w6.setCell ⟨G,2,none⟩ (.slice a6 (xs.length + 1) c6)) [(G,#[.int .i64 s,.int .i64 q,.slice a6 (xs.length + 1) c6,.slice none 0 0],32),(w.heap.size,txV 0 0 none 0 0 none 0 0,32)] [⟨103,2,.slice a6 (xs.length + 1) c6,xs.length + 1,xs.flatMap readC ++ readC (⟨y.toArray⟩,z)⟩]):=H6.out.set hl1 2 _
      have RN : Hid (RunZ readP n st2 (k + 1) (txR xs ++ [(y,z)]) st5):=RU.out.next hltk (by unfold readP;exact Res.bind (x:=y) R4.out (Res.bind (x:=z) R5.out (Res.pure _ _)))
      go_wp2
      go_roundw
      case rel=>exact ⟨k + 1,xs ++ [(⟨y.toArray⟩,z)],.slice a6 (xs.length + 1) c6,st5,by omega,by go_num,by rw [List.length_append,List.flatMap_append];simpa using H7.out,(fun x hx=>by
        rcases List.mem_append.1 hx with hx | hx
        ·exact KK.out x hx
        ·simp only [List.mem_cons,List.not_mem_nil,or_false] at hx
         subst hx
         refine ⟨?_,hzl⟩
         show y.toArray.size≤maxLen
         unfold maxLen;simp;omega),by rw [txR_app];exact RN.out⟩
      case measure=>simp [intOf];omega
     ·have H7 : Hid (RdO (FS B g L st5) g w (w6.setCell ⟨G,2,none⟩ (.slice a6 (xs.length + 1) c6)) [(G,#[.int .i64 s,.int .i64 q,.slice a6 (xs.length + 1) c6,.slice none 0 0],32),(w.heap.size,txV 0 0 none 0 0 none 0 0,32)] [⟨103,2,.slice a6 (xs.length + 1) c6,xs.length + 1,xs.flatMap readC ++ readC (⟨y.toArray⟩,z)⟩]):=H6.out.set hl1 2 _
      have RN : Hid (RunZ readP n st2 (k + 1) (txR xs ++ [(y,z)]) st5):=RU.out.next hltk (by unfold readP;exact Res.bind (x:=y) R4.out (Res.bind (x:=z) R5.out (Res.pure _ _)))
      go_wp2
      go_roundw
      case rel=>exact ⟨k + 1,xs ++ [(⟨y.toArray⟩,z)],.slice a6 (xs.length + 1) c6,st5,by omega,by go_num,by rw [List.length_append,List.flatMap_append];simpa using H7.out,(fun x hx=>by
        rcases List.mem_append.1 hx with hx | hx
        ·exact KK.out x hx
        ·simp only [List.mem_cons,List.not_mem_nil,or_false] at hx
         subst hx
         refine ⟨?_,hzl⟩
         show y.toArray.size≤maxLen
         unfold maxLen;simp;omega),by rw [txR_app];exact RN.out⟩
      case measure=>simp [intOf];omega
   ·have hkn : n = k:=by omega
    subst hkn
    have QQ:=hid RU.out.done
    go_wp2
    go_meet
    case rel=>exact ⟨xs,v,st3,OO.out,⟨hxl,KK.out⟩,QQ.out⟩
 case rest =>
 obtain ⟨rs,v1,st4,hO,hk1,hRR⟩:=hcut
 have K1:=hid hk1
 have RL : Hid (Res (listP readP) st1 (txR rs) st4):=by unfold Hid listP;exact Res.bind (x:=n) R3.out hRR
 obtain ⟨ra,rc,e1,_,_⟩:=ownk_form hO.head
 have e1' : v1 = .slice ra rs.length rc:=e1
 clear e1
 subst e1'
 have O1:=hid hO
 clear hO hk1 hRR H3 R3
 go_upto_region 9 with (go_at_call 15;((with_reducible refine (c1 _ _ O1.out.rdr).mono ?_);rintro e w3 ⟨m,st5,rfl,hr3,ho3,hR3,hz3⟩;have H3:=hid (O1.out.only hr3 ho3);have R3:=hid hR3;have hm : m < 256:=num_lt hR3 hz3 (by decide);clear hr3 ho3 hR3 hz3))
 have cv : ∀ s W,FS B g L s W→Calls Tryz.prog 20 #[.pointer (some ⟨g,0,none⟩)] W (Took1 (FS B g L) g valV valP ⟨0,0,[]⟩ s W):=fun s W h=>refTakeVS_any B g L s W h
 clear O1 c1 c8
 go_upto_block 2 with (fail)
 go_cut [8] (fun _ wr => ∃ (xs : List WrM) (v : Value) (st6 : St),RdO (FS B g L st6) g w wr [(G,#[.int .i64 s,.int .i64 q,.slice ra rs.length rc,v],32),(w.heap.size,txV 0 0 none 0 0 none 0 0,32)] [⟨105,4,v,xs.length,xs.flatMap writeC⟩,⟨103,2,.slice ra rs.length rc,rs.length,rs.flatMap readC⟩]∧(xs.length≤255∧∀ x ∈ xs,WrOk x)∧Res (repP (writeP valP) m) st5 (txW xs) st6)
 case first =>
  go_wp2_with (fail)
  go_loopw [8] (fun i wr => ∃ (k : Nat) (xs : List WrM) (v : Value) (st6 : St),k≤m∧i = .int .i64 k∧RdO (FS B g L st6) g w wr [(G,#[.int .i64 s,.int .i64 q,.slice ra rs.length rc,v],32),(w.heap.size,txV 0 0 none 0 0 none 0 0,32)] [⟨105,4,v,xs.length,xs.flatMap writeC⟩,⟨103,2,.slice ra rs.length rc,rs.length,rs.flatMap readC⟩]∧(∀ x ∈ xs,WrOk x)∧RunZ (writeP valP) m st5 k (txW xs) st6) (fun i _=>m - (intOf i).toNat)
  case atStart=>exact ⟨0,[],.slice none 0 0,st5,Nat.zero_le _,rfl,H3.out.none _ _,(fun x hx=>by cases hx),RunZ.start _ _ _⟩
  case round =>
   obtain ⟨k,xs,v,st6,hk,rfl,hO,hok,hrun⟩:=hrel
   have OO:=hid hO
   have KK:=hid hok
   have RU:=hid hrun
   have hxl : xs.length≤255:=by have:=hrun.len;simp only [txW,List.length_map] at this;omega
   clear hO hok hrun H3
   obtain ⟨fl,ff⟩:=OO.out.rdr.flag
   by_cases hltk : k < m
   ·have i1 : (k : Int) < (m : Int):=by omega
    cases st6 with
    | none =>
     go_wp2
     go_meet
     case rel=>exact ⟨xs,v,none,OO.out,⟨hxl,KK.out⟩,RU.out.stop _⟩
    | some r =>
     go_upto_region 13 with (go_at_call 19;((with_reducible refine (ct _ _ OO.out.rdr).mono ?_);rintro e w4 ⟨y,st7,rfl,hr4,ho4,hR4,hz4⟩;have H4:=hid (OO.out.only hr4 ho4);have R4:=hid hR4;have hy : y.length≤12:=text_le hR4 hz4;clear hr4 ho4 hR4 hz4))
     clear fl ff OO
     have x2:=(H4.out.get 0 _ _ _ rfl).cell 3 v rfl
     have H4d:=hid H4.out.drew
     have hsz:=H4.out.size
     obtain ⟨a0,c0,e0,_,_⟩:=ownk_form H4.out.head
     have e0' : v = .slice a0 xs.length c0:=e0
     clear e0
     subst e0'
     go_region_law (first | (refine step_append_rowk _ rfl _ _ 30 rfl w.heap.size 105 iW _ 4 48 Tryz.underlying30 hi2 hz20 hz21 hz22 rfl (by omega) _ xs.length (xs.flatMap writeC) rfl (H5.out.alloc _).head (w5.heap.size + 1) (some ⟨w5.heap.size,0,none⟩) 1 1 (writeC ⟨⟨y.toArray⟩,z.k,z.b,⟨z.t.toArray⟩⟩) rfl (RowAt.oneW w5 ⟨⟨y.toArray⟩,z.k,z.b,⟨z.t.toArray⟩⟩ _) (writeC_cells _) (by unfold maxLen;omega) (by omega) (by simp;omega) ?_;intro v6 w6 ho6 hg6 hat6;obtain ⟨a6,c6,rfl,_,_⟩:=ownk_form ho6;have H6:=hid ((H5.out.alloc _).grow ho6 hg6 hat6);have z6:=(H6.out.get 0 _ _ _ rfl).cell 3 (.slice a0 xs.length c0) rfl;have f6:=(H6.out.get 0 _ _ _ rfl).frozen 3;clear ho6 hg6 hat6) | (go_simp;go_at_call 20;((with_reducible refine (cv _ _ H4d.out.rdr).mono ?_);rintro e w5 ⟨z,st8,rfl,hr5,ho5,hR5,hz5⟩;have H5:=hid (H4d.out.only hr5 ho5);have R5:=hid hR5;have hzl:=val_lt hR5 hz5;have y2:=(H5.out.get 0 _ _ _ rfl).cell 3 (.slice a0 xs.length c0) rfl;have y3:=((H5.out.alloc (.cells #[textV y,.int .i64 z.k,.int .u64 ((z.b : Nat) : Int),.string ⟨z.t.toArray⟩] 105)).get 0 _ _ _ rfl).cell 3 (.slice a0 xs.length c0) rfl;have hsz5:=H5.out.size;clear hr5 ho5 hR5 hz5)))
     ·have H7 : Hid (RdO (FS B g L st8) g w (w6.setCell ⟨G,3,none⟩ (.slice a6 (xs.length + 1) c6)) [(G,#[.int .i64 s,.int .i64 q,.slice ra rs.length rc,.slice a6 (xs.length + 1) c6],32),(w.heap.size,txV 0 0 none 0 0 none 0 0,32)] [⟨105,4,.slice a6 (xs.length + 1) c6,xs.length + 1,xs.flatMap writeC ++ writeC ⟨⟨y.toArray⟩,z.k,z.b,⟨z.t.toArray⟩⟩⟩,⟨103,2,.slice ra rs.length rc,rs.length,rs.flatMap readC⟩]):=H6.out.set hl1 3 _
      have RN : Hid (RunZ (writeP valP) m st5 (k + 1) (txW xs ++ [(y,z)]) st8):=RU.out.next hltk (by unfold writeP;exact Res.bind (x:=y) R4.out (Res.bind (x:=z) R5.out (Res.pure _ _)))
      go_wp2
      go_roundw
      case rel=>exact ⟨k + 1,xs ++ [⟨⟨y.toArray⟩,z.k,z.b,⟨z.t.toArray⟩⟩],.slice a6 (xs.length + 1) c6,st8,by omega,by go_num,by rw [List.length_append,List.flatMap_append];simpa using H7.out,(fun x hx=>by
        rcases List.mem_append.1 hx with hx | hx
        ·exact KK.out x hx
        ·simp only [List.mem_cons,List.not_mem_nil,or_false] at hx
         subst hx
         refine ⟨?_,hzl.1,?_⟩
         ·show y.toArray.size≤maxLen
          unfold maxLen;simp;omega
         ·show z.t.toArray.size≤maxLen
          have:=hzl.2
          unfold maxLen;simp;omega),by rw [txW_app];exact RN.out⟩
      case measure=>simp [intOf];omega
     ·have H7 : Hid (RdO (FS B g L st8) g w (w6.setCell ⟨G,3,none⟩ (.slice a6 (xs.length + 1) c6)) [(G,#[.int .i64 s,.int .i64 q,.slice ra rs.length rc,.slice a6 (xs.length + 1) c6],32),(w.heap.size,txV 0 0 none 0 0 none 0 0,32)] [⟨105,4,.slice a6 (xs.length + 1) c6,xs.length + 1,xs.flatMap writeC ++ writeC ⟨⟨y.toArray⟩,z.k,z.b,⟨z.t.toArray⟩⟩⟩,⟨103,2,.slice ra rs.length rc,rs.length,rs.flatMap readC⟩]):=H6.out.set hl1 3 _
      have RN : Hid (RunZ (writeP valP) m st5 (k + 1) (txW xs ++ [(y,z)]) st8):=RU.out.next hltk (by unfold writeP;exact Res.bind (x:=y) R4.out (Res.bind (x:=z) R5.out (Res.pure _ _)))
      go_wp2
      go_roundw
      case rel=>exact ⟨k + 1,xs ++ [⟨⟨y.toArray⟩,z.k,z.b,⟨z.t.toArray⟩⟩],.slice a6 (xs.length + 1) c6,st8,by omega,by go_num,by rw [List.length_append,List.flatMap_append];simpa using H7.out,(fun x hx=>by
        rcases List.mem_append.1 hx with hx | hx
        ·exact KK.out x hx
        ·simp only [List.mem_cons,List.not_mem_nil,or_false] at hx
         subst hx
         refine ⟨?_,hzl.1,?_⟩
         ·show y.toArray.size≤maxLen
          unfold maxLen;simp;omega
         ·show z.t.toArray.size≤maxLen
          have:=hzl.2
          unfold maxLen;simp;omega),by rw [txW_app];exact RN.out⟩
      case measure=>simp [intOf];omega
     ·have H7 : Hid (RdO (FS B g L st8) g w (w6.setCell ⟨G,3,none⟩ (.slice a6 (xs.length + 1) c6)) [(G,#[.int .i64 s,.int .i64 q,.slice ra rs.length rc,.slice a6 (xs.length + 1) c6],32),(w.heap.size,txV 0 0 none 0 0 none 0 0,32)] [⟨105,4,.slice a6 (xs.length + 1) c6,xs.length + 1,xs.flatMap writeC ++ writeC ⟨⟨y.toArray⟩,z.k,z.b,⟨z.t.toArray⟩⟩⟩,⟨103,2,.slice ra rs.length rc,rs.length,rs.flatMap readC⟩]):=H6.out.set hl1 3 _
      have RN : Hid (RunZ (writeP valP) m st5 (k + 1) (txW xs ++ [(y,z)]) st8):=RU.out.next hltk (by unfold writeP;exact Res.bind (x:=y) R4.out (Res.bind (x:=z) R5.out (Res.pure _ _)))
      go_wp2
      go_roundw
      case rel=>exact ⟨k + 1,xs ++ [⟨⟨y.toArray⟩,z.k,z.b,⟨z.t.toArray⟩⟩],.slice a6 (xs.length + 1) c6,st8,by omega,by go_num,by rw [List.length_append,List.flatMap_append];simpa using H7.out,(fun x hx=>by
        rcases List.mem_append.1 hx with hx | hx
        ·exact KK.out x hx
        ·simp only [List.mem_cons,List.not_mem_nil,or_false] at hx
         subst hx
         refine ⟨?_,hzl.1,?_⟩
         ·show y.toArray.size≤maxLen
          unfold maxLen;simp;omega
         ·show z.t.toArray.size≤maxLen
          have:=hzl.2
          unfold maxLen;simp;omega),by rw [txW_app];exact RN.out⟩
      case measure=>simp [intOf];omega
   ·have hkn : m = k:=by omega
    subst hkn
    have QQ:=hid RU.out.done
    go_wp2
    go_meet
    case rel=>exact ⟨xs,v,st6,OO.out,⟨hxl,KK.out⟩,QQ.out⟩
 case rest =>
 obtain ⟨ws,v2,st6,hO,hk2,hRR⟩:=hcut
 have K2:=hid hk2
 have RW : Hid (Res (listP (writeP valP)) st4 (txW ws) st6):=by unfold Hid listP;exact Res.bind (x:=m) R3.out hRR
 obtain ⟨wa,wc',e2,_,_⟩:=ownk_form hO.head
 have e2' : v2 = .slice wa ws.length wc':=e2
 clear e2
 subst e2'
 have H6 : Hid (RdO (FS B g L st6) g w _ [(G,txV s q ra rs.length rc wa ws.length wc',32),(w.heap.size,txV 0 0 none 0 0 none 0 0,32)] [⟨105,4,.slice wa ws.length wc',ws.length,ws.flatMap writeC⟩,⟨103,2,.slice ra rs.length rc,rs.length,rs.flatMap readC⟩]):=hO
 have RR:=hid (res_txn R1.out RL.out RW.out)
 clear hO hk2 hRR H3 R3 R1 RL RW
 have hl2 : ∀ x ∈ ([(G,txV s q ra rs.length rc wa ws.length wc',32)] : List (Nat×Array Value×TypeId)),x.1≠w.heap.size:=by simp;omega
 have cF:=rFormedT_any s q ra rs.length rc wa ws.length wc' rs ws _ (TxAt.rows (RowAt.of_own (H6.out.own 1 _ rfl)) (RowAt.of_own (H6.out.own 0 _ rfl)) K1.out.2 K2.out.2)
 obtain ⟨fl,ff⟩:=H6.out.rdr.flag
 obtain ⟨x0,x1,x2,x3⟩:=(H6.out.get 0 _ _ _ rfl).four
 obtain ⟨z0,z1,z2,z3⟩:=(H6.out.get 1 _ _ _ rfl).four
 have f0:=(H6.out.get 1 _ _ _ rfl).frozen 0
 have f1:=(H6.out.get 1 _ _ _ rfl).frozen 1
 have f2:=(H6.out.get 1 _ _ _ rfl).frozen 2
 have f3:=(H6.out.get 1 _ _ _ rfl).frozen 3
 cases st6 with
 | none =>
  have Q:=hid (RR.out.guard_no (c:=formT formedB) (txT (0,0) [] []))
  clear RR cF
  have H7:=H6.out.only (rd':=FS B g L none) H6.out.rdr.fails (only_set _ g 2 _)
  go_wp2
  have H9:=(((H7.tail.set (fun _ h=>by cases h) 0 (.int .i64 0)).set (fun _ h=>by cases h) 1 (.int .i64 0)).set (fun _ h=>by cases h) 2 (.slice none 0 0)).set (fun _ h=>by cases h) 3 (.slice none 0 0)
  exact bodyPost_ret (v:=.agg (txV 0 0 none 0 0 none 0 0)) (by simp [results,Tryz.results44,go_sem,z0,z1,z2,z3]) rfl ⟨0,0,none,0,0,none,0,0,[],[],none,rfl,H9.rdr,H9.onl,TxAt.nil,⟨by omega,by omega⟩,Q.out,fun _=>⟨⟨rfl,rfl⟩,rfl,rfl⟩⟩
 | some r =>
  cases hf : formT formedB (txT (s,q) rs ws)
  ·rw [hf] at cF
   have Q:=hid (RR.out.guard_bad (c:=formT formedB) hf (txT (0,0) [] []))
   clear hf RR
   go_wp2_with (go_at_call 77;((with_reducible refine cF.mono ?_);rintro e w7 ⟨rfl,hb7⟩;have H8:=hid (H6.out.below hb7);(clear x0 x1 x2 x3 z0 z1 z2 z3 f0 f1 f2 f3 fl ff);obtain ⟨fl,ff⟩:=H8.out.rdr.flag;obtain ⟨x0,x1,x2,x3⟩:=(H8.out.get 0 _ _ _ rfl).four;obtain ⟨z0,z1,z2,z3⟩:=(H8.out.get 1 _ _ _ rfl).four;have f0:=(H8.out.get 1 _ _ _ rfl).frozen 0;have f1:=(H8.out.get 1 _ _ _ rfl).frozen 1;have f2:=(H8.out.get 1 _ _ _ rfl).frozen 2;have f3:=(H8.out.get 1 _ _ _ rfl).frozen 3))
   have H7:=H8.out.only (rd':=FS B g L none) H8.out.rdr.fails (only_set _ g 2 _)
   have H9:=(((H7.tail.set (fun _ h=>by cases h) 0 (.int .i64 0)).set (fun _ h=>by cases h) 1 (.int .i64 0)).set (fun _ h=>by cases h) 2 (.slice none 0 0)).set (fun _ h=>by cases h) 3 (.slice none 0 0)
   exact bodyPost_ret (v:=.agg (txV 0 0 none 0 0 none 0 0)) (by simp [results,Tryz.results44,go_sem,z0,z1,z2,z3]) rfl ⟨0,0,none,0,0,none,0,0,[],[],none,rfl,H9.rdr,H9.onl,TxAt.nil,⟨by omega,by omega⟩,Q.out,fun _=>⟨⟨rfl,rfl⟩,rfl,rfl⟩⟩
  ·rw [hf] at cF
   have Q:=hid (RR.out.guard_yes (c:=formT formedB) hf)
   clear hf RR
   go_wp2_with (go_at_call 77;((with_reducible refine cF.mono ?_);rintro e w7 ⟨rfl,hb7⟩;have H8:=hid (H6.out.below hb7);(clear x0 x1 x2 x3 z0 z1 z2 z3 f0 f1 f2 f3 fl ff);obtain ⟨fl,ff⟩:=H8.out.rdr.flag;obtain ⟨x0,x1,x2,x3⟩:=(H8.out.get 0 _ _ _ rfl).four;obtain ⟨z0,z1,z2,z3⟩:=(H8.out.get 1 _ _ _ rfl).four;have f0:=(H8.out.get 1 _ _ _ rfl).frozen 0;have f1:=(H8.out.get 1 _ _ _ rfl).frozen 1;have f2:=(H8.out.get 1 _ _ _ rfl).frozen 2;have f3:=(H8.out.get 1 _ _ _ rfl).frozen 3))
   have H9:=(((H8.out.swap.set hl2 0 (.int .i64 s)).set hl2 1 (.int .i64 q)).set hl2 2 (.slice ra rs.length rc)).set hl2 3 (.slice wa ws.length wc')
   exact bodyPost_ret (v:=.agg (txV s q ra rs.length rc wa ws.length wc')) (by simp [results,Tryz.results44,go_sem,z0,z1,z2,z3]) rfl ⟨s,q,ra,rs.length,rc,wa,ws.length,wc',rs,ws,some r,rfl,H9.rdr,H9.onl,TxAt.rows (RowAt.of_own (H9.own 1 _ rfl)) (RowAt.of_own (H9.own 0 _ rfl)) K1.out.2 K2.out.2,⟨K1.out.1,K2.out.1⟩,Q.out,fun e=>by cases e⟩
theorem FS.same {B g : Nat} {L l : List UInt8} {W : World} (h : FS B g L (some l) W) : FS B g L (some l) (W.setCell ⟨g,2,none⟩ (.bool false)):=by
 obtain ⟨k,⟨a,n,c,hh,h1,h2,hl,h3,h4⟩,hk⟩:=h
 refine ⟨k,⟨a,n,c,set_row hh 2 (.bool false),h1,h2,hl.moved (Nat.le_refl _) (fun b off _ _ hb=>Below.heap_setCell _ _ _ _ (by show b≠g;omega)),h3,h4⟩,hk⟩
theorem dTake_any (B g : Nat) (L : List UInt8) (st : St) (w : World) (h : FS B g L st w) :
  Calls Tryz.prog 43 #[.pointer (some ⟨g,0,none⟩)] w (GotC (FS B g L) g st w):=by
 have hlt:=h.lt
 have H0:=hid ((RdO.start h hlt).more zeroV 44)
 have c1 : ∀ s W,FS B g L s W→Calls Tryz.prog 15 #[.pointer (some ⟨g,0,none⟩),.int .i64 1] W (Took1 (FS B g L) g numV (numP 1) 0 s W):=fun s W h=>refTakeS_any B g L 1 s W h (by omega)
 have c8 : ∀ s W,FS B g L s W→Calls Tryz.prog 15 #[.pointer (some ⟨g,0,none⟩),.int .i64 8] W (Took1 (FS B g L) g numV (numP 8) 0 s W):=fun s W h=>refTakeS_any B g L 8 s W h (by omega)
 clear h
 go_enter Tryz.func43,Tryz.ntmps43
 go_upto_region 2 with (go_at_call 15;((with_reducible refine (c1 _ _ H0.out.rdr).mono ?_);rintro e w1 ⟨k,st1,rfl,hr1,ho1,hR1,hz1⟩;have H1:=hid (H0.out.only hr1 ho1);have R1:=hid hR1;have hk : k < 256:=num_lt hR1 hz1 (by decide);clear hr1 ho1 hR1 hz1))
 have H2:=hid (H1.out.more #[.int .i64 ((k : Nat) : Int),.int .i64 0,.int .i64 0,.slice none 0 0,.slice none 0 0,.int .i64 0,.int .i64 0,.int .i64 0,.int .u64 0,.bool false] 44)
 have hG : w.heap.size < w1.heap.size:=(H1.out.get 0 _ _ _ rfl).lt
 clear H0 H1
 generalize w1.alloc (.cells #[.int .i64 ((k : Nat) : Int),.int .i64 0,.int .i64 0,.slice none 0 0,.slice none 0 0,.int .i64 0,.int .i64 0,.int .i64 0,.int .u64 0,.bool false] 44) = W2 at *
 generalize w1.heap.size = G at *
 have hgG : g≠G:=by omega
 have hgw : g≠w.heap.size:=by omega
 have hGw : G≠w.heap.size:=by omega
 have hl1 : ∀ x ∈ ([(w.heap.size,zeroV,44)] : List (Nat×Array Value×TypeId)),x.1≠G:=by simp;omega
 obtain ⟨x0,x1,x2,x3,x4,x5,x6,x7,x8,x9⟩:=(H2.out.get 0 _ _ _ rfl).ten;have e0:=(H2.out.get 0 _ _ _ rfl).frozen 0;have e1:=(H2.out.get 0 _ _ _ rfl).frozen 1;have e2:=(H2.out.get 0 _ _ _ rfl).frozen 2;have e3:=(H2.out.get 0 _ _ _ rfl).frozen 3;have e4:=(H2.out.get 0 _ _ _ rfl).frozen 4;have e5:=(H2.out.get 0 _ _ _ rfl).frozen 5;have e6:=(H2.out.get 0 _ _ _ rfl).frozen 6;have e7:=(H2.out.get 0 _ _ _ rfl).frozen 7;have e8:=(H2.out.get 0 _ _ _ rfl).frozen 8;have e9:=(H2.out.get 0 _ _ _ rfl).frozen 9;obtain ⟨z0,z1,z2,z3,z4,z5,z6,z7,z8,z9⟩:=(H2.out.get 1 _ _ _ rfl).ten;have f0:=(H2.out.get 1 _ _ _ rfl).frozen 0;have f1:=(H2.out.get 1 _ _ _ rfl).frozen 1;have f2:=(H2.out.get 1 _ _ _ rfl).frozen 2;have f3:=(H2.out.get 1 _ _ _ rfl).frozen 3;have f4:=(H2.out.get 1 _ _ _ rfl).frozen 4;have f5:=(H2.out.get 1 _ _ _ rfl).frozen 5;have f6:=(H2.out.get 1 _ _ _ rfl).frozen 6;have f7:=(H2.out.get 1 _ _ _ rfl).frozen 7;have f8:=(H2.out.get 1 _ _ _ rfl).frozen 8;have f9:=(H2.out.get 1 _ _ _ rfl).frozen 9;obtain ⟨fl,ff⟩:=H2.out.rdr.flag
 by_cases h1 : k = 1
 ·have q1 : (((k : Nat) : Int) == 1) = true:=by simp;omega
  have q2 : (((k : Nat) : Int) == 2) = false:=by simp;omega
  have q3 : (((k : Nat) : Int) == 3) = false:=by simp;omega
  have K1:=hid h1
  clear h1
  go_upto_region 4 with (go_at_call 44;((with_reducible refine (rTake_any B g L _ _ H2.out.rdr).mono ?_);rintro e w3 ⟨s,q,a,n,c,b,m,d,rs,ws,st2,rfl,hr3,ho3,hT3,hn3,hR3,hz3⟩;have H3:=hid (H2.out.only hr3 ho3);have R3:=hid hR3;have T3:=hid hT3;(clear x0 x1 x2 x3 x4 x5 x6 x7 x8 x9 e0 e1 e2 e3 e4 e5 e6 e7 e8 e9 z0 z1 z2 z3 z4 z5 z6 z7 z8 z9 f0 f1 f2 f3 f4 f5 f6 f7 f8 f9 fl ff);obtain ⟨x0,x1,x2,x3,x4,x5,x6,x7,x8,x9⟩:=(H3.out.get 0 _ _ _ rfl).ten;have e0:=(H3.out.get 0 _ _ _ rfl).frozen 0;have e1:=(H3.out.get 0 _ _ _ rfl).frozen 1;have e2:=(H3.out.get 0 _ _ _ rfl).frozen 2;have e3:=(H3.out.get 0 _ _ _ rfl).frozen 3;have e4:=(H3.out.get 0 _ _ _ rfl).frozen 4;have e5:=(H3.out.get 0 _ _ _ rfl).frozen 5;have e6:=(H3.out.get 0 _ _ _ rfl).frozen 6;have e7:=(H3.out.get 0 _ _ _ rfl).frozen 7;have e8:=(H3.out.get 0 _ _ _ rfl).frozen 8;have e9:=(H3.out.get 0 _ _ _ rfl).frozen 9;obtain ⟨z0,z1,z2,z3,z4,z5,z6,z7,z8,z9⟩:=(H3.out.get 1 _ _ _ rfl).ten;have f0:=(H3.out.get 1 _ _ _ rfl).frozen 0;have f1:=(H3.out.get 1 _ _ _ rfl).frozen 1;have f2:=(H3.out.get 1 _ _ _ rfl).frozen 2;have f3:=(H3.out.get 1 _ _ _ rfl).frozen 3;have f4:=(H3.out.get 1 _ _ _ rfl).frozen 4;have f5:=(H3.out.get 1 _ _ _ rfl).frozen 5;have f6:=(H3.out.get 1 _ _ _ rfl).frozen 6;have f7:=(H3.out.get 1 _ _ _ rfl).frozen 7;have f8:=(H3.out.get 1 _ _ _ rfl).frozen 8;have f9:=(H3.out.get 1 _ _ _ rfl).frozen 9;obtain ⟨fl,ff⟩:=H3.out.rdr.flag;clear hr3 ho3 hT3 hR3 hz3))
  have H4 : Hid (RdO (FS B g L st2) g w ((((w3.setCell ⟨G,1,none⟩ (.int .i64 s)).setCell ⟨G,2,none⟩ (.int .i64 q)).setCell ⟨G,3,none⟩ (.slice a n c)).setCell ⟨G,4,none⟩ (.slice b m d)) [(G,#[.int .i64 ((k : Nat) : Int),.int .i64 s,.int .i64 q,.slice a n c,.slice b m d,.int .i64 0,.int .i64 0,.int .i64 0,.int .u64 0,.bool false],44),(w.heap.size,zeroV,44)] []):=((((H3.out.set hl1 1 (.int .i64 s)).set hl1 2 (.int .i64 q)).set hl1 3 (.slice a n c)).set hl1 4 (.slice b m d))
  have T4 : Hid (TxAt ((((w3.setCell ⟨G,1,none⟩ (.int .i64 s)).setCell ⟨G,2,none⟩ (.int .i64 q)).setCell ⟨G,3,none⟩ (.slice a n c)).setCell ⟨G,4,none⟩ (.slice b m d)) a n b m rs ws):=((((show TxB w3 G _ 44 a n b m rs ws from ⟨⟨H3.out.get 0 _ _ _ rfl,noStr_cm _ _ _ _ _ _ _ _ _ _ (by simp) (by simp) (by simp) (by simp) (by simp) (by simp) (by simp) (by simp) (by simp) (by simp) ⟩,T3.out⟩).set 1 (.int .i64 s) (by simp)).set 2 (.int .i64 q) (by simp)).set 3 (.slice a n c) (by simp)).set 4 (.slice b m d) (by simp) |>.2
  (clear x0 x1 x2 x3 x4 x5 x6 x7 x8 x9 e0 e1 e2 e3 e4 e5 e6 e7 e8 e9 z0 z1 z2 z3 z4 z5 z6 z7 z8 z9 f0 f1 f2 f3 f4 f5 f6 f7 f8 f9 fl ff)
  clear H2 H3 T3
  generalize (((w3.setCell ⟨G,1,none⟩ (.int .i64 s)).setCell ⟨G,2,none⟩ (.int .i64 q)).setCell ⟨G,3,none⟩ (.slice a n c)).setCell ⟨G,4,none⟩ (.slice b m d) = W4 at *
  have RR:=hid (res_begin R1.out K1.out R3.out)
  obtain ⟨x0,x1,x2,x3,x4,x5,x6,x7,x8,x9⟩:=(H4.out.get 0 _ _ _ rfl).ten;have e0:=(H4.out.get 0 _ _ _ rfl).frozen 0;have e1:=(H4.out.get 0 _ _ _ rfl).frozen 1;have e2:=(H4.out.get 0 _ _ _ rfl).frozen 2;have e3:=(H4.out.get 0 _ _ _ rfl).frozen 3;have e4:=(H4.out.get 0 _ _ _ rfl).frozen 4;have e5:=(H4.out.get 0 _ _ _ rfl).frozen 5;have e6:=(H4.out.get 0 _ _ _ rfl).frozen 6;have e7:=(H4.out.get 0 _ _ _ rfl).frozen 7;have e8:=(H4.out.get 0 _ _ _ rfl).frozen 8;have e9:=(H4.out.get 0 _ _ _ rfl).frozen 9;obtain ⟨z0,z1,z2,z3,z4,z5,z6,z7,z8,z9⟩:=(H4.out.get 1 _ _ _ rfl).ten;have f0:=(H4.out.get 1 _ _ _ rfl).frozen 0;have f1:=(H4.out.get 1 _ _ _ rfl).frozen 1;have f2:=(H4.out.get 1 _ _ _ rfl).frozen 2;have f3:=(H4.out.get 1 _ _ _ rfl).frozen 3;have f4:=(H4.out.get 1 _ _ _ rfl).frozen 4;have f5:=(H4.out.get 1 _ _ _ rfl).frozen 5;have f6:=(H4.out.get 1 _ _ _ rfl).frozen 6;have f7:=(H4.out.get 1 _ _ _ rfl).frozen 7;have f8:=(H4.out.get 1 _ _ _ rfl).frozen 8;have f9:=(H4.out.get 1 _ _ _ rfl).frozen 9;obtain ⟨fl,ff⟩:=H4.out.rdr.flag
  cases st2 with
  | none =>
   have Q:=hid (RR.out.guard_no (c:=formCm) (cmT zeroM [] []))
   go_wp2
   have H9 : RdO (FS B g L none) g w (W4.setCell ⟨g,2,none⟩ (.bool true)) _ []:=H4.out.only H4.out.rdr.fails (only_set W4 g 2 _)
   have F:=H9.tail.fill (fun _ h=>by cases h) (.int .i64 0) (.int .i64 0) (.int .i64 0) (.slice none 0 0) (.slice none 0 0) (.int .i64 0) (.int .i64 0) (.int .i64 0) (.int .u64 0) (.bool false)
   exact bodyPost_ret (v:=.agg zeroV) (by simp [results,Tryz.results43,go_sem,z0,z1,z2,z3,z4,z5,z6,z7,z8,z9]) rfl ⟨zeroM,[],[],none,rfl,F.rdr,F.onl,CmAt.zero,⟨Nat.zero_le _,Nat.zero_le _⟩,Q.out,fun _=>rfl⟩
  | some r =>
   have cF : ∀ V,V = W4→Calls Tryz.prog 76 #[.agg #[.int .i64 ((k : Nat) : Int),.int .i64 s,.int .i64 q,.slice a n c,.slice b m d,.int .i64 0,.int .i64 0,.int .i64 0,.int .u64 0,.bool false]] V (Says V (formCm (cmT (⟨(k : Int),s,q,a,n,c,b,m,d,0,0,0,0,false⟩ : CmM) rs ws))):=fun V e=>by subst e;exact dFormed_any (⟨(k : Int),s,q,a,n,c,b,m,d,0,0,0,0,false⟩ : CmM) rs ws _ ⟨T4.out,(by show 0 < 18446744073709551616;decide)⟩ (by dsimp only;omega) (by dsimp only;omega)
   have TX : Hid (TxAt W4 (⟨(k : Int),s,q,a,n,c,b,m,d,0,0,0,0,false⟩ : CmM).a (⟨(k : Int),s,q,a,n,c,b,m,d,0,0,0,0,false⟩ : CmM).n (⟨(k : Int),s,q,a,n,c,b,m,d,0,0,0,0,false⟩ : CmM).b (⟨(k : Int),s,q,a,n,c,b,m,d,0,0,0,0,false⟩ : CmM).m rs ws):=T4.out
   cases hf : formCm (cmT (⟨(k : Int),s,q,a,n,c,b,m,d,0,0,0,0,false⟩ : CmM) rs ws)
   ·rw [hf] at cF
    have Q:=hid (RR.out.guard_bad (c:=formCm) hf (cmT zeroM [] []))
    clear hf
    go_wp2_with (go_at_call 76;((with_reducible refine (cF _ rfl).mono ?_);rintro e w8 ⟨rfl,hb8⟩;have H8:=hid (H4.out.below hb8);(clear x0 x1 x2 x3 x4 x5 x6 x7 x8 x9 e0 e1 e2 e3 e4 e5 e6 e7 e8 e9 z0 z1 z2 z3 z4 z5 z6 z7 z8 z9 f0 f1 f2 f3 f4 f5 f6 f7 f8 f9 fl ff);obtain ⟨x0,x1,x2,x3,x4,x5,x6,x7,x8,x9⟩:=(H8.out.get 0 _ _ _ rfl).ten;have e0:=(H8.out.get 0 _ _ _ rfl).frozen 0;have e1:=(H8.out.get 0 _ _ _ rfl).frozen 1;have e2:=(H8.out.get 0 _ _ _ rfl).frozen 2;have e3:=(H8.out.get 0 _ _ _ rfl).frozen 3;have e4:=(H8.out.get 0 _ _ _ rfl).frozen 4;have e5:=(H8.out.get 0 _ _ _ rfl).frozen 5;have e6:=(H8.out.get 0 _ _ _ rfl).frozen 6;have e7:=(H8.out.get 0 _ _ _ rfl).frozen 7;have e8:=(H8.out.get 0 _ _ _ rfl).frozen 8;have e9:=(H8.out.get 0 _ _ _ rfl).frozen 9;obtain ⟨z0,z1,z2,z3,z4,z5,z6,z7,z8,z9⟩:=(H8.out.get 1 _ _ _ rfl).ten;have f0:=(H8.out.get 1 _ _ _ rfl).frozen 0;have f1:=(H8.out.get 1 _ _ _ rfl).frozen 1;have f2:=(H8.out.get 1 _ _ _ rfl).frozen 2;have f3:=(H8.out.get 1 _ _ _ rfl).frozen 3;have f4:=(H8.out.get 1 _ _ _ rfl).frozen 4;have f5:=(H8.out.get 1 _ _ _ rfl).frozen 5;have f6:=(H8.out.get 1 _ _ _ rfl).frozen 6;have f7:=(H8.out.get 1 _ _ _ rfl).frozen 7;have f8:=(H8.out.get 1 _ _ _ rfl).frozen 8;have f9:=(H8.out.get 1 _ _ _ rfl).frozen 9;obtain ⟨fl,ff⟩:=H8.out.rdr.flag))
    have H9 : RdO (FS B g L none) g w (w8.setCell ⟨g,2,none⟩ (.bool true)) _ []:=H8.out.only H8.out.rdr.fails (only_set w8 g 2 _)
    have F:=H9.tail.fill (fun _ h=>by cases h) (.int .i64 0) (.int .i64 0) (.int .i64 0) (.slice none 0 0) (.slice none 0 0) (.int .i64 0) (.int .i64 0) (.int .i64 0) (.int .u64 0) (.bool false)
    exact bodyPost_ret (v:=.agg zeroV) (by simp [results,Tryz.results43,go_sem,z0,z1,z2,z3,z4,z5,z6,z7,z8,z9]) rfl ⟨zeroM,[],[],none,rfl,F.rdr,F.onl,CmAt.zero,⟨Nat.zero_le _,Nat.zero_le _⟩,Q.out,fun _=>rfl⟩
   ·rw [hf] at cF
    have Q:=hid (RR.out.guard_yes (c:=formCm) hf)
    clear hf
    have hl2 : ∀ z ∈ ([(G,#[.int .i64 ((k : Nat) : Int),.int .i64 s,.int .i64 q,.slice a n c,.slice b m d,.int .i64 0,.int .i64 0,.int .i64 0,.int .u64 0,.bool false],44)] : List (Nat×Array Value×TypeId)),z.1≠w.heap.size:=by simp;omega
    go_wp2_with (go_at_call 76;((with_reducible refine (cF _ rfl).mono ?_);rintro e w8 ⟨rfl,hb8⟩;have H8:=hid (H4.out.below hb8);(clear x0 x1 x2 x3 x4 x5 x6 x7 x8 x9 e0 e1 e2 e3 e4 e5 e6 e7 e8 e9 z0 z1 z2 z3 z4 z5 z6 z7 z8 z9 f0 f1 f2 f3 f4 f5 f6 f7 f8 f9 fl ff);obtain ⟨x0,x1,x2,x3,x4,x5,x6,x7,x8,x9⟩:=(H8.out.get 0 _ _ _ rfl).ten;have e0:=(H8.out.get 0 _ _ _ rfl).frozen 0;have e1:=(H8.out.get 0 _ _ _ rfl).frozen 1;have e2:=(H8.out.get 0 _ _ _ rfl).frozen 2;have e3:=(H8.out.get 0 _ _ _ rfl).frozen 3;have e4:=(H8.out.get 0 _ _ _ rfl).frozen 4;have e5:=(H8.out.get 0 _ _ _ rfl).frozen 5;have e6:=(H8.out.get 0 _ _ _ rfl).frozen 6;have e7:=(H8.out.get 0 _ _ _ rfl).frozen 7;have e8:=(H8.out.get 0 _ _ _ rfl).frozen 8;have e9:=(H8.out.get 0 _ _ _ rfl).frozen 9;obtain ⟨z0,z1,z2,z3,z4,z5,z6,z7,z8,z9⟩:=(H8.out.get 1 _ _ _ rfl).ten;have f0:=(H8.out.get 1 _ _ _ rfl).frozen 0;have f1:=(H8.out.get 1 _ _ _ rfl).frozen 1;have f2:=(H8.out.get 1 _ _ _ rfl).frozen 2;have f3:=(H8.out.get 1 _ _ _ rfl).frozen 3;have f4:=(H8.out.get 1 _ _ _ rfl).frozen 4;have f5:=(H8.out.get 1 _ _ _ rfl).frozen 5;have f6:=(H8.out.get 1 _ _ _ rfl).frozen 6;have f7:=(H8.out.get 1 _ _ _ rfl).frozen 7;have f8:=(H8.out.get 1 _ _ _ rfl).frozen 8;have f9:=(H8.out.get 1 _ _ _ rfl).frozen 9;obtain ⟨fl,ff⟩:=H8.out.rdr.flag))
    have F:=H8.out.swap.fill hl2 (.int .i64 ((k : Nat) : Int)) (.int .i64 s) (.int .i64 q) (.slice a n c) (.slice b m d) (.int .i64 0) (.int .i64 0) (.int .i64 0) (.int .u64 0) (.bool false)
    have TB : TxB w8 w.heap.size zeroV 44 (⟨(k : Int),s,q,a,n,c,b,m,d,0,0,0,0,false⟩ : CmM).a (⟨(k : Int),s,q,a,n,c,b,m,d,0,0,0,0,false⟩ : CmM).n (⟨(k : Int),s,q,a,n,c,b,m,d,0,0,0,0,false⟩ : CmM).b (⟨(k : Int),s,q,a,n,c,b,m,d,0,0,0,0,false⟩ : CmM).m rs ws:=⟨⟨H8.out.get 1 _ _ _ rfl,noStr_cm _ _ _ _ _ _ _ _ _ _ (by simp) (by simp) (by simp) (by simp) (by simp) (by simp) (by simp) (by simp) (by simp) (by simp) ⟩,TX.out.later hb8⟩
    have FT:=TB.fill (.int .i64 ((k : Nat) : Int)) (.int .i64 s) (.int .i64 q) (.slice a n c) (.slice b m d) (.int .i64 0) (.int .i64 0) (.int .i64 0) (.int .u64 0) (.bool false) (by simp) (by simp) (by simp) (by simp) (by simp) (by simp) (by simp) (by simp) (by simp) (by simp) 
    exact bodyPost_ret (v:=.agg #[.int .i64 ((k : Nat) : Int),.int .i64 s,.int .i64 q,.slice a n c,.slice b m d,.int .i64 0,.int .i64 0,.int .i64 0,.int .u64 0,.bool false]) (by simp [results,Tryz.results43,go_sem,z0,z1,z2,z3,z4,z5,z6,z7,z8,z9]) rfl ⟨(⟨(k : Int),s,q,a,n,c,b,m,d,0,0,0,0,false⟩ : CmM),rs,ws,some r,rfl,F.rdr,F.onl,⟨FT,(by show 0 < 18446744073709551616;decide)⟩,hn3,Q.out,fun e=>by cases e⟩
 have q1 : (((k : Nat) : Int) == 1) = false:=by simp;omega
 by_cases h2 : k = 2
 ·have q2 : (((k : Nat) : Int) == 2) = true:=by simp;omega
  have q3 : (((k : Nat) : Int) == 3) = false:=by simp;omega
  have K1:=hid h2
  clear h2
  go_upto_region 6 with (go_at_call 18;((with_reducible refine (rTakeId_any B g L _ _ H2.out.rdr).mono ?_);rintro e w3 ⟨⟨i,j⟩,st2,rfl,hr3,ho3,hR3,hz3⟩;have H3:=hid (H2.out.only hr3 ho3);have R3:=hid hR3;(clear x0 x1 x2 x3 x4 x5 x6 x7 x8 x9 e0 e1 e2 e3 e4 e5 e6 e7 e8 e9 z0 z1 z2 z3 z4 z5 z6 z7 z8 z9 f0 f1 f2 f3 f4 f5 f6 f7 f8 f9 fl ff);obtain ⟨x0,x1,x2,x3,x4,x5,x6,x7,x8,x9⟩:=(H3.out.get 0 _ _ _ rfl).ten;have e0:=(H3.out.get 0 _ _ _ rfl).frozen 0;have e1:=(H3.out.get 0 _ _ _ rfl).frozen 1;have e2:=(H3.out.get 0 _ _ _ rfl).frozen 2;have e3:=(H3.out.get 0 _ _ _ rfl).frozen 3;have e4:=(H3.out.get 0 _ _ _ rfl).frozen 4;have e5:=(H3.out.get 0 _ _ _ rfl).frozen 5;have e6:=(H3.out.get 0 _ _ _ rfl).frozen 6;have e7:=(H3.out.get 0 _ _ _ rfl).frozen 7;have e8:=(H3.out.get 0 _ _ _ rfl).frozen 8;have e9:=(H3.out.get 0 _ _ _ rfl).frozen 9;obtain ⟨z0,z1,z2,z3,z4,z5,z6,z7,z8,z9⟩:=(H3.out.get 1 _ _ _ rfl).ten;have f0:=(H3.out.get 1 _ _ _ rfl).frozen 0;have f1:=(H3.out.get 1 _ _ _ rfl).frozen 1;have f2:=(H3.out.get 1 _ _ _ rfl).frozen 2;have f3:=(H3.out.get 1 _ _ _ rfl).frozen 3;have f4:=(H3.out.get 1 _ _ _ rfl).frozen 4;have f5:=(H3.out.get 1 _ _ _ rfl).frozen 5;have f6:=(H3.out.get 1 _ _ _ rfl).frozen 6;have f7:=(H3.out.get 1 _ _ _ rfl).frozen 7;have f8:=(H3.out.get 1 _ _ _ rfl).frozen 8;have f9:=(H3.out.get 1 _ _ _ rfl).frozen 9;obtain ⟨fl,ff⟩:=H3.out.rdr.flag;clear hr3 ho3 hR3 hz3))
  have H4 : Hid (RdO (FS B g L st2) g w ((w3.setCell ⟨G,5,none⟩ (.int .i64 i)).setCell ⟨G,6,none⟩ (.int .i64 j)) [(G,#[.int .i64 ((k : Nat) : Int),.int .i64 0,.int .i64 0,.slice none 0 0,.slice none 0 0,.int .i64 i,.int .i64 j,.int .i64 0,.int .u64 0,.bool false],44),(w.heap.size,zeroV,44)] []):=((H3.out.set hl1 5 (.int .i64 i)).set hl1 6 (.int .i64 j))
  (clear x0 x1 x2 x3 x4 x5 x6 x7 x8 x9 e0 e1 e2 e3 e4 e5 e6 e7 e8 e9 z0 z1 z2 z3 z4 z5 z6 z7 z8 z9 f0 f1 f2 f3 f4 f5 f6 f7 f8 f9 fl ff)
  clear H2 H3
  generalize (w3.setCell ⟨G,5,none⟩ (.int .i64 i)).setCell ⟨G,6,none⟩ (.int .i64 j) = W4 at *
  obtain ⟨x0,x1,x2,x3,x4,x5,x6,x7,x8,x9⟩:=(H4.out.get 0 _ _ _ rfl).ten;have e0:=(H4.out.get 0 _ _ _ rfl).frozen 0;have e1:=(H4.out.get 0 _ _ _ rfl).frozen 1;have e2:=(H4.out.get 0 _ _ _ rfl).frozen 2;have e3:=(H4.out.get 0 _ _ _ rfl).frozen 3;have e4:=(H4.out.get 0 _ _ _ rfl).frozen 4;have e5:=(H4.out.get 0 _ _ _ rfl).frozen 5;have e6:=(H4.out.get 0 _ _ _ rfl).frozen 6;have e7:=(H4.out.get 0 _ _ _ rfl).frozen 7;have e8:=(H4.out.get 0 _ _ _ rfl).frozen 8;have e9:=(H4.out.get 0 _ _ _ rfl).frozen 9;obtain ⟨z0,z1,z2,z3,z4,z5,z6,z7,z8,z9⟩:=(H4.out.get 1 _ _ _ rfl).ten;have f0:=(H4.out.get 1 _ _ _ rfl).frozen 0;have f1:=(H4.out.get 1 _ _ _ rfl).frozen 1;have f2:=(H4.out.get 1 _ _ _ rfl).frozen 2;have f3:=(H4.out.get 1 _ _ _ rfl).frozen 3;have f4:=(H4.out.get 1 _ _ _ rfl).frozen 4;have f5:=(H4.out.get 1 _ _ _ rfl).frozen 5;have f6:=(H4.out.get 1 _ _ _ rfl).frozen 6;have f7:=(H4.out.get 1 _ _ _ rfl).frozen 7;have f8:=(H4.out.get 1 _ _ _ rfl).frozen 8;have f9:=(H4.out.get 1 _ _ _ rfl).frozen 9;obtain ⟨fl,ff⟩:=H4.out.rdr.flag
  go_upto_region 7 with (go_at_call 15;((with_reducible refine (c1 _ _ H4.out.rdr).mono ?_);rintro e w5 ⟨J,st3,rfl,hr5,ho5,hR5,hz5⟩;have H5:=hid (H4.out.only hr5 ho5);have R5:=hid hR5;have hJ : J < 256:=num_lt hR5 hz5 (by decide);(clear x0 x1 x2 x3 x4 x5 x6 x7 x8 x9 e0 e1 e2 e3 e4 e5 e6 e7 e8 e9 z0 z1 z2 z3 z4 z5 z6 z7 z8 z9 f0 f1 f2 f3 f4 f5 f6 f7 f8 f9 fl ff);obtain ⟨x0,x1,x2,x3,x4,x5,x6,x7,x8,x9⟩:=(H5.out.get 0 _ _ _ rfl).ten;have e0:=(H5.out.get 0 _ _ _ rfl).frozen 0;have e1:=(H5.out.get 0 _ _ _ rfl).frozen 1;have e2:=(H5.out.get 0 _ _ _ rfl).frozen 2;have e3:=(H5.out.get 0 _ _ _ rfl).frozen 3;have e4:=(H5.out.get 0 _ _ _ rfl).frozen 4;have e5:=(H5.out.get 0 _ _ _ rfl).frozen 5;have e6:=(H5.out.get 0 _ _ _ rfl).frozen 6;have e7:=(H5.out.get 0 _ _ _ rfl).frozen 7;have e8:=(H5.out.get 0 _ _ _ rfl).frozen 8;have e9:=(H5.out.get 0 _ _ _ rfl).frozen 9;obtain ⟨z0,z1,z2,z3,z4,z5,z6,z7,z8,z9⟩:=(H5.out.get 1 _ _ _ rfl).ten;have f0:=(H5.out.get 1 _ _ _ rfl).frozen 0;have f1:=(H5.out.get 1 _ _ _ rfl).frozen 1;have f2:=(H5.out.get 1 _ _ _ rfl).frozen 2;have f3:=(H5.out.get 1 _ _ _ rfl).frozen 3;have f4:=(H5.out.get 1 _ _ _ rfl).frozen 4;have f5:=(H5.out.get 1 _ _ _ rfl).frozen 5;have f6:=(H5.out.get 1 _ _ _ rfl).frozen 6;have f7:=(H5.out.get 1 _ _ _ rfl).frozen 7;have f8:=(H5.out.get 1 _ _ _ rfl).frozen 8;have f9:=(H5.out.get 1 _ _ _ rfl).frozen 9;obtain ⟨fl,ff⟩:=H5.out.rdr.flag;clear hr5 ho5 hR5 hz5))
  have H6 : Hid (RdO (FS B g L st3) g w (w5.setCell ⟨G,7,none⟩ (.int .i64 ((J : Nat) : Int))) [(G,#[.int .i64 ((k : Nat) : Int),.int .i64 0,.int .i64 0,.slice none 0 0,.slice none 0 0,.int .i64 i,.int .i64 j,.int .i64 ((J : Nat) : Int),.int .u64 0,.bool false],44),(w.heap.size,zeroV,44)] []):=H5.out.set hl1 7 (.int .i64 ((J : Nat) : Int))
  have RS : Hid (Res srcP st1 ((i,j),J) st3):=res_src R3.out R5.out
  (clear x0 x1 x2 x3 x4 x5 x6 x7 x8 x9 e0 e1 e2 e3 e4 e5 e6 e7 e8 e9 z0 z1 z2 z3 z4 z5 z6 z7 z8 z9 f0 f1 f2 f3 f4 f5 f6 f7 f8 f9 fl ff)
  clear H4 H5 R3 R5
  generalize w5.setCell ⟨G,7,none⟩ (.int .i64 ((J : Nat) : Int)) = W6 at *
  obtain ⟨x0,x1,x2,x3,x4,x5,x6,x7,x8,x9⟩:=(H6.out.get 0 _ _ _ rfl).ten;have e0:=(H6.out.get 0 _ _ _ rfl).frozen 0;have e1:=(H6.out.get 0 _ _ _ rfl).frozen 1;have e2:=(H6.out.get 0 _ _ _ rfl).frozen 2;have e3:=(H6.out.get 0 _ _ _ rfl).frozen 3;have e4:=(H6.out.get 0 _ _ _ rfl).frozen 4;have e5:=(H6.out.get 0 _ _ _ rfl).frozen 5;have e6:=(H6.out.get 0 _ _ _ rfl).frozen 6;have e7:=(H6.out.get 0 _ _ _ rfl).frozen 7;have e8:=(H6.out.get 0 _ _ _ rfl).frozen 8;have e9:=(H6.out.get 0 _ _ _ rfl).frozen 9;obtain ⟨z0,z1,z2,z3,z4,z5,z6,z7,z8,z9⟩:=(H6.out.get 1 _ _ _ rfl).ten;have f0:=(H6.out.get 1 _ _ _ rfl).frozen 0;have f1:=(H6.out.get 1 _ _ _ rfl).frozen 1;have f2:=(H6.out.get 1 _ _ _ rfl).frozen 2;have f3:=(H6.out.get 1 _ _ _ rfl).frozen 3;have f4:=(H6.out.get 1 _ _ _ rfl).frozen 4;have f5:=(H6.out.get 1 _ _ _ rfl).frozen 5;have f6:=(H6.out.get 1 _ _ _ rfl).frozen 6;have f7:=(H6.out.get 1 _ _ _ rfl).frozen 7;have f8:=(H6.out.get 1 _ _ _ rfl).frozen 8;have f9:=(H6.out.get 1 _ _ _ rfl).frozen 9;obtain ⟨fl,ff⟩:=H6.out.rdr.flag
  go_upto_region 9 with (go_at_call 15;((with_reducible refine (c8 _ _ H6.out.rdr).mono ?_);rintro e w7 ⟨s,st4,rfl,hr7,ho7,hR7,hz7⟩;have H7:=hid (H6.out.only hr7 ho7);have R7:=hid hR7;have hs8 : s < 18446744073709551616:=num_lt hR7 hz7 (by decide);(clear x0 x1 x2 x3 x4 x5 x6 x7 x8 x9 e0 e1 e2 e3 e4 e5 e6 e7 e8 e9 z0 z1 z2 z3 z4 z5 z6 z7 z8 z9 f0 f1 f2 f3 f4 f5 f6 f7 f8 f9 fl ff);obtain ⟨x0,x1,x2,x3,x4,x5,x6,x7,x8,x9⟩:=(H7.out.get 0 _ _ _ rfl).ten;have e0:=(H7.out.get 0 _ _ _ rfl).frozen 0;have e1:=(H7.out.get 0 _ _ _ rfl).frozen 1;have e2:=(H7.out.get 0 _ _ _ rfl).frozen 2;have e3:=(H7.out.get 0 _ _ _ rfl).frozen 3;have e4:=(H7.out.get 0 _ _ _ rfl).frozen 4;have e5:=(H7.out.get 0 _ _ _ rfl).frozen 5;have e6:=(H7.out.get 0 _ _ _ rfl).frozen 6;have e7:=(H7.out.get 0 _ _ _ rfl).frozen 7;have e8:=(H7.out.get 0 _ _ _ rfl).frozen 8;have e9:=(H7.out.get 0 _ _ _ rfl).frozen 9;obtain ⟨z0,z1,z2,z3,z4,z5,z6,z7,z8,z9⟩:=(H7.out.get 1 _ _ _ rfl).ten;have f0:=(H7.out.get 1 _ _ _ rfl).frozen 0;have f1:=(H7.out.get 1 _ _ _ rfl).frozen 1;have f2:=(H7.out.get 1 _ _ _ rfl).frozen 2;have f3:=(H7.out.get 1 _ _ _ rfl).frozen 3;have f4:=(H7.out.get 1 _ _ _ rfl).frozen 4;have f5:=(H7.out.get 1 _ _ _ rfl).frozen 5;have f6:=(H7.out.get 1 _ _ _ rfl).frozen 6;have f7:=(H7.out.get 1 _ _ _ rfl).frozen 7;have f8:=(H7.out.get 1 _ _ _ rfl).frozen 8;have f9:=(H7.out.get 1 _ _ _ rfl).frozen 9;obtain ⟨fl,ff⟩:=H7.out.rdr.flag;clear hr7 ho7 hR7 hz7))
  have HA : Hid (RdO (FS B g L st4) g w (w7.setCell ⟨G,8,none⟩ (.int .u64 ((s : Nat) : Int))) [(G,#[.int .i64 ((k : Nat) : Int),.int .i64 0,.int .i64 0,.slice none 0 0,.slice none 0 0,.int .i64 i,.int .i64 j,.int .i64 ((J : Nat) : Int),.int .u64 ((s : Nat) : Int),.bool false],44),(w.heap.size,zeroV,44)] []):=H7.out.set hl1 8 (.int .u64 ((s : Nat) : Int))
  have RR:=hid (res_stamp R1.out K1.out RS.out R7.out)
  (clear x0 x1 x2 x3 x4 x5 x6 x7 x8 x9 e0 e1 e2 e3 e4 e5 e6 e7 e8 e9 z0 z1 z2 z3 z4 z5 z6 z7 z8 z9 f0 f1 f2 f3 f4 f5 f6 f7 f8 f9 fl ff)
  clear H6 H7 R7 RS
  generalize w7.setCell ⟨G,8,none⟩ (.int .u64 ((s : Nat) : Int)) = WA at *
  obtain ⟨x0,x1,x2,x3,x4,x5,x6,x7,x8,x9⟩:=(HA.out.get 0 _ _ _ rfl).ten;have e0:=(HA.out.get 0 _ _ _ rfl).frozen 0;have e1:=(HA.out.get 0 _ _ _ rfl).frozen 1;have e2:=(HA.out.get 0 _ _ _ rfl).frozen 2;have e3:=(HA.out.get 0 _ _ _ rfl).frozen 3;have e4:=(HA.out.get 0 _ _ _ rfl).frozen 4;have e5:=(HA.out.get 0 _ _ _ rfl).frozen 5;have e6:=(HA.out.get 0 _ _ _ rfl).frozen 6;have e7:=(HA.out.get 0 _ _ _ rfl).frozen 7;have e8:=(HA.out.get 0 _ _ _ rfl).frozen 8;have e9:=(HA.out.get 0 _ _ _ rfl).frozen 9;obtain ⟨z0,z1,z2,z3,z4,z5,z6,z7,z8,z9⟩:=(HA.out.get 1 _ _ _ rfl).ten;have f0:=(HA.out.get 1 _ _ _ rfl).frozen 0;have f1:=(HA.out.get 1 _ _ _ rfl).frozen 1;have f2:=(HA.out.get 1 _ _ _ rfl).frozen 2;have f3:=(HA.out.get 1 _ _ _ rfl).frozen 3;have f4:=(HA.out.get 1 _ _ _ rfl).frozen 4;have f5:=(HA.out.get 1 _ _ _ rfl).frozen 5;have f6:=(HA.out.get 1 _ _ _ rfl).frozen 6;have f7:=(HA.out.get 1 _ _ _ rfl).frozen 7;have f8:=(HA.out.get 1 _ _ _ rfl).frozen 8;have f9:=(HA.out.get 1 _ _ _ rfl).frozen 9;obtain ⟨fl,ff⟩:=HA.out.rdr.flag
  cases st4 with
  | none =>
   have Q:=hid (RR.out.guard_no (c:=formCm) (cmT zeroM [] []))
   go_wp2
   have H9 : RdO (FS B g L none) g w (WA.setCell ⟨g,2,none⟩ (.bool true)) _ []:=HA.out.only HA.out.rdr.fails (only_set WA g 2 _)
   have F:=H9.tail.fill (fun _ h=>by cases h) (.int .i64 0) (.int .i64 0) (.int .i64 0) (.slice none 0 0) (.slice none 0 0) (.int .i64 0) (.int .i64 0) (.int .i64 0) (.int .u64 0) (.bool false)
   exact bodyPost_ret (v:=.agg zeroV) (by simp [results,Tryz.results43,go_sem,z0,z1,z2,z3,z4,z5,z6,z7,z8,z9]) rfl ⟨zeroM,[],[],none,rfl,F.rdr,F.onl,CmAt.zero,⟨Nat.zero_le _,Nat.zero_le _⟩,Q.out,fun _=>rfl⟩
  | some r =>
   have cF : ∀ V,V = WA→Calls Tryz.prog 76 #[.agg #[.int .i64 ((k : Nat) : Int),.int .i64 0,.int .i64 0,.slice none 0 0,.slice none 0 0,.int .i64 i,.int .i64 j,.int .i64 ((J : Nat) : Int),.int .u64 ((s : Nat) : Int),.bool false]] V (Says V (formCm (cmT (⟨(k : Int),0,0,none,0,0,none,0,0,i,j,(J : Int),s,false⟩ : CmM) [] []))):=fun V e=>by subst e;exact dFormed_any (⟨(k : Int),0,0,none,0,0,none,0,0,i,j,(J : Int),s,false⟩ : CmM) [] [] _ ⟨TxAt.nil,hs8⟩ (by dsimp only;omega) (by dsimp only;omega)
   have TX : Hid (TxAt WA (⟨(k : Int),0,0,none,0,0,none,0,0,i,j,(J : Int),s,false⟩ : CmM).a (⟨(k : Int),0,0,none,0,0,none,0,0,i,j,(J : Int),s,false⟩ : CmM).n (⟨(k : Int),0,0,none,0,0,none,0,0,i,j,(J : Int),s,false⟩ : CmM).b (⟨(k : Int),0,0,none,0,0,none,0,0,i,j,(J : Int),s,false⟩ : CmM).m [] []):=TxAt.nil
   cases hf : formCm (cmT (⟨(k : Int),0,0,none,0,0,none,0,0,i,j,(J : Int),s,false⟩ : CmM) [] [])
   ·rw [hf] at cF
    have Q:=hid (RR.out.guard_bad (c:=formCm) hf (cmT zeroM [] []))
    clear hf
    go_wp2_with (go_at_call 76;((with_reducible refine (cF _ rfl).mono ?_);rintro e w8 ⟨rfl,hb8⟩;have H8:=hid (HA.out.below hb8);(clear x0 x1 x2 x3 x4 x5 x6 x7 x8 x9 e0 e1 e2 e3 e4 e5 e6 e7 e8 e9 z0 z1 z2 z3 z4 z5 z6 z7 z8 z9 f0 f1 f2 f3 f4 f5 f6 f7 f8 f9 fl ff);obtain ⟨x0,x1,x2,x3,x4,x5,x6,x7,x8,x9⟩:=(H8.out.get 0 _ _ _ rfl).ten;have e0:=(H8.out.get 0 _ _ _ rfl).frozen 0;have e1:=(H8.out.get 0 _ _ _ rfl).frozen 1;have e2:=(H8.out.get 0 _ _ _ rfl).frozen 2;have e3:=(H8.out.get 0 _ _ _ rfl).frozen 3;have e4:=(H8.out.get 0 _ _ _ rfl).frozen 4;have e5:=(H8.out.get 0 _ _ _ rfl).frozen 5;have e6:=(H8.out.get 0 _ _ _ rfl).frozen 6;have e7:=(H8.out.get 0 _ _ _ rfl).frozen 7;have e8:=(H8.out.get 0 _ _ _ rfl).frozen 8;have e9:=(H8.out.get 0 _ _ _ rfl).frozen 9;obtain ⟨z0,z1,z2,z3,z4,z5,z6,z7,z8,z9⟩:=(H8.out.get 1 _ _ _ rfl).ten;have f0:=(H8.out.get 1 _ _ _ rfl).frozen 0;have f1:=(H8.out.get 1 _ _ _ rfl).frozen 1;have f2:=(H8.out.get 1 _ _ _ rfl).frozen 2;have f3:=(H8.out.get 1 _ _ _ rfl).frozen 3;have f4:=(H8.out.get 1 _ _ _ rfl).frozen 4;have f5:=(H8.out.get 1 _ _ _ rfl).frozen 5;have f6:=(H8.out.get 1 _ _ _ rfl).frozen 6;have f7:=(H8.out.get 1 _ _ _ rfl).frozen 7;have f8:=(H8.out.get 1 _ _ _ rfl).frozen 8;have f9:=(H8.out.get 1 _ _ _ rfl).frozen 9;obtain ⟨fl,ff⟩:=H8.out.rdr.flag))
    have H9 : RdO (FS B g L none) g w (w8.setCell ⟨g,2,none⟩ (.bool true)) _ []:=H8.out.only H8.out.rdr.fails (only_set w8 g 2 _)
    have F:=H9.tail.fill (fun _ h=>by cases h) (.int .i64 0) (.int .i64 0) (.int .i64 0) (.slice none 0 0) (.slice none 0 0) (.int .i64 0) (.int .i64 0) (.int .i64 0) (.int .u64 0) (.bool false)
    exact bodyPost_ret (v:=.agg zeroV) (by simp [results,Tryz.results43,go_sem,z0,z1,z2,z3,z4,z5,z6,z7,z8,z9]) rfl ⟨zeroM,[],[],none,rfl,F.rdr,F.onl,CmAt.zero,⟨Nat.zero_le _,Nat.zero_le _⟩,Q.out,fun _=>rfl⟩
   ·rw [hf] at cF
    have Q:=hid (RR.out.guard_yes (c:=formCm) hf)
    clear hf
    have hl2 : ∀ z ∈ ([(G,#[.int .i64 ((k : Nat) : Int),.int .i64 0,.int .i64 0,.slice none 0 0,.slice none 0 0,.int .i64 i,.int .i64 j,.int .i64 ((J : Nat) : Int),.int .u64 ((s : Nat) : Int),.bool false],44)] : List (Nat×Array Value×TypeId)),z.1≠w.heap.size:=by simp;omega
    go_wp2_with (go_at_call 76;((with_reducible refine (cF _ rfl).mono ?_);rintro e w8 ⟨rfl,hb8⟩;have H8:=hid (HA.out.below hb8);(clear x0 x1 x2 x3 x4 x5 x6 x7 x8 x9 e0 e1 e2 e3 e4 e5 e6 e7 e8 e9 z0 z1 z2 z3 z4 z5 z6 z7 z8 z9 f0 f1 f2 f3 f4 f5 f6 f7 f8 f9 fl ff);obtain ⟨x0,x1,x2,x3,x4,x5,x6,x7,x8,x9⟩:=(H8.out.get 0 _ _ _ rfl).ten;have e0:=(H8.out.get 0 _ _ _ rfl).frozen 0;have e1:=(H8.out.get 0 _ _ _ rfl).frozen 1;have e2:=(H8.out.get 0 _ _ _ rfl).frozen 2;have e3:=(H8.out.get 0 _ _ _ rfl).frozen 3;have e4:=(H8.out.get 0 _ _ _ rfl).frozen 4;have e5:=(H8.out.get 0 _ _ _ rfl).frozen 5;have e6:=(H8.out.get 0 _ _ _ rfl).frozen 6;have e7:=(H8.out.get 0 _ _ _ rfl).frozen 7;have e8:=(H8.out.get 0 _ _ _ rfl).frozen 8;have e9:=(H8.out.get 0 _ _ _ rfl).frozen 9;obtain ⟨z0,z1,z2,z3,z4,z5,z6,z7,z8,z9⟩:=(H8.out.get 1 _ _ _ rfl).ten;have f0:=(H8.out.get 1 _ _ _ rfl).frozen 0;have f1:=(H8.out.get 1 _ _ _ rfl).frozen 1;have f2:=(H8.out.get 1 _ _ _ rfl).frozen 2;have f3:=(H8.out.get 1 _ _ _ rfl).frozen 3;have f4:=(H8.out.get 1 _ _ _ rfl).frozen 4;have f5:=(H8.out.get 1 _ _ _ rfl).frozen 5;have f6:=(H8.out.get 1 _ _ _ rfl).frozen 6;have f7:=(H8.out.get 1 _ _ _ rfl).frozen 7;have f8:=(H8.out.get 1 _ _ _ rfl).frozen 8;have f9:=(H8.out.get 1 _ _ _ rfl).frozen 9;obtain ⟨fl,ff⟩:=H8.out.rdr.flag))
    have F:=H8.out.swap.fill hl2 (.int .i64 ((k : Nat) : Int)) (.int .i64 0) (.int .i64 0) (.slice none 0 0) (.slice none 0 0) (.int .i64 i) (.int .i64 j) (.int .i64 ((J : Nat) : Int)) (.int .u64 ((s : Nat) : Int)) (.bool false)
    have TB : TxB w8 w.heap.size zeroV 44 (⟨(k : Int),0,0,none,0,0,none,0,0,i,j,(J : Int),s,false⟩ : CmM).a (⟨(k : Int),0,0,none,0,0,none,0,0,i,j,(J : Int),s,false⟩ : CmM).n (⟨(k : Int),0,0,none,0,0,none,0,0,i,j,(J : Int),s,false⟩ : CmM).b (⟨(k : Int),0,0,none,0,0,none,0,0,i,j,(J : Int),s,false⟩ : CmM).m [] []:=⟨⟨H8.out.get 1 _ _ _ rfl,noStr_cm _ _ _ _ _ _ _ _ _ _ (by simp) (by simp) (by simp) (by simp) (by simp) (by simp) (by simp) (by simp) (by simp) (by simp) ⟩,TX.out.later hb8⟩
    have FT:=TB.fill (.int .i64 ((k : Nat) : Int)) (.int .i64 0) (.int .i64 0) (.slice none 0 0) (.slice none 0 0) (.int .i64 i) (.int .i64 j) (.int .i64 ((J : Nat) : Int)) (.int .u64 ((s : Nat) : Int)) (.bool false) (by simp) (by simp) (by simp) (by simp) (by simp) (by simp) (by simp) (by simp) (by simp) (by simp) 
    exact bodyPost_ret (v:=.agg #[.int .i64 ((k : Nat) : Int),.int .i64 0,.int .i64 0,.slice none 0 0,.slice none 0 0,.int .i64 i,.int .i64 j,.int .i64 ((J : Nat) : Int),.int .u64 ((s : Nat) : Int),.bool false]) (by simp [results,Tryz.results43,go_sem,z0,z1,z2,z3,z4,z5,z6,z7,z8,z9]) rfl ⟨(⟨(k : Int),0,0,none,0,0,none,0,0,i,j,(J : Int),s,false⟩ : CmM),[],[],some r,rfl,F.rdr,F.onl,⟨FT,hs8⟩,⟨Nat.zero_le _,Nat.zero_le _⟩,Q.out,fun e=>by cases e⟩
 have q2 : (((k : Nat) : Int) == 2) = false:=by simp;omega
 by_cases h3 : k = 3
 ·have q3 : (((k : Nat) : Int) == 3) = true:=by simp;omega
  have K1:=hid h3
  clear h3
  go_upto_region 6 with (go_at_call 18;((with_reducible refine (rTakeId_any B g L _ _ H2.out.rdr).mono ?_);rintro e w3 ⟨⟨i,j⟩,st2,rfl,hr3,ho3,hR3,hz3⟩;have H3:=hid (H2.out.only hr3 ho3);have R3:=hid hR3;(clear x0 x1 x2 x3 x4 x5 x6 x7 x8 x9 e0 e1 e2 e3 e4 e5 e6 e7 e8 e9 z0 z1 z2 z3 z4 z5 z6 z7 z8 z9 f0 f1 f2 f3 f4 f5 f6 f7 f8 f9 fl ff);obtain ⟨x0,x1,x2,x3,x4,x5,x6,x7,x8,x9⟩:=(H3.out.get 0 _ _ _ rfl).ten;have e0:=(H3.out.get 0 _ _ _ rfl).frozen 0;have e1:=(H3.out.get 0 _ _ _ rfl).frozen 1;have e2:=(H3.out.get 0 _ _ _ rfl).frozen 2;have e3:=(H3.out.get 0 _ _ _ rfl).frozen 3;have e4:=(H3.out.get 0 _ _ _ rfl).frozen 4;have e5:=(H3.out.get 0 _ _ _ rfl).frozen 5;have e6:=(H3.out.get 0 _ _ _ rfl).frozen 6;have e7:=(H3.out.get 0 _ _ _ rfl).frozen 7;have e8:=(H3.out.get 0 _ _ _ rfl).frozen 8;have e9:=(H3.out.get 0 _ _ _ rfl).frozen 9;obtain ⟨z0,z1,z2,z3,z4,z5,z6,z7,z8,z9⟩:=(H3.out.get 1 _ _ _ rfl).ten;have f0:=(H3.out.get 1 _ _ _ rfl).frozen 0;have f1:=(H3.out.get 1 _ _ _ rfl).frozen 1;have f2:=(H3.out.get 1 _ _ _ rfl).frozen 2;have f3:=(H3.out.get 1 _ _ _ rfl).frozen 3;have f4:=(H3.out.get 1 _ _ _ rfl).frozen 4;have f5:=(H3.out.get 1 _ _ _ rfl).frozen 5;have f6:=(H3.out.get 1 _ _ _ rfl).frozen 6;have f7:=(H3.out.get 1 _ _ _ rfl).frozen 7;have f8:=(H3.out.get 1 _ _ _ rfl).frozen 8;have f9:=(H3.out.get 1 _ _ _ rfl).frozen 9;obtain ⟨fl,ff⟩:=H3.out.rdr.flag;clear hr3 ho3 hR3 hz3))
  have H4 : Hid (RdO (FS B g L st2) g w ((w3.setCell ⟨G,5,none⟩ (.int .i64 i)).setCell ⟨G,6,none⟩ (.int .i64 j)) [(G,#[.int .i64 ((k : Nat) : Int),.int .i64 0,.int .i64 0,.slice none 0 0,.slice none 0 0,.int .i64 i,.int .i64 j,.int .i64 0,.int .u64 0,.bool false],44),(w.heap.size,zeroV,44)] []):=((H3.out.set hl1 5 (.int .i64 i)).set hl1 6 (.int .i64 j))
  (clear x0 x1 x2 x3 x4 x5 x6 x7 x8 x9 e0 e1 e2 e3 e4 e5 e6 e7 e8 e9 z0 z1 z2 z3 z4 z5 z6 z7 z8 z9 f0 f1 f2 f3 f4 f5 f6 f7 f8 f9 fl ff)
  clear H2 H3
  generalize (w3.setCell ⟨G,5,none⟩ (.int .i64 i)).setCell ⟨G,6,none⟩ (.int .i64 j) = W4 at *
  obtain ⟨x0,x1,x2,x3,x4,x5,x6,x7,x8,x9⟩:=(H4.out.get 0 _ _ _ rfl).ten;have e0:=(H4.out.get 0 _ _ _ rfl).frozen 0;have e1:=(H4.out.get 0 _ _ _ rfl).frozen 1;have e2:=(H4.out.get 0 _ _ _ rfl).frozen 2;have e3:=(H4.out.get 0 _ _ _ rfl).frozen 3;have e4:=(H4.out.get 0 _ _ _ rfl).frozen 4;have e5:=(H4.out.get 0 _ _ _ rfl).frozen 5;have e6:=(H4.out.get 0 _ _ _ rfl).frozen 6;have e7:=(H4.out.get 0 _ _ _ rfl).frozen 7;have e8:=(H4.out.get 0 _ _ _ rfl).frozen 8;have e9:=(H4.out.get 0 _ _ _ rfl).frozen 9;obtain ⟨z0,z1,z2,z3,z4,z5,z6,z7,z8,z9⟩:=(H4.out.get 1 _ _ _ rfl).ten;have f0:=(H4.out.get 1 _ _ _ rfl).frozen 0;have f1:=(H4.out.get 1 _ _ _ rfl).frozen 1;have f2:=(H4.out.get 1 _ _ _ rfl).frozen 2;have f3:=(H4.out.get 1 _ _ _ rfl).frozen 3;have f4:=(H4.out.get 1 _ _ _ rfl).frozen 4;have f5:=(H4.out.get 1 _ _ _ rfl).frozen 5;have f6:=(H4.out.get 1 _ _ _ rfl).frozen 6;have f7:=(H4.out.get 1 _ _ _ rfl).frozen 7;have f8:=(H4.out.get 1 _ _ _ rfl).frozen 8;have f9:=(H4.out.get 1 _ _ _ rfl).frozen 9;obtain ⟨fl,ff⟩:=H4.out.rdr.flag
  go_upto_region 7 with (go_at_call 15;((with_reducible refine (c1 _ _ H4.out.rdr).mono ?_);rintro e w5 ⟨J,st3,rfl,hr5,ho5,hR5,hz5⟩;have H5:=hid (H4.out.only hr5 ho5);have R5:=hid hR5;have hJ : J < 256:=num_lt hR5 hz5 (by decide);(clear x0 x1 x2 x3 x4 x5 x6 x7 x8 x9 e0 e1 e2 e3 e4 e5 e6 e7 e8 e9 z0 z1 z2 z3 z4 z5 z6 z7 z8 z9 f0 f1 f2 f3 f4 f5 f6 f7 f8 f9 fl ff);obtain ⟨x0,x1,x2,x3,x4,x5,x6,x7,x8,x9⟩:=(H5.out.get 0 _ _ _ rfl).ten;have e0:=(H5.out.get 0 _ _ _ rfl).frozen 0;have e1:=(H5.out.get 0 _ _ _ rfl).frozen 1;have e2:=(H5.out.get 0 _ _ _ rfl).frozen 2;have e3:=(H5.out.get 0 _ _ _ rfl).frozen 3;have e4:=(H5.out.get 0 _ _ _ rfl).frozen 4;have e5:=(H5.out.get 0 _ _ _ rfl).frozen 5;have e6:=(H5.out.get 0 _ _ _ rfl).frozen 6;have e7:=(H5.out.get 0 _ _ _ rfl).frozen 7;have e8:=(H5.out.get 0 _ _ _ rfl).frozen 8;have e9:=(H5.out.get 0 _ _ _ rfl).frozen 9;obtain ⟨z0,z1,z2,z3,z4,z5,z6,z7,z8,z9⟩:=(H5.out.get 1 _ _ _ rfl).ten;have f0:=(H5.out.get 1 _ _ _ rfl).frozen 0;have f1:=(H5.out.get 1 _ _ _ rfl).frozen 1;have f2:=(H5.out.get 1 _ _ _ rfl).frozen 2;have f3:=(H5.out.get 1 _ _ _ rfl).frozen 3;have f4:=(H5.out.get 1 _ _ _ rfl).frozen 4;have f5:=(H5.out.get 1 _ _ _ rfl).frozen 5;have f6:=(H5.out.get 1 _ _ _ rfl).frozen 6;have f7:=(H5.out.get 1 _ _ _ rfl).frozen 7;have f8:=(H5.out.get 1 _ _ _ rfl).frozen 8;have f9:=(H5.out.get 1 _ _ _ rfl).frozen 9;obtain ⟨fl,ff⟩:=H5.out.rdr.flag;clear hr5 ho5 hR5 hz5))
  have H6 : Hid (RdO (FS B g L st3) g w (w5.setCell ⟨G,7,none⟩ (.int .i64 ((J : Nat) : Int))) [(G,#[.int .i64 ((k : Nat) : Int),.int .i64 0,.int .i64 0,.slice none 0 0,.slice none 0 0,.int .i64 i,.int .i64 j,.int .i64 ((J : Nat) : Int),.int .u64 0,.bool false],44),(w.heap.size,zeroV,44)] []):=H5.out.set hl1 7 (.int .i64 ((J : Nat) : Int))
  have RS : Hid (Res srcP st1 ((i,j),J) st3):=res_src R3.out R5.out
  (clear x0 x1 x2 x3 x4 x5 x6 x7 x8 x9 e0 e1 e2 e3 e4 e5 e6 e7 e8 e9 z0 z1 z2 z3 z4 z5 z6 z7 z8 z9 f0 f1 f2 f3 f4 f5 f6 f7 f8 f9 fl ff)
  clear H4 H5 R3 R5
  generalize w5.setCell ⟨G,7,none⟩ (.int .i64 ((J : Nat) : Int)) = W6 at *
  obtain ⟨x0,x1,x2,x3,x4,x5,x6,x7,x8,x9⟩:=(H6.out.get 0 _ _ _ rfl).ten;have e0:=(H6.out.get 0 _ _ _ rfl).frozen 0;have e1:=(H6.out.get 0 _ _ _ rfl).frozen 1;have e2:=(H6.out.get 0 _ _ _ rfl).frozen 2;have e3:=(H6.out.get 0 _ _ _ rfl).frozen 3;have e4:=(H6.out.get 0 _ _ _ rfl).frozen 4;have e5:=(H6.out.get 0 _ _ _ rfl).frozen 5;have e6:=(H6.out.get 0 _ _ _ rfl).frozen 6;have e7:=(H6.out.get 0 _ _ _ rfl).frozen 7;have e8:=(H6.out.get 0 _ _ _ rfl).frozen 8;have e9:=(H6.out.get 0 _ _ _ rfl).frozen 9;obtain ⟨z0,z1,z2,z3,z4,z5,z6,z7,z8,z9⟩:=(H6.out.get 1 _ _ _ rfl).ten;have f0:=(H6.out.get 1 _ _ _ rfl).frozen 0;have f1:=(H6.out.get 1 _ _ _ rfl).frozen 1;have f2:=(H6.out.get 1 _ _ _ rfl).frozen 2;have f3:=(H6.out.get 1 _ _ _ rfl).frozen 3;have f4:=(H6.out.get 1 _ _ _ rfl).frozen 4;have f5:=(H6.out.get 1 _ _ _ rfl).frozen 5;have f6:=(H6.out.get 1 _ _ _ rfl).frozen 6;have f7:=(H6.out.get 1 _ _ _ rfl).frozen 7;have f8:=(H6.out.get 1 _ _ _ rfl).frozen 8;have f9:=(H6.out.get 1 _ _ _ rfl).frozen 9;obtain ⟨fl,ff⟩:=H6.out.rdr.flag
  go_upto_region 11 with (go_at_call 15;((with_reducible refine (c1 _ _ H6.out.rdr).mono ?_);rintro e w7 ⟨y,st4,rfl,hr7,ho7,hR7,hz7⟩;have H7:=hid (H6.out.only hr7 ho7);have R7:=hid hR7;(clear x0 x1 x2 x3 x4 x5 x6 x7 x8 x9 e0 e1 e2 e3 e4 e5 e6 e7 e8 e9 z0 z1 z2 z3 z4 z5 z6 z7 z8 z9 f0 f1 f2 f3 f4 f5 f6 f7 f8 f9 fl ff);obtain ⟨x0,x1,x2,x3,x4,x5,x6,x7,x8,x9⟩:=(H7.out.get 0 _ _ _ rfl).ten;have e0:=(H7.out.get 0 _ _ _ rfl).frozen 0;have e1:=(H7.out.get 0 _ _ _ rfl).frozen 1;have e2:=(H7.out.get 0 _ _ _ rfl).frozen 2;have e3:=(H7.out.get 0 _ _ _ rfl).frozen 3;have e4:=(H7.out.get 0 _ _ _ rfl).frozen 4;have e5:=(H7.out.get 0 _ _ _ rfl).frozen 5;have e6:=(H7.out.get 0 _ _ _ rfl).frozen 6;have e7:=(H7.out.get 0 _ _ _ rfl).frozen 7;have e8:=(H7.out.get 0 _ _ _ rfl).frozen 8;have e9:=(H7.out.get 0 _ _ _ rfl).frozen 9;obtain ⟨z0,z1,z2,z3,z4,z5,z6,z7,z8,z9⟩:=(H7.out.get 1 _ _ _ rfl).ten;have f0:=(H7.out.get 1 _ _ _ rfl).frozen 0;have f1:=(H7.out.get 1 _ _ _ rfl).frozen 1;have f2:=(H7.out.get 1 _ _ _ rfl).frozen 2;have f3:=(H7.out.get 1 _ _ _ rfl).frozen 3;have f4:=(H7.out.get 1 _ _ _ rfl).frozen 4;have f5:=(H7.out.get 1 _ _ _ rfl).frozen 5;have f6:=(H7.out.get 1 _ _ _ rfl).frozen 6;have f7:=(H7.out.get 1 _ _ _ rfl).frozen 7;have f8:=(H7.out.get 1 _ _ _ rfl).frozen 8;have f9:=(H7.out.get 1 _ _ _ rfl).frozen 9;obtain ⟨fl,ff⟩:=H7.out.rdr.flag;clear hr7 ho7 hR7 hz7))
  obtain ⟨yb,hyb⟩ : ∃ yb,yb = (((y : Nat) : Int) == 1):=⟨_,rfl⟩
  go_upto_region 12 with (fail)
  rw [← hyb]
  have ey : yb = decide (y = 1):=by
   rw [hyb]
   by_cases h : y = 1
   ·rw [decide_eq_true h,h];rfl
   ·rw [decide_eq_false h];simp;omega
  have HA : Hid (RdO (FS B g L st4) g w (w7.setCell ⟨G,9,none⟩ (.bool yb)) [(G,#[.int .i64 ((k : Nat) : Int),.int .i64 0,.int .i64 0,.slice none 0 0,.slice none 0 0,.int .i64 i,.int .i64 j,.int .i64 ((J : Nat) : Int),.int .u64 0,.bool yb],44),(w.heap.size,zeroV,44)] []):=H7.out.set hl1 9 (.bool yb)
  (clear x0 x1 x2 x3 x4 x5 x6 x7 x8 x9 e0 e1 e2 e3 e4 e5 e6 e7 e8 e9 z0 z1 z2 z3 z4 z5 z6 z7 z8 z9 f0 f1 f2 f3 f4 f5 f6 f7 f8 f9 fl ff)
  clear H6 H7 hyb
  generalize w7.setCell ⟨G,9,none⟩ (.bool yb) = WA at *
  obtain ⟨x0,x1,x2,x3,x4,x5,x6,x7,x8,x9⟩:=(HA.out.get 0 _ _ _ rfl).ten;have e0:=(HA.out.get 0 _ _ _ rfl).frozen 0;have e1:=(HA.out.get 0 _ _ _ rfl).frozen 1;have e2:=(HA.out.get 0 _ _ _ rfl).frozen 2;have e3:=(HA.out.get 0 _ _ _ rfl).frozen 3;have e4:=(HA.out.get 0 _ _ _ rfl).frozen 4;have e5:=(HA.out.get 0 _ _ _ rfl).frozen 5;have e6:=(HA.out.get 0 _ _ _ rfl).frozen 6;have e7:=(HA.out.get 0 _ _ _ rfl).frozen 7;have e8:=(HA.out.get 0 _ _ _ rfl).frozen 8;have e9:=(HA.out.get 0 _ _ _ rfl).frozen 9;obtain ⟨z0,z1,z2,z3,z4,z5,z6,z7,z8,z9⟩:=(HA.out.get 1 _ _ _ rfl).ten;have f0:=(HA.out.get 1 _ _ _ rfl).frozen 0;have f1:=(HA.out.get 1 _ _ _ rfl).frozen 1;have f2:=(HA.out.get 1 _ _ _ rfl).frozen 2;have f3:=(HA.out.get 1 _ _ _ rfl).frozen 3;have f4:=(HA.out.get 1 _ _ _ rfl).frozen 4;have f5:=(HA.out.get 1 _ _ _ rfl).frozen 5;have f6:=(HA.out.get 1 _ _ _ rfl).frozen 6;have f7:=(HA.out.get 1 _ _ _ rfl).frozen 7;have f8:=(HA.out.get 1 _ _ _ rfl).frozen 8;have f9:=(HA.out.get 1 _ _ _ rfl).frozen 9;obtain ⟨fl,ff⟩:=HA.out.rdr.flag
  cases st4 with
  | none =>
   have RR : Hid (Res cmP st (cmT (⟨(k : Int),0,0,none,0,0,none,0,0,i,j,(J : Int),0,yb⟩ : CmM) [] []) none):=res_vote R1.out K1.out RS.out (show Res yesP st3 yb none from by
    by_cases hy : y≤1
    ·rw [ey];exact res_yes R7.out hy
    ·exact res_yes_no R7.out hy yb)
   have HB : Hid (RdO (FS B g L none) g w (WA.setCell ⟨g,2,none⟩ (.bool true)) [(G,#[.int .i64 ((k : Nat) : Int),.int .i64 0,.int .i64 0,.slice none 0 0,.slice none 0 0,.int .i64 i,.int .i64 j,.int .i64 ((J : Nat) : Int),.int .u64 0,.bool yb],44),(w.heap.size,zeroV,44)] []):=HA.out.only HA.out.rdr.fails (only_set WA g 2 _)
   clear ey
   go_upto_region 13 with (fail)
   (clear x0 x1 x2 x3 x4 x5 x6 x7 x8 x9 e0 e1 e2 e3 e4 e5 e6 e7 e8 e9 z0 z1 z2 z3 z4 z5 z6 z7 z8 z9 f0 f1 f2 f3 f4 f5 f6 f7 f8 f9 fl ff)
   clear HA
   generalize WA.setCell ⟨g,2,none⟩ (.bool true) = WB at *
   obtain ⟨x0,x1,x2,x3,x4,x5,x6,x7,x8,x9⟩:=(HB.out.get 0 _ _ _ rfl).ten;have e0:=(HB.out.get 0 _ _ _ rfl).frozen 0;have e1:=(HB.out.get 0 _ _ _ rfl).frozen 1;have e2:=(HB.out.get 0 _ _ _ rfl).frozen 2;have e3:=(HB.out.get 0 _ _ _ rfl).frozen 3;have e4:=(HB.out.get 0 _ _ _ rfl).frozen 4;have e5:=(HB.out.get 0 _ _ _ rfl).frozen 5;have e6:=(HB.out.get 0 _ _ _ rfl).frozen 6;have e7:=(HB.out.get 0 _ _ _ rfl).frozen 7;have e8:=(HB.out.get 0 _ _ _ rfl).frozen 8;have e9:=(HB.out.get 0 _ _ _ rfl).frozen 9;obtain ⟨z0,z1,z2,z3,z4,z5,z6,z7,z8,z9⟩:=(HB.out.get 1 _ _ _ rfl).ten;have f0:=(HB.out.get 1 _ _ _ rfl).frozen 0;have f1:=(HB.out.get 1 _ _ _ rfl).frozen 1;have f2:=(HB.out.get 1 _ _ _ rfl).frozen 2;have f3:=(HB.out.get 1 _ _ _ rfl).frozen 3;have f4:=(HB.out.get 1 _ _ _ rfl).frozen 4;have f5:=(HB.out.get 1 _ _ _ rfl).frozen 5;have f6:=(HB.out.get 1 _ _ _ rfl).frozen 6;have f7:=(HB.out.get 1 _ _ _ rfl).frozen 7;have f8:=(HB.out.get 1 _ _ _ rfl).frozen 8;have f9:=(HB.out.get 1 _ _ _ rfl).frozen 9;obtain ⟨fl,ff⟩:=HB.out.rdr.flag
   have Q:=hid (RR.out.guard_no (c:=formCm) (cmT zeroM [] []))
   go_wp2
   have H9 : RdO (FS B g L none) g w (WB.setCell ⟨g,2,none⟩ (.bool true)) _ []:=HB.out.only HB.out.rdr.fails (only_set WB g 2 _)
   have F:=H9.tail.fill (fun _ h=>by cases h) (.int .i64 0) (.int .i64 0) (.int .i64 0) (.slice none 0 0) (.slice none 0 0) (.int .i64 0) (.int .i64 0) (.int .i64 0) (.int .u64 0) (.bool false)
   exact bodyPost_ret (v:=.agg zeroV) (by simp [results,Tryz.results43,go_sem,z0,z1,z2,z3,z4,z5,z6,z7,z8,z9]) rfl ⟨zeroM,[],[],none,rfl,F.rdr,F.onl,CmAt.zero,⟨Nat.zero_le _,Nat.zero_le _⟩,Q.out,fun _=>rfl⟩
  | some r =>
   by_cases hy : y≤1
   ·have i1 : ¬ (1 : Int) < ((y : Nat) : Int):=by omega
    have d1 : decide ((1 : Int) < ((y : Nat) : Int)) = false:=decide_eq_false i1
    have RR : Hid (Res cmP st (cmT (⟨(k : Int),0,0,none,0,0,none,0,0,i,j,(J : Int),0,yb⟩ : CmM) [] []) (some r)):=res_vote R1.out K1.out RS.out (by rw [ey];exact res_yes R7.out hy)
    have HB : Hid (RdO (FS B g L (some r)) g w (WA.setCell ⟨g,2,none⟩ (.bool false)) [(G,#[.int .i64 ((k : Nat) : Int),.int .i64 0,.int .i64 0,.slice none 0 0,.slice none 0 0,.int .i64 i,.int .i64 j,.int .i64 ((J : Nat) : Int),.int .u64 0,.bool yb],44),(w.heap.size,zeroV,44)] []):=HA.out.only HA.out.rdr.same (only_set WA g 2 _)
    clear ey
    go_upto_region 13 with (fail)
    (clear x0 x1 x2 x3 x4 x5 x6 x7 x8 x9 e0 e1 e2 e3 e4 e5 e6 e7 e8 e9 z0 z1 z2 z3 z4 z5 z6 z7 z8 z9 f0 f1 f2 f3 f4 f5 f6 f7 f8 f9 fl ff)
    clear HA
    generalize WA.setCell ⟨g,2,none⟩ (.bool false) = WB at *
    obtain ⟨x0,x1,x2,x3,x4,x5,x6,x7,x8,x9⟩:=(HB.out.get 0 _ _ _ rfl).ten;have e0:=(HB.out.get 0 _ _ _ rfl).frozen 0;have e1:=(HB.out.get 0 _ _ _ rfl).frozen 1;have e2:=(HB.out.get 0 _ _ _ rfl).frozen 2;have e3:=(HB.out.get 0 _ _ _ rfl).frozen 3;have e4:=(HB.out.get 0 _ _ _ rfl).frozen 4;have e5:=(HB.out.get 0 _ _ _ rfl).frozen 5;have e6:=(HB.out.get 0 _ _ _ rfl).frozen 6;have e7:=(HB.out.get 0 _ _ _ rfl).frozen 7;have e8:=(HB.out.get 0 _ _ _ rfl).frozen 8;have e9:=(HB.out.get 0 _ _ _ rfl).frozen 9;obtain ⟨z0,z1,z2,z3,z4,z5,z6,z7,z8,z9⟩:=(HB.out.get 1 _ _ _ rfl).ten;have f0:=(HB.out.get 1 _ _ _ rfl).frozen 0;have f1:=(HB.out.get 1 _ _ _ rfl).frozen 1;have f2:=(HB.out.get 1 _ _ _ rfl).frozen 2;have f3:=(HB.out.get 1 _ _ _ rfl).frozen 3;have f4:=(HB.out.get 1 _ _ _ rfl).frozen 4;have f5:=(HB.out.get 1 _ _ _ rfl).frozen 5;have f6:=(HB.out.get 1 _ _ _ rfl).frozen 6;have f7:=(HB.out.get 1 _ _ _ rfl).frozen 7;have f8:=(HB.out.get 1 _ _ _ rfl).frozen 8;have f9:=(HB.out.get 1 _ _ _ rfl).frozen 9;obtain ⟨fl,ff⟩:=HB.out.rdr.flag
    have cF : ∀ V,V = WB→Calls Tryz.prog 76 #[.agg #[.int .i64 ((k : Nat) : Int),.int .i64 0,.int .i64 0,.slice none 0 0,.slice none 0 0,.int .i64 i,.int .i64 j,.int .i64 ((J : Nat) : Int),.int .u64 0,.bool yb]] V (Says V (formCm (cmT (⟨(k : Int),0,0,none,0,0,none,0,0,i,j,(J : Int),0,yb⟩ : CmM) [] []))):=fun V e=>by subst e;exact dFormed_any (⟨(k : Int),0,0,none,0,0,none,0,0,i,j,(J : Int),0,yb⟩ : CmM) [] [] _ ⟨TxAt.nil,(by show 0 < 18446744073709551616;decide)⟩ (by dsimp only;omega) (by dsimp only;omega)
    have TX : Hid (TxAt WB (⟨(k : Int),0,0,none,0,0,none,0,0,i,j,(J : Int),0,yb⟩ : CmM).a (⟨(k : Int),0,0,none,0,0,none,0,0,i,j,(J : Int),0,yb⟩ : CmM).n (⟨(k : Int),0,0,none,0,0,none,0,0,i,j,(J : Int),0,yb⟩ : CmM).b (⟨(k : Int),0,0,none,0,0,none,0,0,i,j,(J : Int),0,yb⟩ : CmM).m [] []):=TxAt.nil
    cases hf : formCm (cmT (⟨(k : Int),0,0,none,0,0,none,0,0,i,j,(J : Int),0,yb⟩ : CmM) [] [])
    ·rw [hf] at cF
     have Q:=hid (RR.out.guard_bad (c:=formCm) hf (cmT zeroM [] []))
     clear hf
     go_wp2_with (go_at_call 76;((with_reducible refine (cF _ rfl).mono ?_);rintro e w8 ⟨rfl,hb8⟩;have H8:=hid (HB.out.below hb8);(clear x0 x1 x2 x3 x4 x5 x6 x7 x8 x9 e0 e1 e2 e3 e4 e5 e6 e7 e8 e9 z0 z1 z2 z3 z4 z5 z6 z7 z8 z9 f0 f1 f2 f3 f4 f5 f6 f7 f8 f9 fl ff);obtain ⟨x0,x1,x2,x3,x4,x5,x6,x7,x8,x9⟩:=(H8.out.get 0 _ _ _ rfl).ten;have e0:=(H8.out.get 0 _ _ _ rfl).frozen 0;have e1:=(H8.out.get 0 _ _ _ rfl).frozen 1;have e2:=(H8.out.get 0 _ _ _ rfl).frozen 2;have e3:=(H8.out.get 0 _ _ _ rfl).frozen 3;have e4:=(H8.out.get 0 _ _ _ rfl).frozen 4;have e5:=(H8.out.get 0 _ _ _ rfl).frozen 5;have e6:=(H8.out.get 0 _ _ _ rfl).frozen 6;have e7:=(H8.out.get 0 _ _ _ rfl).frozen 7;have e8:=(H8.out.get 0 _ _ _ rfl).frozen 8;have e9:=(H8.out.get 0 _ _ _ rfl).frozen 9;obtain ⟨z0,z1,z2,z3,z4,z5,z6,z7,z8,z9⟩:=(H8.out.get 1 _ _ _ rfl).ten;have f0:=(H8.out.get 1 _ _ _ rfl).frozen 0;have f1:=(H8.out.get 1 _ _ _ rfl).frozen 1;have f2:=(H8.out.get 1 _ _ _ rfl).frozen 2;have f3:=(H8.out.get 1 _ _ _ rfl).frozen 3;have f4:=(H8.out.get 1 _ _ _ rfl).frozen 4;have f5:=(H8.out.get 1 _ _ _ rfl).frozen 5;have f6:=(H8.out.get 1 _ _ _ rfl).frozen 6;have f7:=(H8.out.get 1 _ _ _ rfl).frozen 7;have f8:=(H8.out.get 1 _ _ _ rfl).frozen 8;have f9:=(H8.out.get 1 _ _ _ rfl).frozen 9;obtain ⟨fl,ff⟩:=H8.out.rdr.flag))
     have H9 : RdO (FS B g L none) g w (w8.setCell ⟨g,2,none⟩ (.bool true)) _ []:=H8.out.only H8.out.rdr.fails (only_set w8 g 2 _)
     have F:=H9.tail.fill (fun _ h=>by cases h) (.int .i64 0) (.int .i64 0) (.int .i64 0) (.slice none 0 0) (.slice none 0 0) (.int .i64 0) (.int .i64 0) (.int .i64 0) (.int .u64 0) (.bool false)
     exact bodyPost_ret (v:=.agg zeroV) (by simp [results,Tryz.results43,go_sem,z0,z1,z2,z3,z4,z5,z6,z7,z8,z9]) rfl ⟨zeroM,[],[],none,rfl,F.rdr,F.onl,CmAt.zero,⟨Nat.zero_le _,Nat.zero_le _⟩,Q.out,fun _=>rfl⟩
    ·rw [hf] at cF
     have Q:=hid (RR.out.guard_yes (c:=formCm) hf)
     clear hf
     have hl2 : ∀ z ∈ ([(G,#[.int .i64 ((k : Nat) : Int),.int .i64 0,.int .i64 0,.slice none 0 0,.slice none 0 0,.int .i64 i,.int .i64 j,.int .i64 ((J : Nat) : Int),.int .u64 0,.bool yb],44)] : List (Nat×Array Value×TypeId)),z.1≠w.heap.size:=by simp;omega
     go_wp2_with (go_at_call 76;((with_reducible refine (cF _ rfl).mono ?_);rintro e w8 ⟨rfl,hb8⟩;have H8:=hid (HB.out.below hb8);(clear x0 x1 x2 x3 x4 x5 x6 x7 x8 x9 e0 e1 e2 e3 e4 e5 e6 e7 e8 e9 z0 z1 z2 z3 z4 z5 z6 z7 z8 z9 f0 f1 f2 f3 f4 f5 f6 f7 f8 f9 fl ff);obtain ⟨x0,x1,x2,x3,x4,x5,x6,x7,x8,x9⟩:=(H8.out.get 0 _ _ _ rfl).ten;have e0:=(H8.out.get 0 _ _ _ rfl).frozen 0;have e1:=(H8.out.get 0 _ _ _ rfl).frozen 1;have e2:=(H8.out.get 0 _ _ _ rfl).frozen 2;have e3:=(H8.out.get 0 _ _ _ rfl).frozen 3;have e4:=(H8.out.get 0 _ _ _ rfl).frozen 4;have e5:=(H8.out.get 0 _ _ _ rfl).frozen 5;have e6:=(H8.out.get 0 _ _ _ rfl).frozen 6;have e7:=(H8.out.get 0 _ _ _ rfl).frozen 7;have e8:=(H8.out.get 0 _ _ _ rfl).frozen 8;have e9:=(H8.out.get 0 _ _ _ rfl).frozen 9;obtain ⟨z0,z1,z2,z3,z4,z5,z6,z7,z8,z9⟩:=(H8.out.get 1 _ _ _ rfl).ten;have f0:=(H8.out.get 1 _ _ _ rfl).frozen 0;have f1:=(H8.out.get 1 _ _ _ rfl).frozen 1;have f2:=(H8.out.get 1 _ _ _ rfl).frozen 2;have f3:=(H8.out.get 1 _ _ _ rfl).frozen 3;have f4:=(H8.out.get 1 _ _ _ rfl).frozen 4;have f5:=(H8.out.get 1 _ _ _ rfl).frozen 5;have f6:=(H8.out.get 1 _ _ _ rfl).frozen 6;have f7:=(H8.out.get 1 _ _ _ rfl).frozen 7;have f8:=(H8.out.get 1 _ _ _ rfl).frozen 8;have f9:=(H8.out.get 1 _ _ _ rfl).frozen 9;obtain ⟨fl,ff⟩:=H8.out.rdr.flag))
     have F:=H8.out.swap.fill hl2 (.int .i64 ((k : Nat) : Int)) (.int .i64 0) (.int .i64 0) (.slice none 0 0) (.slice none 0 0) (.int .i64 i) (.int .i64 j) (.int .i64 ((J : Nat) : Int)) (.int .u64 0) (.bool yb)
     have TB : TxB w8 w.heap.size zeroV 44 (⟨(k : Int),0,0,none,0,0,none,0,0,i,j,(J : Int),0,yb⟩ : CmM).a (⟨(k : Int),0,0,none,0,0,none,0,0,i,j,(J : Int),0,yb⟩ : CmM).n (⟨(k : Int),0,0,none,0,0,none,0,0,i,j,(J : Int),0,yb⟩ : CmM).b (⟨(k : Int),0,0,none,0,0,none,0,0,i,j,(J : Int),0,yb⟩ : CmM).m [] []:=⟨⟨H8.out.get 1 _ _ _ rfl,noStr_cm _ _ _ _ _ _ _ _ _ _ (by simp) (by simp) (by simp) (by simp) (by simp) (by simp) (by simp) (by simp) (by simp) (by simp) ⟩,TX.out.later hb8⟩
     have FT:=TB.fill (.int .i64 ((k : Nat) : Int)) (.int .i64 0) (.int .i64 0) (.slice none 0 0) (.slice none 0 0) (.int .i64 i) (.int .i64 j) (.int .i64 ((J : Nat) : Int)) (.int .u64 0) (.bool yb) (by simp) (by simp) (by simp) (by simp) (by simp) (by simp) (by simp) (by simp) (by simp) (by simp) 
     exact bodyPost_ret (v:=.agg #[.int .i64 ((k : Nat) : Int),.int .i64 0,.int .i64 0,.slice none 0 0,.slice none 0 0,.int .i64 i,.int .i64 j,.int .i64 ((J : Nat) : Int),.int .u64 0,.bool yb]) (by simp [results,Tryz.results43,go_sem,z0,z1,z2,z3,z4,z5,z6,z7,z8,z9]) rfl ⟨(⟨(k : Int),0,0,none,0,0,none,0,0,i,j,(J : Int),0,yb⟩ : CmM),[],[],some r,rfl,F.rdr,F.onl,⟨FT,(by show 0 < 18446744073709551616;decide)⟩,⟨Nat.zero_le _,Nat.zero_le _⟩,Q.out,fun e=>by cases e⟩
   ·have i1 : (1 : Int) < ((y : Nat) : Int):=by omega
    have RR : Hid (Res cmP st (cmT (⟨(k : Int),0,0,none,0,0,none,0,0,i,j,(J : Int),0,yb⟩ : CmM) [] []) none):=res_vote R1.out K1.out RS.out (res_yes_no R7.out hy yb)
    have HB : Hid (RdO (FS B g L none) g w (WA.setCell ⟨g,2,none⟩ (.bool true)) [(G,#[.int .i64 ((k : Nat) : Int),.int .i64 0,.int .i64 0,.slice none 0 0,.slice none 0 0,.int .i64 i,.int .i64 j,.int .i64 ((J : Nat) : Int),.int .u64 0,.bool yb],44),(w.heap.size,zeroV,44)] []):=HA.out.only HA.out.rdr.fails (only_set WA g 2 _)
    clear ey
    go_upto_region 13 with (fail)
    (clear x0 x1 x2 x3 x4 x5 x6 x7 x8 x9 e0 e1 e2 e3 e4 e5 e6 e7 e8 e9 z0 z1 z2 z3 z4 z5 z6 z7 z8 z9 f0 f1 f2 f3 f4 f5 f6 f7 f8 f9 fl ff)
    clear HA
    generalize WA.setCell ⟨g,2,none⟩ (.bool true) = WB at *
    obtain ⟨x0,x1,x2,x3,x4,x5,x6,x7,x8,x9⟩:=(HB.out.get 0 _ _ _ rfl).ten;have e0:=(HB.out.get 0 _ _ _ rfl).frozen 0;have e1:=(HB.out.get 0 _ _ _ rfl).frozen 1;have e2:=(HB.out.get 0 _ _ _ rfl).frozen 2;have e3:=(HB.out.get 0 _ _ _ rfl).frozen 3;have e4:=(HB.out.get 0 _ _ _ rfl).frozen 4;have e5:=(HB.out.get 0 _ _ _ rfl).frozen 5;have e6:=(HB.out.get 0 _ _ _ rfl).frozen 6;have e7:=(HB.out.get 0 _ _ _ rfl).frozen 7;have e8:=(HB.out.get 0 _ _ _ rfl).frozen 8;have e9:=(HB.out.get 0 _ _ _ rfl).frozen 9;obtain ⟨z0,z1,z2,z3,z4,z5,z6,z7,z8,z9⟩:=(HB.out.get 1 _ _ _ rfl).ten;have f0:=(HB.out.get 1 _ _ _ rfl).frozen 0;have f1:=(HB.out.get 1 _ _ _ rfl).frozen 1;have f2:=(HB.out.get 1 _ _ _ rfl).frozen 2;have f3:=(HB.out.get 1 _ _ _ rfl).frozen 3;have f4:=(HB.out.get 1 _ _ _ rfl).frozen 4;have f5:=(HB.out.get 1 _ _ _ rfl).frozen 5;have f6:=(HB.out.get 1 _ _ _ rfl).frozen 6;have f7:=(HB.out.get 1 _ _ _ rfl).frozen 7;have f8:=(HB.out.get 1 _ _ _ rfl).frozen 8;have f9:=(HB.out.get 1 _ _ _ rfl).frozen 9;obtain ⟨fl,ff⟩:=HB.out.rdr.flag
    have Q:=hid (RR.out.guard_no (c:=formCm) (cmT zeroM [] []))
    go_wp2
    have H9 : RdO (FS B g L none) g w (WB.setCell ⟨g,2,none⟩ (.bool true)) _ []:=HB.out.only HB.out.rdr.fails (only_set WB g 2 _)
    have F:=H9.tail.fill (fun _ h=>by cases h) (.int .i64 0) (.int .i64 0) (.int .i64 0) (.slice none 0 0) (.slice none 0 0) (.int .i64 0) (.int .i64 0) (.int .i64 0) (.int .u64 0) (.bool false)
    exact bodyPost_ret (v:=.agg zeroV) (by simp [results,Tryz.results43,go_sem,z0,z1,z2,z3,z4,z5,z6,z7,z8,z9]) rfl ⟨zeroM,[],[],none,rfl,F.rdr,F.onl,CmAt.zero,⟨Nat.zero_le _,Nat.zero_le _⟩,Q.out,fun _=>rfl⟩
 have q3 : (((k : Nat) : Int) == 3) = false:=by simp;omega
 have RR:=hid (res_none R1.out h1 h2 h3)
 cases st1 with
 | none =>
  have Q:=hid (RR.out.guard_no (c:=formCm) (cmT zeroM [] []))
  go_wp2
  have H9 : RdO (FS B g L none) g w (W2.setCell ⟨g,2,none⟩ (.bool true)) _ []:=H2.out.only H2.out.rdr.fails (only_set W2 g 2 _)
  have F:=H9.tail.fill (fun _ h=>by cases h) (.int .i64 0) (.int .i64 0) (.int .i64 0) (.slice none 0 0) (.slice none 0 0) (.int .i64 0) (.int .i64 0) (.int .i64 0) (.int .u64 0) (.bool false)
  exact bodyPost_ret (v:=.agg zeroV) (by simp [results,Tryz.results43,go_sem,z0,z1,z2,z3,z4,z5,z6,z7,z8,z9]) rfl ⟨zeroM,[],[],none,rfl,F.rdr,F.onl,CmAt.zero,⟨Nat.zero_le _,Nat.zero_le _⟩,Q.out,fun _=>rfl⟩
 | some r =>
  have cF : ∀ V,V = W2→Calls Tryz.prog 76 #[.agg #[.int .i64 ((k : Nat) : Int),.int .i64 0,.int .i64 0,.slice none 0 0,.slice none 0 0,.int .i64 0,.int .i64 0,.int .i64 0,.int .u64 0,.bool false]] V (Says V (formCm (cmT (⟨(k : Int),0,0,none,0,0,none,0,0,0,0,0,0,false⟩ : CmM) [] []))):=fun V e=>by subst e;exact dFormed_any (⟨(k : Int),0,0,none,0,0,none,0,0,0,0,0,0,false⟩ : CmM) [] [] _ ⟨TxAt.nil,(by show 0 < 18446744073709551616;decide)⟩ (by dsimp only;omega) (by dsimp only;omega)
  have TX : Hid (TxAt W2 (⟨(k : Int),0,0,none,0,0,none,0,0,0,0,0,0,false⟩ : CmM).a (⟨(k : Int),0,0,none,0,0,none,0,0,0,0,0,0,false⟩ : CmM).n (⟨(k : Int),0,0,none,0,0,none,0,0,0,0,0,0,false⟩ : CmM).b (⟨(k : Int),0,0,none,0,0,none,0,0,0,0,0,0,false⟩ : CmM).m [] []):=TxAt.nil
  cases hf : formCm (cmT (⟨(k : Int),0,0,none,0,0,none,0,0,0,0,0,0,false⟩ : CmM) [] [])
  ·rw [hf] at cF
   have Q:=hid (RR.out.guard_bad (c:=formCm) hf (cmT zeroM [] []))
   clear hf
   go_wp2_with (go_at_call 76;((with_reducible refine (cF _ rfl).mono ?_);rintro e w8 ⟨rfl,hb8⟩;have H8:=hid (H2.out.below hb8);(clear x0 x1 x2 x3 x4 x5 x6 x7 x8 x9 e0 e1 e2 e3 e4 e5 e6 e7 e8 e9 z0 z1 z2 z3 z4 z5 z6 z7 z8 z9 f0 f1 f2 f3 f4 f5 f6 f7 f8 f9 fl ff);obtain ⟨x0,x1,x2,x3,x4,x5,x6,x7,x8,x9⟩:=(H8.out.get 0 _ _ _ rfl).ten;have e0:=(H8.out.get 0 _ _ _ rfl).frozen 0;have e1:=(H8.out.get 0 _ _ _ rfl).frozen 1;have e2:=(H8.out.get 0 _ _ _ rfl).frozen 2;have e3:=(H8.out.get 0 _ _ _ rfl).frozen 3;have e4:=(H8.out.get 0 _ _ _ rfl).frozen 4;have e5:=(H8.out.get 0 _ _ _ rfl).frozen 5;have e6:=(H8.out.get 0 _ _ _ rfl).frozen 6;have e7:=(H8.out.get 0 _ _ _ rfl).frozen 7;have e8:=(H8.out.get 0 _ _ _ rfl).frozen 8;have e9:=(H8.out.get 0 _ _ _ rfl).frozen 9;obtain ⟨z0,z1,z2,z3,z4,z5,z6,z7,z8,z9⟩:=(H8.out.get 1 _ _ _ rfl).ten;have f0:=(H8.out.get 1 _ _ _ rfl).frozen 0;have f1:=(H8.out.get 1 _ _ _ rfl).frozen 1;have f2:=(H8.out.get 1 _ _ _ rfl).frozen 2;have f3:=(H8.out.get 1 _ _ _ rfl).frozen 3;have f4:=(H8.out.get 1 _ _ _ rfl).frozen 4;have f5:=(H8.out.get 1 _ _ _ rfl).frozen 5;have f6:=(H8.out.get 1 _ _ _ rfl).frozen 6;have f7:=(H8.out.get 1 _ _ _ rfl).frozen 7;have f8:=(H8.out.get 1 _ _ _ rfl).frozen 8;have f9:=(H8.out.get 1 _ _ _ rfl).frozen 9;obtain ⟨fl,ff⟩:=H8.out.rdr.flag))
   have H9 : RdO (FS B g L none) g w (w8.setCell ⟨g,2,none⟩ (.bool true)) _ []:=H8.out.only H8.out.rdr.fails (only_set w8 g 2 _)
   have F:=H9.tail.fill (fun _ h=>by cases h) (.int .i64 0) (.int .i64 0) (.int .i64 0) (.slice none 0 0) (.slice none 0 0) (.int .i64 0) (.int .i64 0) (.int .i64 0) (.int .u64 0) (.bool false)
   exact bodyPost_ret (v:=.agg zeroV) (by simp [results,Tryz.results43,go_sem,z0,z1,z2,z3,z4,z5,z6,z7,z8,z9]) rfl ⟨zeroM,[],[],none,rfl,F.rdr,F.onl,CmAt.zero,⟨Nat.zero_le _,Nat.zero_le _⟩,Q.out,fun _=>rfl⟩
  ·rw [hf] at cF
   have Q:=hid (RR.out.guard_yes (c:=formCm) hf)
   clear hf
   have hl2 : ∀ z ∈ ([(G,#[.int .i64 ((k : Nat) : Int),.int .i64 0,.int .i64 0,.slice none 0 0,.slice none 0 0,.int .i64 0,.int .i64 0,.int .i64 0,.int .u64 0,.bool false],44)] : List (Nat×Array Value×TypeId)),z.1≠w.heap.size:=by simp;omega
   go_wp2_with (go_at_call 76;((with_reducible refine (cF _ rfl).mono ?_);rintro e w8 ⟨rfl,hb8⟩;have H8:=hid (H2.out.below hb8);(clear x0 x1 x2 x3 x4 x5 x6 x7 x8 x9 e0 e1 e2 e3 e4 e5 e6 e7 e8 e9 z0 z1 z2 z3 z4 z5 z6 z7 z8 z9 f0 f1 f2 f3 f4 f5 f6 f7 f8 f9 fl ff);obtain ⟨x0,x1,x2,x3,x4,x5,x6,x7,x8,x9⟩:=(H8.out.get 0 _ _ _ rfl).ten;have e0:=(H8.out.get 0 _ _ _ rfl).frozen 0;have e1:=(H8.out.get 0 _ _ _ rfl).frozen 1;have e2:=(H8.out.get 0 _ _ _ rfl).frozen 2;have e3:=(H8.out.get 0 _ _ _ rfl).frozen 3;have e4:=(H8.out.get 0 _ _ _ rfl).frozen 4;have e5:=(H8.out.get 0 _ _ _ rfl).frozen 5;have e6:=(H8.out.get 0 _ _ _ rfl).frozen 6;have e7:=(H8.out.get 0 _ _ _ rfl).frozen 7;have e8:=(H8.out.get 0 _ _ _ rfl).frozen 8;have e9:=(H8.out.get 0 _ _ _ rfl).frozen 9;obtain ⟨z0,z1,z2,z3,z4,z5,z6,z7,z8,z9⟩:=(H8.out.get 1 _ _ _ rfl).ten;have f0:=(H8.out.get 1 _ _ _ rfl).frozen 0;have f1:=(H8.out.get 1 _ _ _ rfl).frozen 1;have f2:=(H8.out.get 1 _ _ _ rfl).frozen 2;have f3:=(H8.out.get 1 _ _ _ rfl).frozen 3;have f4:=(H8.out.get 1 _ _ _ rfl).frozen 4;have f5:=(H8.out.get 1 _ _ _ rfl).frozen 5;have f6:=(H8.out.get 1 _ _ _ rfl).frozen 6;have f7:=(H8.out.get 1 _ _ _ rfl).frozen 7;have f8:=(H8.out.get 1 _ _ _ rfl).frozen 8;have f9:=(H8.out.get 1 _ _ _ rfl).frozen 9;obtain ⟨fl,ff⟩:=H8.out.rdr.flag))
   have F:=H8.out.swap.fill hl2 (.int .i64 ((k : Nat) : Int)) (.int .i64 0) (.int .i64 0) (.slice none 0 0) (.slice none 0 0) (.int .i64 0) (.int .i64 0) (.int .i64 0) (.int .u64 0) (.bool false)
   have TB : TxB w8 w.heap.size zeroV 44 (⟨(k : Int),0,0,none,0,0,none,0,0,0,0,0,0,false⟩ : CmM).a (⟨(k : Int),0,0,none,0,0,none,0,0,0,0,0,0,false⟩ : CmM).n (⟨(k : Int),0,0,none,0,0,none,0,0,0,0,0,0,false⟩ : CmM).b (⟨(k : Int),0,0,none,0,0,none,0,0,0,0,0,0,false⟩ : CmM).m [] []:=⟨⟨H8.out.get 1 _ _ _ rfl,noStr_cm _ _ _ _ _ _ _ _ _ _ (by simp) (by simp) (by simp) (by simp) (by simp) (by simp) (by simp) (by simp) (by simp) (by simp) ⟩,TX.out.later hb8⟩
   have FT:=TB.fill (.int .i64 ((k : Nat) : Int)) (.int .i64 0) (.int .i64 0) (.slice none 0 0) (.slice none 0 0) (.int .i64 0) (.int .i64 0) (.int .i64 0) (.int .u64 0) (.bool false) (by simp) (by simp) (by simp) (by simp) (by simp) (by simp) (by simp) (by simp) (by simp) (by simp) 
   exact bodyPost_ret (v:=.agg #[.int .i64 ((k : Nat) : Int),.int .i64 0,.int .i64 0,.slice none 0 0,.slice none 0 0,.int .i64 0,.int .i64 0,.int .i64 0,.int .u64 0,.bool false]) (by simp [results,Tryz.results43,go_sem,z0,z1,z2,z3,z4,z5,z6,z7,z8,z9]) rfl ⟨(⟨(k : Int),0,0,none,0,0,none,0,0,0,0,0,0,false⟩ : CmM),[],[],some r,rfl,F.rdr,F.onl,⟨FT,(by show 0 < 18446744073709551616;decide)⟩,⟨Nat.zero_le _,Nat.zero_le _⟩,Q.out,fun e=>by cases e⟩
end Go.Proofs.YtigimmbdlhginaaGreatDoor
