/- Contracts of txn.TakeId, takeReads, takeWrites. Conditions: the reader lies in memory; the tables of utf8 lie there. Contracts of txn.takeReads, takeWrites. Contract of txn.Take. A record whose lists and data lie in blocks that were made later than others stays whatever is done to these. No condition. Words for a reader that is taken from while the call makes boxes of its own: the program's reader, and the document's. -/
import Derived.Test.YtcfmifongbapkaaGreatDoorRU
import Derived.Test.YtcfmifongbapkaaGreatDoorRW
import Derived.Test.YtcfmifongbapkaaGreatDoorRH
import Derived.Test.YtcfmifongbapkaaGreatDoorRI
import Derived.Test.YtcfmifongbapkaaGreatDoorRF
import Derived.Test.YtcfmifongbapkaaGreatDoorRQ
import Derived.Test.YtcfmifongbapkaaGreatDoorRK
import Derived.Test.YtcfmifongbapkaaGreatDoorRD
namespace Go.Proofs.YtcfmifongbapkaaGreatDoor
set_option maxRecDepth 100000
set_option maxHeartbeats 4000000
open Go.RowKit
open Go.Lib (hid)
set_option linter.unusedVariables false
theorem okS_any (g : Nat) (st : St) (W : World) (h : RS g st W) : Calls Tryz.prog 85 #[.pointer (some ⟨g,0,none⟩)] W fun e w'=>e = .returned (.bool st.isSome)∧W = w':=by
 cases st with
 | none=>exact ok_any g [] false W h
 | some l=>exact ok_any g l true W h
theorem RS.rd {g : Nat} {st : St} {W : World} (h : RS g st W) : ∃ l ok,RdAt W g l ok:=by
 cases st with
 | none=>exact ⟨_,_,h⟩
 | some l=>exact ⟨_,_,h⟩
abbrev valV (v : Val) : Value:=.agg #[.int .i64 v.k,.int .u64 ((v.b : Nat) : Int),.string ⟨v.t.toArray⟩]
abbrev idV (x : IdN) : Value:=.agg #[.int .i64 x.1,.int .i64 x.2]
theorem takeVS_any (g : Nat) (st : St) (W : World) (h : RS g st W) (hT : Tabs W) :
  Calls Tryz.prog 152 #[.pointer (some ⟨g,0,none⟩)] W (Took1 (RS g) g valV valP ⟨0,0,[]⟩ st W):=by
 cases st with
 | none=>exact (takesV.2 g [] false W h (fun h=>by cases h.1) hT).mono fun e w' ⟨h1,h2,h3⟩=>⟨⟨0,0,[]⟩,none,h1,h2,h3,.no _ (fun l e=>by cases e),fun _=>rfl⟩
 | some l =>
  by_cases hk : tkOk l
  ·exact (takesV.1 g l W h hk hT).mono fun e w' ⟨h1,h2,h3⟩=>⟨tkV l,some (l.drop (tkN l)),h1,h2,h3,.yes (valP_yes hk),fun e=>by cases e⟩
  ·exact (takesV.2 g l true W h (fun h=>hk h.2) hT).mono fun e w' ⟨h1,h2,h3⟩=>⟨⟨0,0,[]⟩,none,h1,h2,h3,.no _ (fun l' e=>by injection e with e;subst e;exact valP_no hk),fun _=>rfl⟩
theorem refTakeVS_any (B g : Nat) (L : List UInt8) (st : St) (W : World) (h : FS B g L st W) :
  Calls Tryz.prog 116 #[.pointer (some ⟨g,0,none⟩)] W (Took1 (FS B g L) g valV valP ⟨0,0,[]⟩ st W):=by
 obtain ⟨q,h,hq⟩:=h
 cases st with
 | none=>exact (refTakeV_no B g L q false W h (fun h=>by cases h.1)).mono fun e w' ⟨q',h1,h2,h3⟩=>⟨⟨0,0,[]⟩,none,h1,⟨q',h2,fun l e=>by cases e⟩,h3,.no _ (fun l e=>by cases e),fun _=>rfl⟩
 | some l =>
  obtain rfl:=hq l rfl
  by_cases hk : tkOk (L.drop q)
  ·exact (refTakeV_yes B g L q W h hk).mono fun e w' ⟨h1,h2,h3⟩=>⟨tkV (L.drop q),some ((L.drop q).drop (tkN (L.drop q))),h1,⟨_,h2,fun l e=>by injection e with e;rw [← e,List.drop_drop]⟩,h3,.yes (valP_yes hk),fun e=>by cases e⟩
  ·exact (refTakeV_no B g L q true W h (fun h=>hk h.2)).mono fun e w' ⟨q',h1,h2,h3⟩=>⟨⟨0,0,[]⟩,none,h1,⟨q',h2,fun l e=>by cases e⟩,h3,.no _ (fun l' e=>by injection e with e;subst e;exact valP_no hk),fun _=>rfl⟩
theorem val_lt {st st' : St} {v : Val} (h : Res valP st v st') (h0 : st' = none→v = ⟨0,0,[]⟩) : v.b < 18446744073709551616∧v.t.length≤65535:=by
 rcases h with ⟨l,r,rfl,h,rfl⟩ | ⟨_,e⟩
 ·by_cases hk : tkOk l
  ·rw [valP_yes hk] at h
   injection h with h;injection h with h _
   subst h
   unfold tkV
   split
   ·refine ⟨?_,Nat.zero_le _⟩
    have h1:=numB_lt ((l.drop 1).take 8)
    have h2 : ((l.drop 1).take 8).length≤8:=by rw [List.length_take];omega
    exact Nat.lt_of_lt_of_le h1 (Nat.le_trans (Nat.pow_le_pow_right (by omega) h2) (by decide))
   ·split
    ·refine ⟨(by show 0 < 18446744073709551616;decide),?_⟩
     have:=textLen_lt (l.drop 1)
     show (((l.drop 1).drop 2).take (textLen (l.drop 1))).length≤65535
     rw [List.length_take];omega
    ·exact ⟨(by show 0 < 18446744073709551616;decide),Nat.zero_le _⟩
  ·rw [valP_no hk] at h;cases h
 ·rw [h0 e];exact ⟨by decide,Nat.zero_le _⟩
theorem tfail_any (g : Nat) (st : St) (W : World) (h : RS g st W) :
  Calls Tryz.prog 144 #[.pointer (some ⟨g,0,none⟩)] W fun e w'=>e = .returned (.tuple #[])∧RS g none w'∧Only g W w':=by
 obtain ⟨l,ok,hr⟩:=h.rd
 have c:=take_no g l ok (-1) W hr (.inr (.inl (by omega)))
 clear hr h
 go_enter Tryz.func144,Tryz.ntmps144
 go_wp2_with (go_at_call 80;((with_reducible refine c.mono ?_);rintro e w1 ⟨rfl,hr1,ho1⟩))
 go_end0
 exact ⟨rfl,hr1,ho1⟩
theorem res_id {st st1 st2 : St} {x y : Nat} (h1 : Res (numP 1) st x st1) (h2 : Res (numP 4) st1 y st2) : Res idP st ((x : Int),(y : Int)) st2:=by
 unfold idP
 exact Res.bind (x:=x) h1 (Res.bind (x:=y) h2 (Res.pure _ _))
theorem tTakeId_any (g : Nat) (st : St) (w : World) (h : RS g st w) :
  Calls Tryz.prog 141 #[.pointer (some ⟨g,0,none⟩)] w (Took1 (RS g) g idV idQ (0,0) st w):=by
 have hlt:=h.lt
 have H0:=hid ((RdO.start h hlt).more #[.int .i64 0,.int .i64 0] 26)
 have c1 : ∀ s W,RS g s W→Calls Tryz.prog 80 #[.pointer (some ⟨g,0,none⟩),.int .i64 1] W (Took1 (RS g) g numV (numP 1) 0 s W):=fun s W h=>takeS_any g 1 s W h (by omega)
 have c4 : ∀ s W,RS g s W→Calls Tryz.prog 80 #[.pointer (some ⟨g,0,none⟩),.int .i64 4] W (Took1 (RS g) g numV (numP 4) 0 s W):=fun s W h=>takeS_any g 4 s W h (by omega)
 clear h
 go_enter Tryz.func141,Tryz.ntmps141
 go_upto_region 2 with (go_at_call 80;((with_reducible refine (c1 _ _ H0.out.rdr).mono ?_);rintro e w1 ⟨x,st1,rfl,hr1,ho1,hR1,hz1⟩;have H1:=hid (H0.out.only hr1 ho1);have R1:=hid hR1;have Z1:=hid hz1;have hx : x < 256:=num_lt hR1 hz1 (by decide);clear hr1 ho1 hR1 hz1))
 have H2:=hid (H1.out.more #[.int .i64 x,.int .i64 0] 26)
 have hG : w.heap.size < w1.heap.size:=(H1.out.get 0 _ _ _ rfl).lt
 clear H0 H1
 generalize w1.alloc (.cells #[.int .i64 x,.int .i64 0] 26) = W2 at *
 generalize w1.heap.size = G at *
 have hgG : g≠G:=by omega
 go_upto_region 3 with (go_at_call 80;((with_reducible refine (c4 _ _ H2.out.rdr).mono ?_);rintro e w3 ⟨y,st2,rfl,hr3,ho3,hR3,hz3⟩;have H3:=hid (H2.out.only hr3 ho3);obtain ⟨x0,x1⟩:=(H3.out.get 0 _ _ _ rfl).two;have f1:=(H3.out.get 0 _ _ _ rfl).frozen 1;have R3:=hid hR3;have Z3:=hid hz3;have hy : y < 4294967296:=num_lt hR3 hz3 (by decide);clear hr3 ho3 hR3 hz3))
 have H4 : Hid (RdO (RS g st2) g w (w3.setCell ⟨G,1,none⟩ (.int .i64 y)) [(G,#[.int .i64 x,.int .i64 y],26),(w.heap.size,#[.int .i64 0,.int .i64 0],26)] []):=H3.out.set (by simp;omega) 1 (.int .i64 y)
 have RR : Hid (Res idP st ((x : Int),(y : Int)) st2):=res_id R1.out R3.out
 clear H2 H3 x0 x1 f1 c1 c4 R1 R3 Z1
 generalize w3.setCell ⟨G,1,none⟩ (.int .i64 y) = W4 at *
 obtain ⟨x0,x1⟩:=(H4.out.get 0 _ _ _ rfl).two
 have cI:=tId_any (x : Int) (y : Int)
 cases hf : idB ((x : Int),(y : Int))
 ·rw [hf] at cI
  have Q:=hid (RR.out.guard_bad (c:=idB) hf (0,0))
  clear hf RR
  go_wp2_with (first | (go_at_call 117;((with_reducible refine (cI _).mono ?_);rintro e w5 ⟨rfl,hb5⟩;have H5:=hid (H4.out.below hb5))) | (go_at_call 144;((with_reducible refine (tfail_any g _ _ H5.out.rdr).mono ?_);rintro e w6 ⟨rfl,hr6,ho6⟩;have H6:=hid (H5.out.only hr6 ho6);(clear x0 x1);obtain ⟨x0,x1⟩:=(H6.out.get 0 _ _ _ rfl).two;obtain ⟨z0,z1⟩:=(H6.out.get 1 _ _ _ rfl).two;have f0:=(H6.out.get 1 _ _ _ rfl).frozen 0;have f1:=(H6.out.get 1 _ _ _ rfl).frozen 1)))
  have H7:=H6.out.tail.set (fun _ h=>by cases h) 0 (.int .i64 0)
  have H8:=H7.set (fun _ h=>by cases h) 1 (.int .i64 0)
  exact bodyPost_ret (v:=.agg #[.int .i64 0,.int .i64 0]) (by simp [results,Tryz.results141,go_sem,z0,z1]) rfl ⟨(0,0),none,rfl,H8.rdr,H8.onl,Q.out,fun _=>rfl⟩
 ·rw [hf] at cI
  have hne : st2≠none:=fun e=>by
   have:=Z3.out e
   rw [idB_iff] at hf
   have:=hf.2.1
   omega
  have Q:=hid (RR.out.guard_yes (c:=idB) hf)
  clear hf RR
  go_wp2_with (go_at_call 117;((with_reducible refine (cI _).mono ?_);rintro e w5 ⟨rfl,hb5⟩;have H6:=hid (H4.out.below hb5);(clear x0 x1);obtain ⟨x0,x1⟩:=(H6.out.get 0 _ _ _ rfl).two;obtain ⟨z0,z1⟩:=(H6.out.get 1 _ _ _ rfl).two;have f0:=(H6.out.get 1 _ _ _ rfl).frozen 0;have f1:=(H6.out.get 1 _ _ _ rfl).frozen 1))
  have H7:=H6.out.tail.set (fun _ h=>by cases h) 0 (.int .i64 x)
  have H8:=H7.set (fun _ h=>by cases h) 1 (.int .i64 y)
  exact bodyPost_ret (v:=.agg #[.int .i64 x,.int .i64 y]) (by simp [results,Tryz.results141,go_sem,z0,z1]) rfl ⟨((x : Int),(y : Int)),st2,rfl,H8.rdr,H8.onl,Q.out,fun e=>absurd e hne⟩
/-- Reads are taken, writes are: a new row of them is answered, the reader goes on. -/
def TookR (rd : St→World→Prop) (g : Nat) (st : St) (w : World) (e : Ending) (w' : World) : Prop :=
 ∃ (xs : List RdM) (v : Value) (st' : St),e = .returned v∧rd st' w'∧Only g w w'∧w'.ownsRow w.heap.size 153 2 v xs.length (xs.flatMap readC)∧(xs.length≤255∧∀ x ∈ xs,RdOk x)∧Res (listP readP) st (txR xs) st'
def TookW (rd : St→World→Prop) (g : Nat) (st : St) (w : World) (e : Ending) (w' : World) : Prop :=
 ∃ (xs : List WrM) (v : Value) (st' : St),e = .returned v∧rd st' w'∧Only g w w'∧w'.ownsRow w.heap.size 157 4 v xs.length (xs.flatMap writeC)∧(xs.length≤255∧∀ x ∈ xs,WrOk x)∧Res (listP (writeP valP)) st (txW xs) st'
theorem txR_app (xs : List RdM) (y : List UInt8) (z : Nat) : txR (xs ++ [(⟨y.toArray⟩,z)]) = txR xs ++ [(y,z)]:=by simp [txR]
theorem txW_app (xs : List WrM) (y : List UInt8) (v : Val) : txW (xs ++ [⟨⟨y.toArray⟩,v.k,v.b,⟨v.t.toArray⟩⟩]) = txW xs ++ [(y,v)]:=by simp [txW,valM]
theorem takeReads_any (g : Nat) (st : St) (w : World) (h : RS g st w) :
  Calls Tryz.prog 142 #[.pointer (some ⟨g,0,none⟩)] w (TookR (RS g) g st w):=by
 obtain ⟨iR,hi,hz0,hz1,hz2⟩:=info_parts Tryz.rInfo153
 have hlt:=h.lt
 have H0:=hid (RdO.start h hlt)
 have c1 : ∀ s W,RS g s W→Calls Tryz.prog 80 #[.pointer (some ⟨g,0,none⟩),.int .i64 1] W (Took1 (RS g) g numV (numP 1) 0 s W):=fun s W h=>takeS_any g 1 s W h (by omega)
 have c8 : ∀ s W,RS g s W→Calls Tryz.prog 80 #[.pointer (some ⟨g,0,none⟩),.int .i64 8] W (Took1 (RS g) g numV (numP 8) 0 s W):=fun s W h=>takeS_any g 8 s W h (by omega)
 have ct : ∀ s W,RS g s W→Calls Tryz.prog 151 #[.pointer (some ⟨g,0,none⟩),.int .i64 12] W (Took1 (RS g) g textV (textP 12) [] s W):=fun s W h=>takeTextS_any g 12 s W h
 clear h
 go_enter Tryz.func142,Tryz.ntmps142
 go_wp2_with (go_at_call 80;((with_reducible refine (c1 _ _ H0.out.rdr).mono ?_);rintro e w1 ⟨n,st1,rfl,hr1,ho1,hR1,hzz1⟩;have H1:=hid (H0.out.only hr1 ho1);have R1:=hid hR1;have hn : n < 256:=num_lt hR1 hzz1 (by decide);clear hr1 ho1 hR1 hzz1))
 clear c1 H0
 go_loopw [3,7] (fun v i wr => ∃ (k : Nat) (xs : List RdM) (st2 : St),k≤n∧i = .int .u64 k∧RdO (RS g st2) g w wr [] [⟨153,2,v,xs.length,xs.flatMap readC⟩]∧(∀ x ∈ xs,RdOk x)∧RunZ readP n st1 k (txR xs) st2) (fun _ i _=>n - (intOf i).toNat)
 case atStart=>exact ⟨0,[],st1,Nat.zero_le _,rfl,H1.out.none _ _,(fun x hx=>by cases hx),RunZ.start _ _ _⟩
 case round =>
  obtain ⟨k,xs,st2,hk,rfl,hO,hok,hrun⟩:=hrel
  have OO:=hid hO
  have KK:=hid hok
  have RU:=hid hrun
  have hxl : xs.length≤255:=by have:=hrun.len;simp only [txR,List.length_map] at this;omega
  have hxn : xs.length≤n:=by have:=hrun.len;simp only [txR,List.length_map] at this;omega
  clear hO hok hrun H1
  by_cases hltk : k < n
  ·go_upto_region 5 with (go_at_call 151;((with_reducible refine (ct _ _ OO.out.rdr).mono ?_);rintro e w2 ⟨y,st3,rfl,hr2,ho2,hR2,hzz2⟩;have H2:=hid (OO.out.only hr2 ho2);have R2:=hid hR2;have hy : y.length≤12:=text_le hR2 hzz2;clear hr2 ho2 hR2 hzz2))
   have H3:=hid (H2.out.more #[.string ⟨y.toArray⟩,.int .u64 0] 153)
   have hGw:=H2.out.size
   clear H2 OO
   generalize w2.alloc (.cells #[.string ⟨y.toArray⟩,.int .u64 0] 153) = W3 at *
   generalize w2.heap.size = G at *
   have hgG : g≠G:=by omega
   go_upto_region 6 with (go_at_call 80;((with_reducible refine (c8 _ _ H3.out.rdr).mono ?_);rintro e w4 ⟨z,st4,rfl,hr4,ho4,hR4,hzz4⟩;have H4:=hid (H3.out.only hr4 ho4);obtain ⟨x0,x1⟩:=(H4.out.get 0 _ _ _ rfl).two;have f1:=(H4.out.get 0 _ _ _ rfl).frozen 1;have R4:=hid hR4;have hzl : z < 18446744073709551616:=num_lt hR4 hzz4 (by decide);clear hr4 ho4 hR4 hzz4))
   have H5 : Hid (RdO (RS g st4) g w (w4.setCell ⟨G,1,none⟩ (.int .u64 z)) [(G,#[.string ⟨y.toArray⟩,.int .u64 z],153)] [⟨153,2,_,xs.length,xs.flatMap readC⟩]):=H4.out.set (fun _ h=>by cases h) 1 (.int .u64 z)
   have RR : Hid (Res readP st2 (y,z) st4):=by unfold Hid readP;exact Res.bind (x:=y) R2.out (Res.bind (x:=z) R4.out (Res.pure _ _))
   have RN:=hid (RU.out.next hltk RR.out)
   clear H3 H4 x0 x1 f1 R2 R4 RR RU
   generalize w4.setCell ⟨G,1,none⟩ (.int .u64 z) = W5 at *
   obtain ⟨x0,x1⟩:=(H5.out.get 0 _ _ _ rfl).two
   have hsz:=H5.out.size
   go_wp2_with (at_builtin;(refine wpList_append_rowk _ rfl _ _ 27 rfl w.heap.size 153 iR _ 2 24 Tryz.underlying27 hi hz0 hz1 hz2 rfl (by omega) _ xs.length (xs.flatMap readC) rfl (H5.out.alloc _).head (W5.heap.size + 1) (some ⟨W5.heap.size,0,none⟩) 1 1 (readC (⟨y.toArray⟩,z)) rfl (RowAt.oneR W5 (⟨y.toArray⟩,z) _) (readC_cells _) (by unfold maxLen;omega) (by omega) (by simp;omega) ?_;intro v6 w6 ho6 hg6 hat6;have M6:=hid ((H5.out.alloc _).grow ho6 hg6 hat6).tail;clear ho6 hg6 hat6))
   go_roundw
   case rel=>exact ⟨k + 1,xs ++ [(⟨y.toArray⟩,z)],st4,by omega,by go_num,by rw [List.length_append,List.flatMap_append];simpa using M6.out,(fun x hx=>by
     rcases List.mem_append.1 hx with hx | hx
     ·exact KK.out x hx
     ·simp only [List.mem_cons,List.not_mem_nil,or_false] at hx
      subst hx
      refine ⟨?_,hzl⟩
      show y.toArray.size≤maxLen
      unfold maxLen;simp;omega),by rw [txR_app];exact RN.out⟩
   case measure=>simp [intOf];omega
  ·have hkn : n = k:=by omega
   subst hkn
   have QQ : Hid (Res (listP readP) st (txR xs) st2):=by unfold Hid listP;exact Res.bind (x:=n) R1.out RU.out.done
   obtain ⟨a7,c7,e7,_,_⟩:=ownk_form OO.out.head
   have e7' : u3 = .slice a7 xs.length c7:=e7
   clear e7
   subst e7'
   go_wp2
   go_ret
   exact ⟨xs,_,st2,rfl,OO.out.rdr,OO.out.onl,OO.out.head,⟨hxl,KK.out⟩,QQ.out⟩
theorem takeWrites_any (g : Nat) (st : St) (w : World) (h : RS g st w) (hU : Tabs w) :
  Calls Tryz.prog 143 #[.pointer (some ⟨g,0,none⟩)] w (TookW (RS g) g st w):=by
 obtain ⟨iR,hi,hz0,hz1,hz2⟩:=info_parts Tryz.rInfo157
 have hlt:=h.lt
 have H0:=hid (RdO.start h hlt)
 have c1 : ∀ s W,RS g s W→Calls Tryz.prog 80 #[.pointer (some ⟨g,0,none⟩),.int .i64 1] W (Took1 (RS g) g numV (numP 1) 0 s W):=fun s W h=>takeS_any g 1 s W h (by omega)
 obtain ⟨l0,ok0,hrd0⟩:=h.rd
 have cv : ∀ s W,RS g s W→Only g w W→Calls Tryz.prog 152 #[.pointer (some ⟨g,0,none⟩)] W (Took1 (RS g) g valV valP ⟨0,0,[]⟩ s W):=fun s W h ho=>takeVS_any g s W h (hU.only hrd0 ho)
 have ct : ∀ s W,RS g s W→Calls Tryz.prog 151 #[.pointer (some ⟨g,0,none⟩),.int .i64 12] W (Took1 (RS g) g textV (textP 12) [] s W):=fun s W h=>takeTextS_any g 12 s W h
 clear h hrd0 hU
 go_enter Tryz.func143,Tryz.ntmps143
 go_wp2_with (go_at_call 80;((with_reducible refine (c1 _ _ H0.out.rdr).mono ?_);rintro e w1 ⟨n,st1,rfl,hr1,ho1,hR1,hzz1⟩;have H1:=hid (H0.out.only hr1 ho1);have R1:=hid hR1;have hn : n < 256:=num_lt hR1 hzz1 (by decide);clear hr1 ho1 hR1 hzz1))
 clear c1 H0
 go_loopw [3,7] (fun v i wr => ∃ (k : Nat) (xs : List WrM) (st2 : St),k≤n∧i = .int .u64 k∧RdO (RS g st2) g w wr [] [⟨157,4,v,xs.length,xs.flatMap writeC⟩]∧(∀ x ∈ xs,WrOk x)∧RunZ (writeP valP) n st1 k (txW xs) st2) (fun _ i _=>n - (intOf i).toNat)
 case atStart=>exact ⟨0,[],st1,Nat.zero_le _,rfl,H1.out.none _ _,(fun x hx=>by cases hx),RunZ.start _ _ _⟩
 case round =>
  obtain ⟨k,xs,st2,hk,rfl,hO,hok,hrun⟩:=hrel
  have OO:=hid hO
  have KK:=hid hok
  have RU:=hid hrun
  have hxl : xs.length≤255:=by have:=hrun.len;simp only [txW,List.length_map] at this;omega
  have hxn : xs.length≤n:=by have:=hrun.len;simp only [txW,List.length_map] at this;omega
  clear hO hok hrun H1
  by_cases hltk : k < n
  ·go_upto_region 5 with (go_at_call 151;((with_reducible refine (ct _ _ OO.out.rdr).mono ?_);rintro e w2 ⟨y,st3,rfl,hr2,ho2,hR2,hzz2⟩;have H2:=hid (OO.out.only hr2 ho2);have R2:=hid hR2;have hy : y.length≤12:=text_le hR2 hzz2;clear hr2 ho2 hR2 hzz2))
   have H3:=hid (H2.out.more #[.string ⟨y.toArray⟩,.int .i64 0,.int .u64 0,.string ⟨#[]⟩] 157)
   have hGw:=H2.out.size
   clear H2 OO
   generalize w2.alloc (.cells #[.string ⟨y.toArray⟩,.int .i64 0,.int .u64 0,.string ⟨#[]⟩] 157) = W3 at *
   generalize w2.heap.size = G at *
   have hgG : g≠G:=by omega
   go_upto_region 6 with (go_at_call 152;((with_reducible refine (cv _ _ H3.out.rdr H3.out.onl).mono ?_);rintro e w4 ⟨z,st4,rfl,hr4,ho4,hR4,hzz4⟩;have H4:=hid (H3.out.only hr4 ho4);obtain ⟨x0,x1,x2,x3⟩:=(H4.out.get 0 _ _ _ rfl).four;have f1:=(H4.out.get 0 _ _ _ rfl).frozen 1;have f2:=(H4.out.get 0 _ _ _ rfl).frozen 2;have f3:=(H4.out.get 0 _ _ _ rfl).frozen 3;have R4:=hid hR4;have hzl:=val_lt hR4 hzz4;clear hr4 ho4 hR4 hzz4))
   have H5 : Hid (RdO (RS g st4) g w (((w4.setCell ⟨G,1,none⟩ (.int .i64 z.k)).setCell ⟨G,2,none⟩ (.int .u64 ((z.b : Nat) : Int))).setCell ⟨G,3,none⟩ (.string ⟨z.t.toArray⟩)) [(G,#[.string ⟨y.toArray⟩,.int .i64 z.k,.int .u64 ((z.b : Nat) : Int),.string ⟨z.t.toArray⟩],157)] [⟨157,4,_,xs.length,xs.flatMap writeC⟩]):=((H4.out.set (fun _ h=>by cases h) 1 (.int .i64 z.k)).set (fun _ h=>by cases h) 2 (.int .u64 ((z.b : Nat) : Int))).set (fun _ h=>by cases h) 3 (.string ⟨z.t.toArray⟩)
   have RR : Hid (Res (writeP valP) st2 (y,z) st4):=by unfold Hid writeP;exact Res.bind (x:=y) R2.out (Res.bind (x:=z) R4.out (Res.pure _ _))
   have RN:=hid (RU.out.next hltk RR.out)
   clear H3 H4 x0 x1 x2 x3 f1 f2 f3 R2 R4 RR RU
   generalize ((w4.setCell ⟨G,1,none⟩ (.int .i64 z.k)).setCell ⟨G,2,none⟩ (.int .u64 ((z.b : Nat) : Int))).setCell ⟨G,3,none⟩ (.string ⟨z.t.toArray⟩) = W5 at *
   obtain ⟨x0,x1,x2,x3⟩:=(H5.out.get 0 _ _ _ rfl).four
   have hsz:=H5.out.size
   go_wp2_with (at_builtin;(refine wpList_append_rowk _ rfl _ _ 28 rfl w.heap.size 157 iR _ 4 48 Tryz.underlying28 hi hz0 hz1 hz2 rfl (by omega) _ xs.length (xs.flatMap writeC) rfl (H5.out.alloc _).head (W5.heap.size + 1) (some ⟨W5.heap.size,0,none⟩) 1 1 (writeC ⟨⟨y.toArray⟩,z.k,z.b,⟨z.t.toArray⟩⟩) rfl (RowAt.oneW W5 ⟨⟨y.toArray⟩,z.k,z.b,⟨z.t.toArray⟩⟩ _) (writeC_cells _) (by unfold maxLen;omega) (by omega) (by simp;omega) ?_;intro v6 w6 ho6 hg6 hat6;have M6:=hid ((H5.out.alloc _).grow ho6 hg6 hat6).tail;clear ho6 hg6 hat6))
   go_roundw
   case rel=>exact ⟨k + 1,xs ++ [⟨⟨y.toArray⟩,z.k,z.b,⟨z.t.toArray⟩⟩],st4,by omega,by go_num,by rw [List.length_append,List.flatMap_append];simpa using M6.out,(fun x hx=>by
     rcases List.mem_append.1 hx with hx | hx
     ·exact KK.out x hx
     ·simp only [List.mem_cons,List.not_mem_nil,or_false] at hx
      subst hx
      refine ⟨?_,hzl.1,?_⟩
      ·show y.toArray.size≤maxLen
       unfold maxLen;simp;omega
      ·show z.t.toArray.size≤maxLen
       have:=hzl.2
       unfold maxLen;simp;omega),by rw [txW_app];exact RN.out⟩
   case measure=>simp [intOf];omega
  ·have hkn : n = k:=by omega
   subst hkn
   have QQ : Hid (Res (listP (writeP valP)) st (txW xs) st2):=by unfold Hid listP;exact Res.bind (x:=n) R1.out RU.out.done
   obtain ⟨a7,c7,e7,_,_⟩:=ownk_form OO.out.head
   have e7' : u3 = .slice a7 xs.length c7:=e7
   clear e7
   subst e7'
   go_wp2
   go_ret
   exact ⟨xs,_,st2,rfl,OO.out.rdr,OO.out.onl,OO.out.head,⟨hxl,KK.out⟩,QQ.out⟩
/-- Nothing, or in a block that came later. -/
def NewP (B : Nat) (a : Option Addr) : Prop := ∀ p,a = some p→B≤p.block
theorem NewP.none (B : Nat) : NewP B Option.none:=fun p h=>by cases h
theorem NewP.mono {B C : Nat} {a : Option Addr} (h : NewP B a) (hB : C≤B) : NewP C a:=fun p e=>Nat.le_trans hB (h p e)
theorem NewP.of_own {W : World} {B e k n m c : Nat} {a : Option Addr} {xs : List Value} (h : W.ownsRow B e k (.slice a m c) n xs) : NewP B a:=by
 rintro p rfl
 rcases h.2 with ⟨h0,_⟩ | ⟨b,cap,cur,h1,h2,_⟩
 ·cases h0
 ·injection h1 with h1 _ _;injection h1 with h1;subst h1;exact h2
/-- A transaction is taken; a zero one where it fails; its lists lie in blocks made by the call. -/
def GotT (rd : St→World→Prop) (g : Nat) (st : St) (w : World) (e : Ending) (w' : World) : Prop :=
 ∃ (s q : Int) (a : Option Addr) (n c : Nat) (b : Option Addr) (m d : Nat) (rs : List RdM) (ws : List WrM) (st' : St),e = .returned (.agg (txV s q a n c b m d))∧rd st' w'∧Only g w w'∧TxAt w' a n b m rs ws∧((n≤255∧m≤255)∧NewP w.heap.size a∧NewP w.heap.size b)∧Res txnF st (txT (s,q) rs ws) st'∧(st' = none→(s = 0∧q = 0)∧rs = []∧ws = [])
theorem tTake_any (g : Nat) (st : St) (w : World) (h : RS g st w) (hU : Tabs w) :
  Calls Tryz.prog 131 #[.pointer (some ⟨g,0,none⟩)] w (GotT (RS g) g st w):=by
 have hlt:=h.lt
 have H0:=hid ((RdO.start h hlt).more (txV 0 0 none 0 0 none 0 0) 30)
 obtain ⟨l0,ok0,hrd0⟩:=h.rd
 have HT : Hid (∀ W,Only g w W→Tabs W):=fun W ho=>hU.only hrd0 ho
 clear h hrd0 hU
 go_enter Tryz.func131,Tryz.ntmps131
 go_upto_region 2 with (go_at_call 141;((with_reducible refine (tTakeId_any g _ _ H0.out.rdr).mono ?_);rintro e w1 ⟨⟨s,q⟩,st1,rfl,hr1,ho1,hR1,hz1⟩;have H1:=hid (H0.out.only hr1 ho1);have R1:=hid hR1;clear hr1 ho1 hR1 hz1))
 have H2:=hid (H1.out.more (txV s q none 0 0 none 0 0) 30)
 have hG : w.heap.size < w1.heap.size:=(H1.out.get 0 _ _ _ rfl).lt
 clear H0 H1
 generalize w1.alloc (.cells (txV s q none 0 0 none 0 0) 30) = W2 at *
 generalize w1.heap.size = G at *
 have hl1 : ∀ x ∈ ([(w.heap.size,txV 0 0 none 0 0 none 0 0,30)] : List (Nat×Array Value×TypeId)),x.1≠G:=by simp;omega
 go_upto_region 3 with (go_at_call 142;((with_reducible refine (takeReads_any g _ _ H2.out.rdr).mono ?_);rintro e w3 ⟨rs,v3,st2,rfl,hr3,ho3,hrow3,hk3,hR3⟩;have H3:=hid (H2.out.add hr3 ho3 hrow3);obtain ⟨a3,c3,rfl,_,_⟩:=ownk_form hrow3;obtain ⟨x0,x1,x2,x3⟩:=(H3.out.get 0 _ _ _ rfl).four;have f2:=(H3.out.get 0 _ _ _ rfl).frozen 2;have R3:=hid hR3;have K3:=hid hk3;clear hr3 ho3 hrow3 hR3 hk3))
 have H4 : Hid (RdO (RS g st2) g w (w3.setCell ⟨G,2,none⟩ (.slice a3 rs.length c3)) [(G,txV s q a3 rs.length c3 none 0 0,30),(w.heap.size,txV 0 0 none 0 0 none 0 0,30)] [⟨153,2,.slice a3 rs.length c3,rs.length,rs.flatMap readC⟩]):=H3.out.set hl1 2 (.slice a3 rs.length c3)
 clear H2 H3 x0 x1 x2 x3 f2
 generalize w3.setCell ⟨G,2,none⟩ (.slice a3 rs.length c3) = W4 at *
 go_upto_region 4 with (go_at_call 143;((with_reducible refine (takeWrites_any g _ _ H4.out.rdr (HT.out _ H4.out.onl)).mono ?_);rintro e w5 ⟨ws,v5,st3,rfl,hr5,ho5,hrow5,hk5,hR5⟩;have H5:=hid (H4.out.add hr5 ho5 hrow5);obtain ⟨a5,c5,rfl,_,_⟩:=ownk_form hrow5;obtain ⟨x0,x1,x2,x3⟩:=(H5.out.get 0 _ _ _ rfl).four;have f3:=(H5.out.get 0 _ _ _ rfl).frozen 3;have R5:=hid hR5;have K5:=hid hk5;clear hr5 ho5 hrow5 hR5 hk5))
 have H6 : Hid (RdO (RS g st3) g w (w5.setCell ⟨G,3,none⟩ (.slice a5 ws.length c5)) [(G,txV s q a3 rs.length c3 a5 ws.length c5,30),(w.heap.size,txV 0 0 none 0 0 none 0 0,30)] [⟨157,4,.slice a5 ws.length c5,ws.length,ws.flatMap writeC⟩,⟨153,2,.slice a3 rs.length c3,rs.length,rs.flatMap readC⟩]):=H5.out.set hl1 3 (.slice a5 ws.length c5)
 have RR:=hid (res_txn R1.out R3.out R5.out)
 clear H4 H5 x0 x1 x2 x3 f3 R1 R3 R5
 generalize w5.setCell ⟨G,3,none⟩ (.slice a5 ws.length c5) = W6 at *
 have cF:=tFormed_any s q a3 rs.length c3 a5 ws.length c5 rs ws W6 (TxAt.rows (RowAt.of_own (H6.out.own 1 _ rfl)) (RowAt.of_own (H6.out.own 0 _ rfl)) K3.out.2 K5.out.2) (HT.out _ H6.out.onl)
 obtain ⟨x0,x1,x2,x3⟩:=(H6.out.get 0 _ _ _ rfl).four
 cases hf : formT formedB (txT (s,q) rs ws)
 ·rw [hf] at cF
  have Q:=hid (RR.out.guard_bad (c:=formT formedB) hf (txT (0,0) [] []))
  clear hf RR
  go_wp2_with (first | (go_at_call 90;((with_reducible refine cF.mono ?_);rintro e w7 ⟨rfl,hb7⟩;have H7:=hid (H6.out.below hb7))) | (go_at_call 144;((with_reducible refine (tfail_any g _ _ H7.out.rdr).mono ?_);rintro e w8 ⟨rfl,hr8,ho8⟩;have H8:=hid (H7.out.only hr8 ho8);(clear x0 x1 x2 x3);obtain ⟨x0,x1,x2,x3⟩:=(H8.out.get 0 _ _ _ rfl).four;obtain ⟨z0,z1,z2,z3⟩:=(H8.out.get 1 _ _ _ rfl).four;have f0:=(H8.out.get 1 _ _ _ rfl).frozen 0;have f1:=(H8.out.get 1 _ _ _ rfl).frozen 1;have f2:=(H8.out.get 1 _ _ _ rfl).frozen 2;have f3:=(H8.out.get 1 _ _ _ rfl).frozen 3)) | (go_at_call 85;((with_reducible refine (okS_any g none _ H8.out.rdr).mono ?_);rintro e w' ⟨rfl,rfl⟩)))
  have H9:=(((H8.out.tail.set (fun _ h=>by cases h) 0 (.int .i64 0)).set (fun _ h=>by cases h) 1 (.int .i64 0)).set (fun _ h=>by cases h) 2 (.slice none 0 0)).set (fun _ h=>by cases h) 3 (.slice none 0 0)
  exact bodyPost_ret (v:=.agg (txV 0 0 none 0 0 none 0 0)) (by simp [results,Tryz.results131,go_sem,z0,z1,z2,z3]) rfl ⟨0,0,none,0,0,none,0,0,[],[],none,rfl,H9.rdr,H9.onl,TxAt.nil,⟨⟨by omega,by omega⟩,NewP.none _,NewP.none _⟩,Q.out,fun _=>⟨⟨rfl,rfl⟩,rfl,rfl⟩⟩
 ·rw [hf] at cF
  cases st3 with
  | none =>
   have Q:=hid (RR.out.guard_no (c:=formT formedB) (txT (0,0) [] []))
   clear hf RR
   go_wp2_with (first | (go_at_call 90;((with_reducible refine cF.mono ?_);rintro e w7 ⟨rfl,hb7⟩;have H8:=hid (H6.out.below hb7);(clear x0 x1 x2 x3);obtain ⟨x0,x1,x2,x3⟩:=(H8.out.get 0 _ _ _ rfl).four;obtain ⟨z0,z1,z2,z3⟩:=(H8.out.get 1 _ _ _ rfl).four;have f0:=(H8.out.get 1 _ _ _ rfl).frozen 0;have f1:=(H8.out.get 1 _ _ _ rfl).frozen 1;have f2:=(H8.out.get 1 _ _ _ rfl).frozen 2;have f3:=(H8.out.get 1 _ _ _ rfl).frozen 3)) | (go_at_call 85;((with_reducible refine (okS_any g none _ H8.out.rdr).mono ?_);rintro e w' ⟨rfl,rfl⟩)))
   have H9:=(((H8.out.tail.set (fun _ h=>by cases h) 0 (.int .i64 0)).set (fun _ h=>by cases h) 1 (.int .i64 0)).set (fun _ h=>by cases h) 2 (.slice none 0 0)).set (fun _ h=>by cases h) 3 (.slice none 0 0)
   exact bodyPost_ret (v:=.agg (txV 0 0 none 0 0 none 0 0)) (by simp [results,Tryz.results131,go_sem,z0,z1,z2,z3]) rfl ⟨0,0,none,0,0,none,0,0,[],[],none,rfl,H9.rdr,H9.onl,TxAt.nil,⟨⟨by omega,by omega⟩,NewP.none _,NewP.none _⟩,Q.out,fun _=>⟨⟨rfl,rfl⟩,rfl,rfl⟩⟩
  | some r =>
   have Q:=hid (RR.out.guard_yes (c:=formT formedB) hf)
   clear hf RR
   have hl2 : ∀ x ∈ ([(G,txV s q a3 rs.length c3 a5 ws.length c5,30)] : List (Nat×Array Value×TypeId)),x.1≠w.heap.size:=by simp;omega
   go_wp2_with (first | (go_at_call 90;((with_reducible refine cF.mono ?_);rintro e w7 ⟨rfl,hb7⟩;have H8:=hid (H6.out.below hb7);(clear x0 x1 x2 x3);obtain ⟨x0,x1,x2,x3⟩:=(H8.out.get 0 _ _ _ rfl).four;obtain ⟨z0,z1,z2,z3⟩:=(H8.out.get 1 _ _ _ rfl).four;have f0:=(H8.out.get 1 _ _ _ rfl).frozen 0;have f1:=(H8.out.get 1 _ _ _ rfl).frozen 1;have f2:=(H8.out.get 1 _ _ _ rfl).frozen 2;have f3:=(H8.out.get 1 _ _ _ rfl).frozen 3)) | (go_at_call 85;((with_reducible refine (okS_any g (some r) _ H8.out.rdr).mono ?_);rintro e w' ⟨rfl,rfl⟩)))
   have H9:=(((H8.out.swap.set hl2 0 (.int .i64 s)).set hl2 1 (.int .i64 q)).set hl2 2 (.slice a3 rs.length c3)).set hl2 3 (.slice a5 ws.length c5)
   exact bodyPost_ret (v:=.agg (txV s q a3 rs.length c3 a5 ws.length c5)) (by simp [results,Tryz.results131,go_sem,z0,z1,z2,z3]) rfl ⟨s,q,a3,rs.length,c3,a5,ws.length,c5,rs,ws,some r,rfl,H9.rdr,H9.onl,TxAt.rows (RowAt.of_own (H9.own 1 _ rfl)) (RowAt.of_own (H9.own 0 _ rfl)) K3.out.2 K5.out.2,⟨⟨K3.out.1,K5.out.1⟩,NewP.of_own (H9.own 1 _ rfl),NewP.of_own (H9.own 0 _ rfl)⟩,Q.out,fun e=>by cases e⟩
set_option linter.unusedSimpArgs false
/-- Its lists and its data lie in blocks from B on. -/
structure NewRc (B : Nat) (x : RcM) : Prop where
 a : NewP B x.cm.a
 b : NewP B x.cm.b
 d : NewP B x.da
theorem NewRc.mono {B C : Nat} {x : RcM} (h : NewRc B x) (hB : C≤B) : NewRc C x:=⟨h.a.mono hB,h.b.mono hB,h.d.mono hB⟩
section
variable {W W' : World} {B n k C : Nat} {a : Option Addr}
theorem RowAt.far {xs : List Value} (h : RowAt W W.heap.size a n k xs) (hn : NewP B a) (hs : W.heap.size≤W'.heap.size) (hk : ∀ b,B≤b→b < W.heap.size→W'.heap[b]? = W.heap[b]?) : RowAt W' W'.heap.size a n k xs:=by
 refine RowAt.more ?_ hs
 rcases h with ⟨hl,h | ⟨b,off,rfl,hb,hc⟩⟩
 ·exact ⟨hl,.inl h⟩
 ·exact ⟨hl,.inr ⟨b,off,rfl,hb,fun j u hu=>(World.cell?_of_block (hk b (hn _ rfl) hb)).trans (hc j u hu)⟩⟩
theorem BAt.far {l : List UInt8} (h : BAt W W.heap.size a n l) (hn : NewP B a) (hs : W.heap.size≤W'.heap.size) (hk : ∀ b,B≤b→b < W.heap.size→W'.heap[b]? = W.heap[b]?) : BAt W' W'.heap.size a n l:=by
 refine BAt.more ?_ hs
 rcases h with ⟨hl,h | ⟨b,off,rfl,hb,hc⟩⟩
 ·exact ⟨hl,.inl h⟩
 ·exact ⟨hl,.inr ⟨b,off,rfl,hb,fun j hj=>(World.cell?_of_block (hk b (hn _ rfl) hb)).trans (hc j hj)⟩⟩
theorem CmAt.far {x : CmM} {rs : List RdM} {ws : List WrM} (h : CmAt W x rs ws) (ha : NewP B x.a) (hb : NewP B x.b) (hs : W.heap.size≤W'.heap.size) (hk : ∀ b,B≤b→b < W.heap.size→W'.heap[b]? = W.heap[b]?) : CmAt W' x rs ws :=
 ⟨⟨⟨⟨h.tx.lenR,h.tx.rds.2.far ha hs hk⟩,⟨h.tx.lenW,h.tx.wrs.2.far hb hs hk⟩⟩,h.tx.okR,h.tx.okW⟩,h.st⟩
theorem RcAt.far {x : RcM} {L : RcL} (h : RcAt W x L) (hn : NewRc B x) (hs : W.heap.size≤W'.heap.size) (hk : ∀ b,B≤b→b < W.heap.size→W'.heap[b]? = W.heap[b]?) : RcAt W' x L :=
 ⟨h.cm.far hn.a hn.b hs hk,h.da.far hn.d hs hk,h.br⟩
end
/-- What holds while something is taken: the reader, and boxes of the call's own. -/
def RdW (w W : World) (g : Nat) (l : List UInt8) (ok : Bool) (bs : List (Nat×Array Value×TypeId)) : Prop :=
 RdAt W g l ok∧Only g w W∧g < w.heap.size∧∀ b ∈ bs,w.heap.size≤b.1∧BoxC W b.1 b.2.1 b.2.2
section
variable {w W W' : World} {G i : Nat} {bs : List (Nat×Array Value×TypeId)} {cs : Array Value} {t : TypeId} {g : Nat} {l l' : List UInt8} {ok ok' : Bool}
theorem RdW.start (h : RdAt w g l ok) : RdW w w g l ok []:=⟨h,Only.refl _ _,h.lt,fun b hb=>by cases hb⟩
theorem RdW.rd (h : RdW w W g l ok bs) : RdAt W g l ok:=h.1
theorem RdW.get (h : RdW w W g l ok bs) (i : Nat) (G : Nat) (cs : Array Value) (t : TypeId) (hi : bs[i]? = some (G,cs,t)) : BoxC W G cs t:=(h.2.2.2 _ (List.mem_of_getElem? hi)).2
theorem RdW.only (h : RdW w W g l ok bs) (hr : RdAt W' g l' ok') (ho : Only g W W') : RdW w W' g l' ok' bs :=
 ⟨hr,h.2.1.trans ho,h.2.2.1,fun b hb=>⟨(h.2.2.2 b hb).1,(h.2.2.2 b hb).2.only ho (by have:=(h.2.2.2 b hb).1;have:=h.2.2.1;omega)⟩⟩
theorem RdW.below (h : RdW w W g l ok bs) (hb : Below W.heap.size W W') : RdW w W' g l ok bs :=
 h.only (h.1.below hb) ⟨hb.os,hb.tape,hb.output,hb.size,fun _ hb' _=>hb.block _ hb'⟩
theorem RdW.more (h : RdW w W g l ok bs) (cs : Array Value) (t : TypeId) : RdW w (W.alloc (.cells cs t)) g l ok ((W.heap.size,cs,t) :: bs):=by
 have h':=h.below ((Below.refl W.heap.size W).alloc (Nat.le_refl _) (.cells cs t))
 refine ⟨h'.1,h'.2.1,h'.2.2.1,fun b hb=>?_⟩
 rcases List.mem_cons.1 hb with rfl | hb
 ·exact ⟨h.2.1.size,BoxC.new W cs t⟩
 ·exact h'.2.2.2 b hb
theorem RdW.out (h : RdW w W g l ok bs) (hG : w.heap.size≤G) (u : Value) : RdW w (W.setCell ⟨G,i,none⟩ u) g l ok []:=by
 have hg:=h.2.2.1
 have hb : ∀ b,b < w.heap.size→(W.setCell ⟨G,i,none⟩ u).heap[b]? = W.heap[b]?:=fun b hb=>Below.heap_setCell _ _ _ _ (by show b≠G;omega)
 exact ⟨h.1.keep fun b hb'=>hb b (by omega),⟨h.2.1.os,h.2.1.tape,h.2.1.output,by have:=h.2.1.size;simpa [World.setCell] using this,fun b hb' hne=>(hb b hb').trans (h.2.1.block b hb' hne)⟩,hg,fun b hb=>by cases hb⟩
theorem RdW.set (h : RdW w W g l ok ((G,cs,t) :: bs)) (hl : ∀ b ∈ bs,b.1≠G) (i : Nat) (u : Value) : RdW w (W.setCell ⟨G,i,none⟩ u) g l ok ((G,cs.setIfInBounds i u,t) :: bs):=by
 have hG:=(h.2.2.2 (G,cs,t) (List.mem_cons_self ..))
 have h':=RdW.out (i:=i) h hG.1 u
 refine ⟨h'.1,h'.2.1,h'.2.2.1,fun b hb=>?_⟩
 rcases List.mem_cons.1 hb with rfl | hb
 ·exact ⟨hG.1,hG.2.set i u⟩
 ·exact ⟨(h.2.2.2 b (List.mem_cons_of_mem _ hb)).1,((h.2.2.2 b (List.mem_cons_of_mem _ hb)).2).far i u (hl b hb)⟩
end
/-- What holds while something is taken: the reader, and boxes of the call's own. -/
def RfW (w W : World) (B g : Nat) (L : List UInt8) (k : Nat) (ok : Bool) (bs : List (Nat×Array Value×TypeId)) : Prop :=
 RefAt W B g L k ok∧Only g w W∧g < w.heap.size∧∀ b ∈ bs,w.heap.size≤b.1∧BoxC W b.1 b.2.1 b.2.2
section
variable {w W W' : World} {G i : Nat} {bs : List (Nat×Array Value×TypeId)} {cs : Array Value} {t : TypeId} {B g : Nat} {L : List UInt8} {k k' : Nat} {ok ok' : Bool}
theorem RfW.start (h : RefAt w B g L k ok) : RfW w w B g L k ok []:=⟨h,Only.refl _ _,h.lt,fun b hb=>by cases hb⟩
theorem RfW.rd (h : RfW w W B g L k ok bs) : RefAt W B g L k ok:=h.1
theorem RfW.get (h : RfW w W B g L k ok bs) (i : Nat) (G : Nat) (cs : Array Value) (t : TypeId) (hi : bs[i]? = some (G,cs,t)) : BoxC W G cs t:=(h.2.2.2 _ (List.mem_of_getElem? hi)).2
theorem RfW.only (h : RfW w W B g L k ok bs) (hr : RefAt W' B g L k' ok') (ho : Only g W W') : RfW w W' B g L k' ok' bs :=
 ⟨hr,h.2.1.trans ho,h.2.2.1,fun b hb=>⟨(h.2.2.2 b hb).1,(h.2.2.2 b hb).2.only ho (by have:=(h.2.2.2 b hb).1;have:=h.2.2.1;omega)⟩⟩
theorem RfW.below (h : RfW w W B g L k ok bs) (hb : Below W.heap.size W W') : RfW w W' B g L k ok bs :=
 h.only (h.1.below hb) ⟨hb.os,hb.tape,hb.output,hb.size,fun _ hb' _=>hb.block _ hb'⟩
theorem RfW.more (h : RfW w W B g L k ok bs) (cs : Array Value) (t : TypeId) : RfW w (W.alloc (.cells cs t)) B g L k ok ((W.heap.size,cs,t) :: bs):=by
 have h':=h.below ((Below.refl W.heap.size W).alloc (Nat.le_refl _) (.cells cs t))
 refine ⟨h'.1,h'.2.1,h'.2.2.1,fun b hb=>?_⟩
 rcases List.mem_cons.1 hb with rfl | hb
 ·exact ⟨h.2.1.size,BoxC.new W cs t⟩
 ·exact h'.2.2.2 b hb
theorem RfW.out (h : RfW w W B g L k ok bs) (hG : w.heap.size≤G) (u : Value) : RfW w (W.setCell ⟨G,i,none⟩ u) B g L k ok []:=by
 have hg:=h.2.2.1
 have hb : ∀ b,b < w.heap.size→(W.setCell ⟨G,i,none⟩ u).heap[b]? = W.heap[b]?:=fun b hb=>Below.heap_setCell _ _ _ _ (by show b≠G;omega)
 exact ⟨h.1.keep fun b hb'=>hb b (by omega),⟨h.2.1.os,h.2.1.tape,h.2.1.output,by have:=h.2.1.size;simpa [World.setCell] using this,fun b hb' hne=>(hb b hb').trans (h.2.1.block b hb' hne)⟩,hg,fun b hb=>by cases hb⟩
end
theorem RfW.fails {w W : World} {B g : Nat} {L : List UInt8} {k : Nat} {ok : Bool} {bs : List (Nat×Array Value×TypeId)} (h : RfW w W B g L k ok bs) : RfW w (W.setCell ⟨g,2,none⟩ (.bool true)) B g L k false bs:=h.only h.1.fails (only_set W g 2 _)
end Go.Proofs.YtcfmifongbapkaaGreatDoor
