/- Contract of the document's Read. Conditions: the bytes lie in memory, a million at most. -/
import Derived.Test.YtcfmifongbapkaaGreatDoorRW
import Derived.Test.YtcfmifongbapkaaGreatDoorRZA
import Derived.Test.YtcfmifongbapkaaGreatDoorRZB
import Derived.Test.YtcfmifongbapkaaGreatDoorCommandRefTake
import Derived.Test.YtcfmifongbapkaaGreatDoorRL
namespace Go.Proofs.YtcfmifongbapkaaGreatDoor
set_option maxRecDepth 100000
set_option maxHeartbeats 16000000
open Go.RowKit
open Go.Lib (hid)
set_option linter.unusedVariables false
set_option linter.unusedSimpArgs false
/-- What bytes are read as: the record, whose lists and data lie in blocks of S; or none. -/
def ReadD (w : World) (S : Nat→Prop) (l : List UInt8) (e : Ending) (w' : World) : Prop :=
 (∃ x L,e = .returned (.tuple #[.agg (rcV x),.int .i64 0])∧Below w.heap.size w w'∧RcAt w' x L∧RcF x∧InR S x∧readR l = some (rcT x L))∨(e = .returned (.tuple #[.agg (rcV zeroR),.int .i64 2])∧Below w.heap.size w w'∧readR l = none)
section
variable {l : List UInt8} {x y : Rc} {st st3 st4 : St}
theorem read_res (h : Res rcP (some l) x st) (hy : readR l = some y) : x = y:=by
 obtain ⟨hp,hf⟩:=readR_inv hy
 rcases h with ⟨l',r,e,h1,e2⟩ | ⟨h1,_⟩
 ·injection e with e;subst e
  rw [hp] at h1
  injection h1 with h1;injection h1 with h1 _
  exact h1.symm
 ·rw [h1 l rfl] at hp;cases hp
theorem read_odd (h : Res rcP (some l) x st) (hk : x.k≠1∧x.k≠2∧x.k≠3∧x.k≠4) (hy : readR l = some y) : False:=by
 have e:=read_res h hy
 subst e
 have:=(formR_iff _).1 (readR_inv hy).2
 unfold FormR at this
 omega
/-- Data as the document takes them: all behind their length. -/
theorem doc_data {z : Nat} (h : Res (numP 4) st3 z st4) : ∃ st5,Res dataR st3 (st4.getD []) st5:=by
 rcases h with ⟨l',r,rfl,h1,rfl⟩ | ⟨h1,rfl⟩
 ·unfold numP at h1
  split at h1
  ·rename_i hl
   injection h1 with h1;injection h1 with _ h1
   subst h1
   by_cases hn : numB (l'.take 4) = l'.length - 4
   ·exact ⟨some [],.yes (by unfold dataR;rw [if_pos ⟨hl,hn⟩];rfl)⟩
   ·exact ⟨none,.no _ fun l e=>by injection e with e;subst e;unfold dataR;rw [if_neg fun h=>hn h.2]⟩
  ·cases h1
 ·refine ⟨none,.no _ fun l e=>?_⟩
  have h2:=h1 l e
  unfold numP at h2
  split at h2
  ·cases h2
  ·rename_i hl
   unfold dataR;rw [if_neg fun h=>hl h.1]
theorem num_yes {k z : Nat} {l r : List UInt8} (h : numP k l = some (z,r)) : k≤l.length∧r = l.drop k∧z = numB (l.take k):=by
 unfold numP at h
 split at h
 ·rename_i hl
  injection h with h;injection h with h1 h2
  exact ⟨hl,h2.symm,h1.symm⟩
 ·cases h
theorem num_no {k : Nat} {l : List UInt8} (h : numP k l = none) : l.length < k:=by
 unfold numP at h
 split at h
 ·cases h
 ·omega
/-- The kind that bytes begin with. -/
def kindB (l : List UInt8) : Nat:=if 1≤l.length then numB (l.take 1) else 0
theorem kind_of {k : Nat} (h : Res (numP 1) (some l) k st) (hz : st = none→k = 0) : k = kindB l:=by
 unfold kindB
 rcases h with ⟨l',r,e,h1,_⟩ | ⟨h1,e⟩
 ·injection e with e;subst e
  obtain ⟨a1,_,a3⟩:=num_yes h1
  rw [if_pos a1];exact a3
 ·have:=num_no (h1 l rfl)
  rw [if_neg (by omega)];exact hz e
theorem len_nine {k z z4 : Nat} {s1 s2 s3 : St} (h1 : Res (numP 1) (some l) k s1) (h2 : Res (numP 4) s1 z s2) (h3 : Res (numP 4) s2 z4 s3) : (s3 = none→l.length < 9)∧∀ r,s3 = some r→9≤l.length∧r = l.drop 9:=by
 rcases h1 with ⟨l1,r1,e1,p1,rfl⟩ | ⟨p1,rfl⟩
 ·injection e1 with e1;subst e1
  obtain ⟨a1,rfl,_⟩:=num_yes p1
  rcases h2 with ⟨l2,r2,e2,p2,rfl⟩ | ⟨p2,rfl⟩
  ·injection e2 with e2;subst e2
   obtain ⟨a2,rfl,_⟩:=num_yes p2
   rcases h3 with ⟨l3,r3,e3,p3,rfl⟩ | ⟨p3,rfl⟩
   ·injection e3 with e3;subst e3
    obtain ⟨a3,rfl,_⟩:=num_yes p3
    rw [List.drop_drop,List.length_drop] at a3
    rw [List.drop_drop,List.drop_drop]
    refine ⟨(fun h=>by cases h),fun r h=>?_⟩
    injection h with h
    exact ⟨by omega,h.symm⟩
   ·have a3:=num_no (p3 _ rfl)
    rw [List.drop_drop,List.length_drop] at a3
    exact ⟨fun _=>by omega,fun r h=>by cases h⟩
  ·have a2:=num_no (p2 _ rfl)
   rw [List.length_drop] at a2
   rcases h3 with ⟨l3,r3,e3,_,_⟩ | ⟨_,rfl⟩
   ·cases e3
   ·exact ⟨fun _=>by omega,fun r h=>by cases h⟩
 ·have a1:=num_no (p1 l rfl)
  rcases h2 with ⟨l2,r2,e2,_,_⟩ | ⟨_,rfl⟩
  ·cases e2
  ·rcases h3 with ⟨l3,r3,e3,_,_⟩ | ⟨_,rfl⟩
   ·cases e3
   ·exact ⟨fun _=>by omega,fun r h=>by cases h⟩
theorem FS.at_ {B g : Nat} {L r : List UInt8} {W : World} (h : FS B g L (some r) W) : ∃ k,W.cell? ⟨g,1,none⟩ = some (.int .i64 ((k : Nat) : Int))∧r = L.drop k∧k≤L.length:=by
 obtain ⟨k,⟨a,n,c,hh,h1,h2,hl,h3,h4⟩,hk⟩:=h
 exact ⟨k,(ref_cells hh).2.1,hk r rfl,by rw [hl.len];exact h3⟩
end
theorem rRead1 (S : Nat→Prop) (a : Option Addr) (m c : Nat) (l : List UInt8) (w : World) (hl : BAt w w.heap.size a m l) (hN : ∀ p,a = some p→S p.block) (hC : ∀ b,w.heap.size≤b→S b) (hmc : m≤c) (hcm : c≤maxLen) (hm : m≤1000000) (hk0 : kindB l = 1) :
  Calls Tryz.prog 14 #[.slice a m c] w (ReadD w S l):=by
 have HK0:=hid hk0
 clear hk0
 have H0:=hid ((Boxs.start w).more zeroRV 47)
 have s0 : (w.alloc (.cells zeroRV 47)).heap.size = w.heap.size + 1:=by simp
 have hbA : Below (w.alloc (.cells zeroRV 47)).heap.size (w.alloc (.cells zeroRV 47)) ((w.alloc (.cells zeroRV 47)).alloc (.cells #[.slice a m c,.int .i64 0,.bool false] 99)):=(Below.refl _ _).alloc (Nat.le_refl _) _
 have BX0 : Hid (BoxC ((w.alloc (.cells zeroRV 47)).alloc (.cells #[.slice a m c,.int .i64 0,.bool false] 99)) w.heap.size (rcV zeroR) 47):=(H0.out.get 0 _ _ _ rfl).below hbA
 have B1 : Hid (Below w.heap.size w ((w.alloc (.cells zeroRV 47)).alloc (.cells #[.slice a m c,.int .i64 0,.bool false] 99))):=(H0.out.below hbA).bel
 have F0 : Hid (FS w.heap.size (w.heap.size + 1) l (some l) ((w.alloc (.cells zeroRV 47)).alloc (.cells #[.slice a m c,.int .i64 0,.bool false] 99))):=⟨0,⟨a,m,c,by rw [← s0];exact heap_alloc_new _ _,hmc,hcm,(hl.below H0.out.bel (Nat.le_refl _)).alloc H0.out.bel.size _,Nat.zero_le _,by omega⟩,fun l' e=>by injection e with e;rw [← e];rfl⟩
 have HL : Hid (∀ W,Below w.heap.size w W→BAt W w.heap.size a m l):=fun W hW=>hl.below hW (Nat.le_refl _)
 have HNC : Hid (∀ p,a = some p→S p.block):=hN
 have HC:=hid hC
 have hll:=hl.len
 have hcm':=hcm
 unfold maxLen at hcm'
 clear hl hN hC H0 hbA s0
 go_enter Tryz.func14,Tryz.ntmps14
 go_upto_region 2 with (fail)
 generalize (w.alloc (.cells zeroRV 47)).alloc (.cells #[.slice a m c,.int .i64 0,.bool false] 99) = W1 at *
 obtain ⟨g,hg⟩ : ∃ g,g = w.heap.size + 1:=⟨_,rfl⟩
 rw [← hg] at F0 ⊢
 have hgw : w.heap.size < g:=by omega
 have HGW:=hid hgw
 clear hg
 have hg1 : g < W1.heap.size:=F0.out.lt
 have HG1:=hid hg1
 have H1 : Hid (RdO (FS w.heap.size g l (some l)) g W1 W1 [] []):=RdO.start F0.out F0.out.lt
 have c1 : ∀ s W,FS w.heap.size g l s W→Calls Tryz.prog 45 #[.pointer (some ⟨g,0,none⟩),.int .i64 1] W (Took1 (FS w.heap.size g l) g numV (numP 1) 0 s W):=fun s W h=>refTakeS_any w.heap.size g l 1 s W h (by omega)
 have c4 : ∀ s W,FS w.heap.size g l s W→Calls Tryz.prog 45 #[.pointer (some ⟨g,0,none⟩),.int .i64 4] W (Took1 (FS w.heap.size g l) g numV (numP 4) 0 s W):=fun s W h=>refTakeS_any w.heap.size g l 4 s W h (by omega)
 clear F0 hg1 hgw
 go_upto_region 3 with (first | (go_at_call 45;((with_reducible refine (c1 _ _ H1.out.rdr).mono ?_);rintro e w2 ⟨k,st1,rfl,hr1,ho1,hR1,hz1⟩;have H2:=hid (H1.out.only hr1 ho1);have R1:=hid hR1;have hk : k < 256:=num_lt hR1 hz1 (by decide);have ek:=wrap_i64 k (by omega);have HZ : Hid (BoxC (w2.alloc (.cells zeroRV 47)) w2.heap.size (rcV zeroR) 47):=BoxC.new w2 zeroRV 47;have KD:=hid (kind_of hR1 hz1);clear hr1 ho1 hR1 hz1)) | (refine wpList_store_r rfl _ _ rfl w2.heap.size ⟨k,0,0,0,zeroM,none,0,0⟩ rfl rfl zeroR HZ.out ?_))
 have H3 : Hid (RdO (FS w.heap.size g l st1) g W1 ((w2.alloc (.cells zeroRV 47)).setRow w2.heap.size (rcV ⟨k,0,0,0,zeroM,none,0,0⟩)) [(w2.heap.size,rcV ⟨k,0,0,0,zeroM,none,0,0⟩,47)] []):=(H2.out.more zeroRV 47).fillK (fun _ h=>by cases h) _
 clear H1 H2 HZ c1 ek
 generalize (w2.alloc (.cells zeroRV 47)).setRow w2.heap.size (rcV ⟨k,0,0,0,zeroM,none,0,0⟩) = W3 at *
 generalize w2.heap.size = G at *
 have hGge : W1.heap.size≤G:=H3.out.ge 0 _ _ _ rfl
 have HGG:=hid hGge
 clear hGge
 have hl1 : ∀ x ∈ ([] : List (Nat×Array Value×TypeId)),x.1≠G:=fun _ h=>by cases h
 have x0 : W3.cell? ⟨G,0,none⟩ = some (.int .i64 ((k : Nat) : Int)):=(H3.out.get 0 _ _ _ rfl).cell 0 _ rfl
 have NEw : ∀ n : Nat,Hid (W1.heap.size≤n→n≠w.heap.size):=fun n h=>by have:=HG1.out;have:=HGW.out;omega
 have h1 : k = 1:=KD.out.trans HK0.out
 clear KD HK0
 ·have hkk:=hid h1
  have q1 : (((k : Nat) : Int) == 1) = true:=by simp;omega
  have q2 : (((k : Nat) : Int) == 2) = false:=by simp;omega
  have q3 : (((k : Nat) : Int) == 3) = false:=by simp;omega
  have q4 : (((k : Nat) : Int) == 4) = false:=by simp;omega
  have i2 : ¬ (2 : Int)≤((k : Nat) : Int):=by omega
  have i2' : decide ((2 : Int)≤((k : Nat) : Int)) = false:=decide_eq_false i2
  clear h1
  go_upto_region 13 with (go_at_call 46;((with_reducible refine (rbTakeS_any w.heap.size g l _ _ H3.out.rdr).mono ?_);rintro e v4 ⟨r,n,tB,rfl,hr,ho,hR,hlt1⟩;have H4:=hid (H3.out.only hr ho);have RB:=hid hR;have BR:=hid hlt1;have y0 : v4.cell? ⟨G,0,none⟩ = some (.int .i64 ((k : Nat) : Int)):=(H4.out.get 0 _ _ _ rfl).cell 0 _ rfl;have y1:=(H4.out.get 0 _ _ _ rfl).cell 1 _ rfl;have f1:=(H4.out.get 0 _ _ _ rfl).frozen 1;have y2:=(H4.out.get 0 _ _ _ rfl).cell 2 _ rfl;have f2:=(H4.out.get 0 _ _ _ rfl).frozen 2;clear hr ho hR hlt1))
  have H5 : Hid (RdO (FS w.heap.size g l tB) g W1 ((v4.setCell ⟨G,1,none⟩ (.int .u32 ((r : Nat) : Int))).setCell ⟨G,2,none⟩ (.int .i64 n)) [(G,rcV ⟨k,r,n,0,zeroM,none,0,0⟩,47)] []):=((H4.out.set hl1 1 (.int .u32 ((r : Nat) : Int))).set hl1 2 (.int .i64 n))
  clear H3 H4 y0 y1 f1 y2 f2 x0 
  generalize ((v4.setCell ⟨G,1,none⟩ (.int .u32 ((r : Nat) : Int))).setCell ⟨G,2,none⟩ (.int .i64 n)) = V5 at *
  have x0 : V5.cell? ⟨G,0,none⟩ = some (.int .i64 ((k : Nat) : Int)):=(H5.out.get 0 _ _ _ rfl).cell 0 _ rfl
  have XA : Hid (RcAt V5 ⟨k,r,n,0,zeroM,none,0,0⟩ noLR):=⟨CmAt.zero,BAt.nil,BR.out⟩
  have XF : Hid (RcF ⟨k,r,n,0,zeroM,none,0,0⟩):=⟨Nat.zero_le _,Nat.zero_le _,Nat.zero_le _⟩
  have XN : Hid (InR S ⟨k,r,n,0,zeroM,none,0,0⟩):=⟨.inl rfl,.inl rfl,.inl rfl⟩
  have XI : Hid (InR (fun b=>b≠w.heap.size) ⟨k,r,n,0,zeroM,none,0,0⟩):=⟨.inl rfl,.inl rfl,.inl rfl⟩
  have MM : Hid (∀ y,readR l = some y→rcT ⟨k,r,n,0,zeroM,none,0,0⟩ noLR = y):=fun y hy=>read_res (rc_one R1.out hkk.out RB.out) hy
  have ldX:=(H5.out.get 0 _ _ _ rfl).ldR (x:=⟨k,r,n,0,zeroM,none,0,0⟩)
  have HX1 : Hid (BoxC V5 G (rcV ⟨k,r,n,0,zeroM,none,0,0⟩) 47):=H5.out.get 0 _ _ _ rfl
  have BXV : Hid (BoxC V5 w.heap.size (rcV zeroR) 47):=BX0.out.only H5.out.onl (by have:=HGW.out;omega)
  have BV : Hid (Below w.heap.size w V5):=Only.below B1.out H5.out.onl (by have:=HGW.out;omega) B1.out.size
  clear H5 BX0 B1
  cases hf : formR (rcT ⟨k,r,n,0,zeroM,none,0,0⟩ noLR)
  ·have cW:=rWrite_no ⟨k,r,n,0,zeroM,none,0,0⟩ noLR V5 XA.out XF.out hf
   have HF:=hid hf
   clear hf
   have NO : Hid (readR l = none):=by cases hr : readR l with | none=>rfl | some y=>exact absurd (readR_inv hr).2 (by rw [← MM.out y hr,HF.out];decide)
   go_wp2_with (first | (go_at_call 11;((with_reducible refine cW.mono ?_);rintro e v8 ⟨rfl,hb8⟩;have B8:=hid (BV.out.trans (hb8.mono BV.out.size));have HZ:=BXV.out.below hb8;clear ldX)) | (refine wpList_store_r rfl _ _ rfl w.heap.size zeroR rfl rfl zeroR HZ ?_))
   have FF:=HZ.fill (rcV zeroR)
   have z0:=FF.cell 0 _ rfl;have z1:=FF.cell 1 _ rfl;have z2:=FF.cell 2 _ rfl;have z3:=FF.cell 3 _ rfl;have z4:=FF.cell 4 _ rfl;have z5:=FF.cell 5 _ rfl;have z6:=FF.cell 6 _ rfl;have z7:=FF.cell 7 _ rfl;have z8:=FF.cell 8 _ rfl;have z9:=FF.cell 9 _ rfl;have z10:=FF.cell 10 _ rfl;have z11:=FF.cell 11 _ rfl;have z12:=FF.cell 12 _ rfl;have z13:=FF.cell 13 _ rfl;have z14:=FF.cell 14 _ rfl
   exact bodyPost_ret (v:=.tuple #[.agg (rcV zeroR),.int .i64 2]) (by simp [results,Tryz.results14,go_sem,z0,z1,z2,z3,z4,z5,z6,z7,z8,z9,z10,z11,z12,z13,z14]) rfl (.inr ⟨rfl,Only.below B8.out (only_fill _ _ _) (Nat.le_refl _) B8.out.size,NO.out⟩)
  ·have cW:=rWrite_yes ⟨k,r,n,0,zeroM,none,0,0⟩ noLR V5 XA.out XF.out hf
   have HF:=hid hf
   clear hf
   by_cases hq : l = rcB (rcT ⟨k,r,n,0,zeroM,none,0,0⟩ noLR)
   ·have YES : Hid (readR l = some (rcT ⟨k,r,n,0,zeroM,none,0,0⟩ noLR)):=(by rw [hq];exact read_back _ ((formR_iff _).1 HF.out) XA.out.ok)
    have hq' : decide (l = rcB (rcT ⟨k,r,n,0,zeroM,none,0,0⟩ noLR)) = true:=decide_eq_true hq
    clear hq
    generalize rcB (rcT ⟨k,r,n,0,zeroM,none,0,0⟩ noLR) = BB at *
    go_wp2_with (first | (go_at_call 11;((with_reducible refine cW.mono ?_);rintro e v8 ⟨a8,n8,c8,rfl,ho8,hb8⟩;have B8:=hid (BV.out.trans (hb8.mono BV.out.size));have Y8:=hid (BXV.out.below hb8);have G8:=hid (HX1.out.below hb8);have hn8 : n8≤maxLen:=(by obtain ⟨q1,q2⟩:=own_caps ho8;exact Nat.le_trans q1 q2);have cS:=same_any a a8 m n8 c c8 _ _ _ _ v8 (HL.out _ B8.out) (BAt.of_own ho8) (by unfold maxLen;omega) hn8;rw [hq'] at cS;clear ldX ho8)) | (go_at_call 19;((with_reducible refine cS.mono ?_);rintro e v9 ⟨rfl,q9,rfl⟩;have B9:=hid (below_drewN q9 B8.out);have HZ:=Y8.out.drewN q9;have ldX:=(G8.out.drewN q9).ldR (x:=⟨k,r,n,0,zeroM,none,0,0⟩);have A9:=hid ((XA.out.later hb8).later (below_drewN q9 (Below.refl _ _))))) | (refine wpList_store_r rfl _ _ rfl w.heap.size ⟨k,r,n,0,zeroM,none,0,0⟩ rfl rfl zeroR HZ ?_))
    have FF:=HZ.fill (rcV ⟨k,r,n,0,zeroM,none,0,0⟩)
    have z0:=FF.cell 0 _ rfl;have z1:=FF.cell 1 _ rfl;have z2:=FF.cell 2 _ rfl;have z3:=FF.cell 3 _ rfl;have z4:=FF.cell 4 _ rfl;have z5:=FF.cell 5 _ rfl;have z6:=FF.cell 6 _ rfl;have z7:=FF.cell 7 _ rfl;have z8:=FF.cell 8 _ rfl;have z9:=FF.cell 9 _ rfl;have z10:=FF.cell 10 _ rfl;have z11:=FF.cell 11 _ rfl;have z12:=FF.cell 12 _ rfl;have z13:=FF.cell 13 _ rfl;have z14:=FF.cell 14 _ rfl
    exact bodyPost_ret (v:=.tuple #[.agg (rcV ⟨k,r,n,0,zeroM,none,0,0⟩),.int .i64 0]) (by simp [results,Tryz.results14,go_sem,z0,z1,z2,z3,z4,z5,z6,z7,z8,z9,z10,z11,z12,z13,z14]) rfl (.inl ⟨⟨k,r,n,0,zeroM,none,0,0⟩,noLR,rfl,Only.below B9.out (only_fill _ _ _) (Nat.le_refl _) B9.out.size,A9.out.keepS XI.out (by rw [setRow_size];exact Nat.le_refl _) (fun b hb _=>setRow_other _ _ _ _ hb),XF.out,XN.out,YES.out⟩)
   ·have hq' : decide (l = rcB (rcT ⟨k,r,n,0,zeroM,none,0,0⟩ noLR)) = false:=decide_eq_false hq
    have NQ:=hid hq
    clear hq
    have MQ : Hid (∀ y,readR l = some y→False):=fun y hr=>NQ.out (by rw [MM.out y hr];exact (read_snd hr).1)
    clear NQ MM
    generalize rcB (rcT ⟨k,r,n,0,zeroM,none,0,0⟩ noLR) = BB at *
    have NO : Hid (readR l = none):=by cases hr : readR l with | none=>rfl | some y=>exact absurd hr (fun h=>MQ.out y h)
    go_wp2_with (first | (go_at_call 11;((with_reducible refine cW.mono ?_);rintro e v8 ⟨a8,n8,c8,rfl,ho8,hb8⟩;have B8:=hid (BV.out.trans (hb8.mono BV.out.size));have Y8:=hid (BXV.out.below hb8);have G8:=hid (HX1.out.below hb8);have hn8 : n8≤maxLen:=(by obtain ⟨q1,q2⟩:=own_caps ho8;exact Nat.le_trans q1 q2);have cS:=same_any a a8 m n8 c c8 _ _ _ _ v8 (HL.out _ B8.out) (BAt.of_own ho8) (by unfold maxLen;omega) hn8;rw [hq'] at cS;clear ldX ho8)) | (go_at_call 19;((with_reducible refine cS.mono ?_);rintro e v9 ⟨rfl,q9,rfl⟩;have B9:=hid (below_drewN q9 B8.out);have HZ:=Y8.out.drewN q9;have ldX:=(G8.out.drewN q9).ldR (x:=⟨k,r,n,0,zeroM,none,0,0⟩);have A9:=hid ((XA.out.later hb8).later (below_drewN q9 (Below.refl _ _))))) | (refine wpList_store_r rfl _ _ rfl w.heap.size zeroR rfl rfl zeroR HZ ?_))
    have FF:=HZ.fill (rcV zeroR)
    have z0:=FF.cell 0 _ rfl;have z1:=FF.cell 1 _ rfl;have z2:=FF.cell 2 _ rfl;have z3:=FF.cell 3 _ rfl;have z4:=FF.cell 4 _ rfl;have z5:=FF.cell 5 _ rfl;have z6:=FF.cell 6 _ rfl;have z7:=FF.cell 7 _ rfl;have z8:=FF.cell 8 _ rfl;have z9:=FF.cell 9 _ rfl;have z10:=FF.cell 10 _ rfl;have z11:=FF.cell 11 _ rfl;have z12:=FF.cell 12 _ rfl;have z13:=FF.cell 13 _ rfl;have z14:=FF.cell 14 _ rfl
    exact bodyPost_ret (v:=.tuple #[.agg (rcV zeroR),.int .i64 2]) (by simp [results,Tryz.results14,go_sem,z0,z1,z2,z3,z4,z5,z6,z7,z8,z9,z10,z11,z12,z13,z14]) rfl (.inr ⟨rfl,Only.below B9.out (only_fill _ _ _) (Nat.le_refl _) B9.out.size,NO.out⟩)
theorem rRead2 (S : Nat→Prop) (a : Option Addr) (m c : Nat) (l : List UInt8) (w : World) (hl : BAt w w.heap.size a m l) (hN : ∀ p,a = some p→S p.block) (hC : ∀ b,w.heap.size≤b→S b) (hmc : m≤c) (hcm : c≤maxLen) (hm : m≤1000000) (hk0 : kindB l = 2) :
  Calls Tryz.prog 14 #[.slice a m c] w (ReadD w S l):=by
 have HK0:=hid hk0
 clear hk0
 have H0:=hid ((Boxs.start w).more zeroRV 47)
 have s0 : (w.alloc (.cells zeroRV 47)).heap.size = w.heap.size + 1:=by simp
 have hbA : Below (w.alloc (.cells zeroRV 47)).heap.size (w.alloc (.cells zeroRV 47)) ((w.alloc (.cells zeroRV 47)).alloc (.cells #[.slice a m c,.int .i64 0,.bool false] 99)):=(Below.refl _ _).alloc (Nat.le_refl _) _
 have BX0 : Hid (BoxC ((w.alloc (.cells zeroRV 47)).alloc (.cells #[.slice a m c,.int .i64 0,.bool false] 99)) w.heap.size (rcV zeroR) 47):=(H0.out.get 0 _ _ _ rfl).below hbA
 have B1 : Hid (Below w.heap.size w ((w.alloc (.cells zeroRV 47)).alloc (.cells #[.slice a m c,.int .i64 0,.bool false] 99))):=(H0.out.below hbA).bel
 have F0 : Hid (FS w.heap.size (w.heap.size + 1) l (some l) ((w.alloc (.cells zeroRV 47)).alloc (.cells #[.slice a m c,.int .i64 0,.bool false] 99))):=⟨0,⟨a,m,c,by rw [← s0];exact heap_alloc_new _ _,hmc,hcm,(hl.below H0.out.bel (Nat.le_refl _)).alloc H0.out.bel.size _,Nat.zero_le _,by omega⟩,fun l' e=>by injection e with e;rw [← e];rfl⟩
 have HL : Hid (∀ W,Below w.heap.size w W→BAt W w.heap.size a m l):=fun W hW=>hl.below hW (Nat.le_refl _)
 have HNC : Hid (∀ p,a = some p→S p.block):=hN
 have HC:=hid hC
 have hll:=hl.len
 have hcm':=hcm
 unfold maxLen at hcm'
 clear hl hN hC H0 hbA s0
 go_enter Tryz.func14,Tryz.ntmps14
 go_upto_region 2 with (fail)
 generalize (w.alloc (.cells zeroRV 47)).alloc (.cells #[.slice a m c,.int .i64 0,.bool false] 99) = W1 at *
 obtain ⟨g,hg⟩ : ∃ g,g = w.heap.size + 1:=⟨_,rfl⟩
 rw [← hg] at F0 ⊢
 have hgw : w.heap.size < g:=by omega
 have HGW:=hid hgw
 clear hg
 have hg1 : g < W1.heap.size:=F0.out.lt
 have HG1:=hid hg1
 have H1 : Hid (RdO (FS w.heap.size g l (some l)) g W1 W1 [] []):=RdO.start F0.out F0.out.lt
 have c1 : ∀ s W,FS w.heap.size g l s W→Calls Tryz.prog 45 #[.pointer (some ⟨g,0,none⟩),.int .i64 1] W (Took1 (FS w.heap.size g l) g numV (numP 1) 0 s W):=fun s W h=>refTakeS_any w.heap.size g l 1 s W h (by omega)
 have c4 : ∀ s W,FS w.heap.size g l s W→Calls Tryz.prog 45 #[.pointer (some ⟨g,0,none⟩),.int .i64 4] W (Took1 (FS w.heap.size g l) g numV (numP 4) 0 s W):=fun s W h=>refTakeS_any w.heap.size g l 4 s W h (by omega)
 clear F0 hg1 hgw
 go_upto_region 3 with (first | (go_at_call 45;((with_reducible refine (c1 _ _ H1.out.rdr).mono ?_);rintro e w2 ⟨k,st1,rfl,hr1,ho1,hR1,hz1⟩;have H2:=hid (H1.out.only hr1 ho1);have R1:=hid hR1;have hk : k < 256:=num_lt hR1 hz1 (by decide);have ek:=wrap_i64 k (by omega);have HZ : Hid (BoxC (w2.alloc (.cells zeroRV 47)) w2.heap.size (rcV zeroR) 47):=BoxC.new w2 zeroRV 47;have KD:=hid (kind_of hR1 hz1);clear hr1 ho1 hR1 hz1)) | (refine wpList_store_r rfl _ _ rfl w2.heap.size ⟨k,0,0,0,zeroM,none,0,0⟩ rfl rfl zeroR HZ.out ?_))
 have H3 : Hid (RdO (FS w.heap.size g l st1) g W1 ((w2.alloc (.cells zeroRV 47)).setRow w2.heap.size (rcV ⟨k,0,0,0,zeroM,none,0,0⟩)) [(w2.heap.size,rcV ⟨k,0,0,0,zeroM,none,0,0⟩,47)] []):=(H2.out.more zeroRV 47).fillK (fun _ h=>by cases h) _
 clear H1 H2 HZ c1 ek
 generalize (w2.alloc (.cells zeroRV 47)).setRow w2.heap.size (rcV ⟨k,0,0,0,zeroM,none,0,0⟩) = W3 at *
 generalize w2.heap.size = G at *
 have hGge : W1.heap.size≤G:=H3.out.ge 0 _ _ _ rfl
 have HGG:=hid hGge
 clear hGge
 have hl1 : ∀ x ∈ ([] : List (Nat×Array Value×TypeId)),x.1≠G:=fun _ h=>by cases h
 have x0 : W3.cell? ⟨G,0,none⟩ = some (.int .i64 ((k : Nat) : Int)):=(H3.out.get 0 _ _ _ rfl).cell 0 _ rfl
 have NEw : ∀ n : Nat,Hid (W1.heap.size≤n→n≠w.heap.size):=fun n h=>by have:=HG1.out;have:=HGW.out;omega
 have h1 : k = 2:=KD.out.trans HK0.out
 clear KD HK0
 ·have hkk:=hid h1
  have q1 : (((k : Nat) : Int) == 1) = false:=by simp;omega
  have q2 : (((k : Nat) : Int) == 2) = true:=by simp;omega
  have q3 : (((k : Nat) : Int) == 3) = false:=by simp;omega
  have q4 : (((k : Nat) : Int) == 4) = false:=by simp;omega
  have i2 : (2 : Int)≤((k : Nat) : Int):=by omega
  have i2' : decide ((2 : Int)≤((k : Nat) : Int)) = true:=decide_eq_true i2
  clear h1
  go_upto_region 6 with (go_at_call 46;((with_reducible refine (rbTakeS_any w.heap.size g l _ _ H3.out.rdr).mono ?_);rintro e v4 ⟨r,n,tB,rfl,hr,ho,hR,hlt1⟩;have H4:=hid (H3.out.only hr ho);have RB:=hid hR;have BR:=hid hlt1;have y0 : v4.cell? ⟨G,0,none⟩ = some (.int .i64 ((k : Nat) : Int)):=(H4.out.get 0 _ _ _ rfl).cell 0 _ rfl;have y1:=(H4.out.get 0 _ _ _ rfl).cell 1 _ rfl;have f1:=(H4.out.get 0 _ _ _ rfl).frozen 1;have y2:=(H4.out.get 0 _ _ _ rfl).cell 2 _ rfl;have f2:=(H4.out.get 0 _ _ _ rfl).frozen 2;clear hr ho hR hlt1))
  have H5 : Hid (RdO (FS w.heap.size g l tB) g W1 ((v4.setCell ⟨G,1,none⟩ (.int .u32 ((r : Nat) : Int))).setCell ⟨G,2,none⟩ (.int .i64 n)) [(G,rcV ⟨k,r,n,0,zeroM,none,0,0⟩,47)] []):=((H4.out.set hl1 1 (.int .u32 ((r : Nat) : Int))).set hl1 2 (.int .i64 n))
  clear H3 H4 y0 y1 f1 y2 f2 x0 
  generalize ((v4.setCell ⟨G,1,none⟩ (.int .u32 ((r : Nat) : Int))).setCell ⟨G,2,none⟩ (.int .i64 n)) = V5 at *
  have x0 : V5.cell? ⟨G,0,none⟩ = some (.int .i64 ((k : Nat) : Int)):=(H5.out.get 0 _ _ _ rfl).cell 0 _ rfl
  go_upto_region 8 with (go_at_call 45;((with_reducible refine (c4 _ _ H5.out.rdr).mono ?_);rintro e v6 ⟨z,tS,rfl,hr,ho,hR,hz⟩;have H6:=hid (H5.out.only hr ho);have RS:=hid hR;have hz4 : z < 4294967296:=num_lt hR hz (by decide);have ez:=wrap_i64 z (by omega);have y0 : v6.cell? ⟨G,0,none⟩ = some (.int .i64 ((k : Nat) : Int)):=(H6.out.get 0 _ _ _ rfl).cell 0 _ rfl;have y3:=(H6.out.get 0 _ _ _ rfl).cell 3 _ rfl;have f3:=(H6.out.get 0 _ _ _ rfl).frozen 3;clear hr ho hR hz))
  have H7 : Hid (RdO (FS w.heap.size g l tS) g W1 (v6.setCell ⟨G,3,none⟩ (.int .i64 ((z : Nat) : Int))) [(G,rcV ⟨k,r,n,z,zeroM,none,0,0⟩,47)] []):=(H6.out.set hl1 3 (.int .i64 ((z : Nat) : Int)))
  clear H5 H6 y0 y3 f3 ez x0 
  generalize (v6.setCell ⟨G,3,none⟩ (.int .i64 ((z : Nat) : Int))) = V7 at *
  have x0 : V7.cell? ⟨G,0,none⟩ = some (.int .i64 ((k : Nat) : Int)):=(H7.out.get 0 _ _ _ rfl).cell 0 _ rfl
  go_upto_region 13 with (go_at_call 47;((with_reducible refine (dTake_any w.heap.size g l _ _ H7.out.rdr).mono ?_);rintro e v8 ⟨cc,rs,ws,tC,rfl,hr,ho,hX,⟨hn1,na,nb⟩,hR,hz0⟩;have H8:=hid (H7.out.only hr ho);have RC:=hid hR;have CX:=hid hX;have CN : Hid (NewP V7.heap.size cc.a∧NewP V7.heap.size cc.b):=⟨na,nb⟩;have y0 : v8.cell? ⟨G,0,none⟩ = some (.int .i64 ((k : Nat) : Int)):=(H8.out.get 0 _ _ _ rfl).cell 0 _ rfl;have y4:=(H8.out.get 0 _ _ _ rfl).cell 4 _ rfl;have f4:=(H8.out.get 0 _ _ _ rfl).frozen 4;have y5:=(H8.out.get 0 _ _ _ rfl).cell 5 _ rfl;have f5:=(H8.out.get 0 _ _ _ rfl).frozen 5;have y6:=(H8.out.get 0 _ _ _ rfl).cell 6 _ rfl;have f6:=(H8.out.get 0 _ _ _ rfl).frozen 6;have y7:=(H8.out.get 0 _ _ _ rfl).cell 7 _ rfl;have f7:=(H8.out.get 0 _ _ _ rfl).frozen 7;have y8:=(H8.out.get 0 _ _ _ rfl).cell 8 _ rfl;have f8:=(H8.out.get 0 _ _ _ rfl).frozen 8;have y9:=(H8.out.get 0 _ _ _ rfl).cell 9 _ rfl;have f9:=(H8.out.get 0 _ _ _ rfl).frozen 9;have y10:=(H8.out.get 0 _ _ _ rfl).cell 10 _ rfl;have f10:=(H8.out.get 0 _ _ _ rfl).frozen 10;have y11:=(H8.out.get 0 _ _ _ rfl).cell 11 _ rfl;have f11:=(H8.out.get 0 _ _ _ rfl).frozen 11;have y12:=(H8.out.get 0 _ _ _ rfl).cell 12 _ rfl;have f12:=(H8.out.get 0 _ _ _ rfl).frozen 12;have y13:=(H8.out.get 0 _ _ _ rfl).cell 13 _ rfl;have f13:=(H8.out.get 0 _ _ _ rfl).frozen 13;clear hr ho hX na nb hR hz0))
  have HG2 : Hid (G < V7.heap.size):=(H7.out.get 0 _ _ _ rfl).lt
  have H9 : Hid (RdO (FS w.heap.size g l tC) g W1 ((((((((((v8.setCell ⟨G,4,none⟩ (.int .i64 cc.k)).setCell ⟨G,5,none⟩ (.int .i64 cc.s)).setCell ⟨G,6,none⟩ (.int .i64 cc.q)).setCell ⟨G,7,none⟩ (.slice cc.a cc.n cc.c)).setCell ⟨G,8,none⟩ (.slice cc.b cc.m cc.d)).setCell ⟨G,9,none⟩ (.int .i64 cc.i)).setCell ⟨G,10,none⟩ (.int .i64 cc.j)).setCell ⟨G,11,none⟩ (.int .i64 cc.g)).setCell ⟨G,12,none⟩ (.int .u64 ((cc.st : Nat) : Int))).setCell ⟨G,13,none⟩ (.bool cc.y)) [(G,rcV ⟨k,r,n,z,cc,none,0,0⟩,47)] []):=RdO.cmd15 H8.out hl1 (.int .i64 cc.k) (.int .i64 cc.s) (.int .i64 cc.q) (.slice cc.a cc.n cc.c) (.slice cc.b cc.m cc.d) (.int .i64 cc.i) (.int .i64 cc.j) (.int .i64 cc.g) (.int .u64 ((cc.st : Nat) : Int)) (.bool cc.y)
  have CY : Hid (CmAt ((((((((((v8.setCell ⟨G,4,none⟩ (.int .i64 cc.k)).setCell ⟨G,5,none⟩ (.int .i64 cc.s)).setCell ⟨G,6,none⟩ (.int .i64 cc.q)).setCell ⟨G,7,none⟩ (.slice cc.a cc.n cc.c)).setCell ⟨G,8,none⟩ (.slice cc.b cc.m cc.d)).setCell ⟨G,9,none⟩ (.int .i64 cc.i)).setCell ⟨G,10,none⟩ (.int .i64 cc.j)).setCell ⟨G,11,none⟩ (.int .i64 cc.g)).setCell ⟨G,12,none⟩ (.int .u64 ((cc.st : Nat) : Int))).setCell ⟨G,13,none⟩ (.bool cc.y)) cc rs ws):=CX.out.far (B:=V7.heap.size) CN.out.1 CN.out.2 (by simp [World.setCell]) (fun b hb _=>by rw [Below.heap_setCell _ _ _ _ (by show b≠G;have:=HG2.out;omega)];rw [Below.heap_setCell _ _ _ _ (by show b≠G;have:=HG2.out;omega)];rw [Below.heap_setCell _ _ _ _ (by show b≠G;have:=HG2.out;omega)];rw [Below.heap_setCell _ _ _ _ (by show b≠G;have:=HG2.out;omega)];rw [Below.heap_setCell _ _ _ _ (by show b≠G;have:=HG2.out;omega)];rw [Below.heap_setCell _ _ _ _ (by show b≠G;have:=HG2.out;omega)];rw [Below.heap_setCell _ _ _ _ (by show b≠G;have:=HG2.out;omega)];rw [Below.heap_setCell _ _ _ _ (by show b≠G;have:=HG2.out;omega)];rw [Below.heap_setCell _ _ _ _ (by show b≠G;have:=HG2.out;omega)];rw [Below.heap_setCell _ _ _ _ (by show b≠G;have:=HG2.out;omega)])
  have CM : Hid (W1.heap.size≤V7.heap.size):=H7.out.size
  clear H7 H8 y0 y4 f4 y5 f5 y6 f6 y7 f7 y8 f8 y9 f9 y10 f10 y11 f11 y12 f12 y13 f13 x0 CX HG2
  generalize ((((((((((v8.setCell ⟨G,4,none⟩ (.int .i64 cc.k)).setCell ⟨G,5,none⟩ (.int .i64 cc.s)).setCell ⟨G,6,none⟩ (.int .i64 cc.q)).setCell ⟨G,7,none⟩ (.slice cc.a cc.n cc.c)).setCell ⟨G,8,none⟩ (.slice cc.b cc.m cc.d)).setCell ⟨G,9,none⟩ (.int .i64 cc.i)).setCell ⟨G,10,none⟩ (.int .i64 cc.j)).setCell ⟨G,11,none⟩ (.int .i64 cc.g)).setCell ⟨G,12,none⟩ (.int .u64 ((cc.st : Nat) : Int))).setCell ⟨G,13,none⟩ (.bool cc.y)) = V9 at *
  have x0 : V9.cell? ⟨G,0,none⟩ = some (.int .i64 ((k : Nat) : Int)):=(H9.out.get 0 _ _ _ rfl).cell 0 _ rfl
  have XA : Hid (RcAt V9 ⟨k,r,n,z,cc,none,0,0⟩ ⟨rs,ws,[]⟩):=⟨CY.out,BAt.nil,BR.out⟩
  have XF : Hid (RcF ⟨k,r,n,z,cc,none,0,0⟩):=⟨by show cc.n≤1000000;omega,by show cc.m≤1000000;omega,Nat.zero_le _⟩
  have XN : Hid (InR S ⟨k,r,n,z,cc,none,0,0⟩):=⟨.inr fun p e=>HC.out _ (Nat.le_trans (Nat.le_of_lt (Nat.lt_trans HGW.out HG1.out)) (Nat.le_trans CM.out (CN.out.1 p e))),.inr fun p e=>HC.out _ (Nat.le_trans (Nat.le_of_lt (Nat.lt_trans HGW.out HG1.out)) (Nat.le_trans CM.out (CN.out.2 p e))),.inl rfl⟩
  have XI : Hid (InR (fun b=>b≠w.heap.size) ⟨k,r,n,z,cc,none,0,0⟩):=⟨.inr fun p e=>(NEw _).out (Nat.le_trans CM.out (CN.out.1 p e)),.inr fun p e=>(NEw _).out (Nat.le_trans CM.out (CN.out.2 p e)),.inl rfl⟩
  have MM : Hid (∀ y,readR l = some y→rcT ⟨k,r,n,z,cc,none,0,0⟩ ⟨rs,ws,[]⟩ = y):=fun y hy=>read_res (rc_two R1.out hkk.out RB.out RS.out RC.out) hy
  have ldX:=(H9.out.get 0 _ _ _ rfl).ldR (x:=⟨k,r,n,z,cc,none,0,0⟩)
  have HX1 : Hid (BoxC V9 G (rcV ⟨k,r,n,z,cc,none,0,0⟩) 47):=H9.out.get 0 _ _ _ rfl
  have BXV : Hid (BoxC V9 w.heap.size (rcV zeroR) 47):=BX0.out.only H9.out.onl (by have:=HGW.out;omega)
  have BV : Hid (Below w.heap.size w V9):=Only.below B1.out H9.out.onl (by have:=HGW.out;omega) B1.out.size
  clear H9 BX0 B1
  cases hf : formR (rcT ⟨k,r,n,z,cc,none,0,0⟩ ⟨rs,ws,[]⟩)
  ·have cW:=rWrite_no ⟨k,r,n,z,cc,none,0,0⟩ ⟨rs,ws,[]⟩ V9 XA.out XF.out hf
   have HF:=hid hf
   clear hf
   have NO : Hid (readR l = none):=by cases hr : readR l with | none=>rfl | some y=>exact absurd (readR_inv hr).2 (by rw [← MM.out y hr,HF.out];decide)
   go_wp2_with (first | (go_at_call 11;((with_reducible refine cW.mono ?_);rintro e v8 ⟨rfl,hb8⟩;have B8:=hid (BV.out.trans (hb8.mono BV.out.size));have HZ:=BXV.out.below hb8;clear ldX)) | (refine wpList_store_r rfl _ _ rfl w.heap.size zeroR rfl rfl zeroR HZ ?_))
   have FF:=HZ.fill (rcV zeroR)
   have z0:=FF.cell 0 _ rfl;have z1:=FF.cell 1 _ rfl;have z2:=FF.cell 2 _ rfl;have z3:=FF.cell 3 _ rfl;have z4:=FF.cell 4 _ rfl;have z5:=FF.cell 5 _ rfl;have z6:=FF.cell 6 _ rfl;have z7:=FF.cell 7 _ rfl;have z8:=FF.cell 8 _ rfl;have z9:=FF.cell 9 _ rfl;have z10:=FF.cell 10 _ rfl;have z11:=FF.cell 11 _ rfl;have z12:=FF.cell 12 _ rfl;have z13:=FF.cell 13 _ rfl;have z14:=FF.cell 14 _ rfl
   exact bodyPost_ret (v:=.tuple #[.agg (rcV zeroR),.int .i64 2]) (by simp [results,Tryz.results14,go_sem,z0,z1,z2,z3,z4,z5,z6,z7,z8,z9,z10,z11,z12,z13,z14]) rfl (.inr ⟨rfl,Only.below B8.out (only_fill _ _ _) (Nat.le_refl _) B8.out.size,NO.out⟩)
  ·have cW:=rWrite_yes ⟨k,r,n,z,cc,none,0,0⟩ ⟨rs,ws,[]⟩ V9 XA.out XF.out hf
   have HF:=hid hf
   clear hf
   by_cases hq : l = rcB (rcT ⟨k,r,n,z,cc,none,0,0⟩ ⟨rs,ws,[]⟩)
   ·have YES : Hid (readR l = some (rcT ⟨k,r,n,z,cc,none,0,0⟩ ⟨rs,ws,[]⟩)):=(by rw [hq];exact read_back _ ((formR_iff _).1 HF.out) XA.out.ok)
    have hq' : decide (l = rcB (rcT ⟨k,r,n,z,cc,none,0,0⟩ ⟨rs,ws,[]⟩)) = true:=decide_eq_true hq
    clear hq
    generalize rcB (rcT ⟨k,r,n,z,cc,none,0,0⟩ ⟨rs,ws,[]⟩) = BB at *
    go_wp2_with (first | (go_at_call 11;((with_reducible refine cW.mono ?_);rintro e v8 ⟨a8,n8,c8,rfl,ho8,hb8⟩;have B8:=hid (BV.out.trans (hb8.mono BV.out.size));have Y8:=hid (BXV.out.below hb8);have G8:=hid (HX1.out.below hb8);have hn8 : n8≤maxLen:=(by obtain ⟨q1,q2⟩:=own_caps ho8;exact Nat.le_trans q1 q2);have cS:=same_any a a8 m n8 c c8 _ _ _ _ v8 (HL.out _ B8.out) (BAt.of_own ho8) (by unfold maxLen;omega) hn8;rw [hq'] at cS;clear ldX ho8)) | (go_at_call 19;((with_reducible refine cS.mono ?_);rintro e v9 ⟨rfl,q9,rfl⟩;have B9:=hid (below_drewN q9 B8.out);have HZ:=Y8.out.drewN q9;have ldX:=(G8.out.drewN q9).ldR (x:=⟨k,r,n,z,cc,none,0,0⟩);have A9:=hid ((XA.out.later hb8).later (below_drewN q9 (Below.refl _ _))))) | (refine wpList_store_r rfl _ _ rfl w.heap.size ⟨k,r,n,z,cc,none,0,0⟩ rfl rfl zeroR HZ ?_))
    have FF:=HZ.fill (rcV ⟨k,r,n,z,cc,none,0,0⟩)
    have z0:=FF.cell 0 _ rfl;have z1:=FF.cell 1 _ rfl;have z2:=FF.cell 2 _ rfl;have z3:=FF.cell 3 _ rfl;have z4:=FF.cell 4 _ rfl;have z5:=FF.cell 5 _ rfl;have z6:=FF.cell 6 _ rfl;have z7:=FF.cell 7 _ rfl;have z8:=FF.cell 8 _ rfl;have z9:=FF.cell 9 _ rfl;have z10:=FF.cell 10 _ rfl;have z11:=FF.cell 11 _ rfl;have z12:=FF.cell 12 _ rfl;have z13:=FF.cell 13 _ rfl;have z14:=FF.cell 14 _ rfl
    exact bodyPost_ret (v:=.tuple #[.agg (rcV ⟨k,r,n,z,cc,none,0,0⟩),.int .i64 0]) (by simp [results,Tryz.results14,go_sem,z0,z1,z2,z3,z4,z5,z6,z7,z8,z9,z10,z11,z12,z13,z14]) rfl (.inl ⟨⟨k,r,n,z,cc,none,0,0⟩,⟨rs,ws,[]⟩,rfl,Only.below B9.out (only_fill _ _ _) (Nat.le_refl _) B9.out.size,A9.out.keepS XI.out (by rw [setRow_size];exact Nat.le_refl _) (fun b hb _=>setRow_other _ _ _ _ hb),XF.out,XN.out,YES.out⟩)
   ·have hq' : decide (l = rcB (rcT ⟨k,r,n,z,cc,none,0,0⟩ ⟨rs,ws,[]⟩)) = false:=decide_eq_false hq
    have NQ:=hid hq
    clear hq
    have MQ : Hid (∀ y,readR l = some y→False):=fun y hr=>NQ.out (by rw [MM.out y hr];exact (read_snd hr).1)
    clear NQ MM
    generalize rcB (rcT ⟨k,r,n,z,cc,none,0,0⟩ ⟨rs,ws,[]⟩) = BB at *
    have NO : Hid (readR l = none):=by cases hr : readR l with | none=>rfl | some y=>exact absurd hr (fun h=>MQ.out y h)
    go_wp2_with (first | (go_at_call 11;((with_reducible refine cW.mono ?_);rintro e v8 ⟨a8,n8,c8,rfl,ho8,hb8⟩;have B8:=hid (BV.out.trans (hb8.mono BV.out.size));have Y8:=hid (BXV.out.below hb8);have G8:=hid (HX1.out.below hb8);have hn8 : n8≤maxLen:=(by obtain ⟨q1,q2⟩:=own_caps ho8;exact Nat.le_trans q1 q2);have cS:=same_any a a8 m n8 c c8 _ _ _ _ v8 (HL.out _ B8.out) (BAt.of_own ho8) (by unfold maxLen;omega) hn8;rw [hq'] at cS;clear ldX ho8)) | (go_at_call 19;((with_reducible refine cS.mono ?_);rintro e v9 ⟨rfl,q9,rfl⟩;have B9:=hid (below_drewN q9 B8.out);have HZ:=Y8.out.drewN q9;have ldX:=(G8.out.drewN q9).ldR (x:=⟨k,r,n,z,cc,none,0,0⟩);have A9:=hid ((XA.out.later hb8).later (below_drewN q9 (Below.refl _ _))))) | (refine wpList_store_r rfl _ _ rfl w.heap.size zeroR rfl rfl zeroR HZ ?_))
    have FF:=HZ.fill (rcV zeroR)
    have z0:=FF.cell 0 _ rfl;have z1:=FF.cell 1 _ rfl;have z2:=FF.cell 2 _ rfl;have z3:=FF.cell 3 _ rfl;have z4:=FF.cell 4 _ rfl;have z5:=FF.cell 5 _ rfl;have z6:=FF.cell 6 _ rfl;have z7:=FF.cell 7 _ rfl;have z8:=FF.cell 8 _ rfl;have z9:=FF.cell 9 _ rfl;have z10:=FF.cell 10 _ rfl;have z11:=FF.cell 11 _ rfl;have z12:=FF.cell 12 _ rfl;have z13:=FF.cell 13 _ rfl;have z14:=FF.cell 14 _ rfl
    exact bodyPost_ret (v:=.tuple #[.agg (rcV zeroR),.int .i64 2]) (by simp [results,Tryz.results14,go_sem,z0,z1,z2,z3,z4,z5,z6,z7,z8,z9,z10,z11,z12,z13,z14]) rfl (.inr ⟨rfl,Only.below B9.out (only_fill _ _ _) (Nat.le_refl _) B9.out.size,NO.out⟩)
theorem rRead3 (S : Nat→Prop) (a : Option Addr) (m c : Nat) (l : List UInt8) (w : World) (hl : BAt w w.heap.size a m l) (hN : ∀ p,a = some p→S p.block) (hC : ∀ b,w.heap.size≤b→S b) (hmc : m≤c) (hcm : c≤maxLen) (hm : m≤1000000) (hk0 : kindB l = 3) :
  Calls Tryz.prog 14 #[.slice a m c] w (ReadD w S l):=by
 have HK0:=hid hk0
 clear hk0
 have H0:=hid ((Boxs.start w).more zeroRV 47)
 have s0 : (w.alloc (.cells zeroRV 47)).heap.size = w.heap.size + 1:=by simp
 have hbA : Below (w.alloc (.cells zeroRV 47)).heap.size (w.alloc (.cells zeroRV 47)) ((w.alloc (.cells zeroRV 47)).alloc (.cells #[.slice a m c,.int .i64 0,.bool false] 99)):=(Below.refl _ _).alloc (Nat.le_refl _) _
 have BX0 : Hid (BoxC ((w.alloc (.cells zeroRV 47)).alloc (.cells #[.slice a m c,.int .i64 0,.bool false] 99)) w.heap.size (rcV zeroR) 47):=(H0.out.get 0 _ _ _ rfl).below hbA
 have B1 : Hid (Below w.heap.size w ((w.alloc (.cells zeroRV 47)).alloc (.cells #[.slice a m c,.int .i64 0,.bool false] 99))):=(H0.out.below hbA).bel
 have F0 : Hid (FS w.heap.size (w.heap.size + 1) l (some l) ((w.alloc (.cells zeroRV 47)).alloc (.cells #[.slice a m c,.int .i64 0,.bool false] 99))):=⟨0,⟨a,m,c,by rw [← s0];exact heap_alloc_new _ _,hmc,hcm,(hl.below H0.out.bel (Nat.le_refl _)).alloc H0.out.bel.size _,Nat.zero_le _,by omega⟩,fun l' e=>by injection e with e;rw [← e];rfl⟩
 have HL : Hid (∀ W,Below w.heap.size w W→BAt W w.heap.size a m l):=fun W hW=>hl.below hW (Nat.le_refl _)
 have HNC : Hid (∀ p,a = some p→S p.block):=hN
 have HC:=hid hC
 have hll:=hl.len
 have hcm':=hcm
 unfold maxLen at hcm'
 clear hl hN hC H0 hbA s0
 go_enter Tryz.func14,Tryz.ntmps14
 go_upto_region 2 with (fail)
 generalize (w.alloc (.cells zeroRV 47)).alloc (.cells #[.slice a m c,.int .i64 0,.bool false] 99) = W1 at *
 obtain ⟨g,hg⟩ : ∃ g,g = w.heap.size + 1:=⟨_,rfl⟩
 rw [← hg] at F0 ⊢
 have hgw : w.heap.size < g:=by omega
 have HGW:=hid hgw
 clear hg
 have hg1 : g < W1.heap.size:=F0.out.lt
 have HG1:=hid hg1
 have H1 : Hid (RdO (FS w.heap.size g l (some l)) g W1 W1 [] []):=RdO.start F0.out F0.out.lt
 have c1 : ∀ s W,FS w.heap.size g l s W→Calls Tryz.prog 45 #[.pointer (some ⟨g,0,none⟩),.int .i64 1] W (Took1 (FS w.heap.size g l) g numV (numP 1) 0 s W):=fun s W h=>refTakeS_any w.heap.size g l 1 s W h (by omega)
 have c4 : ∀ s W,FS w.heap.size g l s W→Calls Tryz.prog 45 #[.pointer (some ⟨g,0,none⟩),.int .i64 4] W (Took1 (FS w.heap.size g l) g numV (numP 4) 0 s W):=fun s W h=>refTakeS_any w.heap.size g l 4 s W h (by omega)
 clear F0 hg1 hgw
 go_upto_region 3 with (first | (go_at_call 45;((with_reducible refine (c1 _ _ H1.out.rdr).mono ?_);rintro e w2 ⟨k,st1,rfl,hr1,ho1,hR1,hz1⟩;have H2:=hid (H1.out.only hr1 ho1);have R1:=hid hR1;have hk : k < 256:=num_lt hR1 hz1 (by decide);have ek:=wrap_i64 k (by omega);have HZ : Hid (BoxC (w2.alloc (.cells zeroRV 47)) w2.heap.size (rcV zeroR) 47):=BoxC.new w2 zeroRV 47;have KD:=hid (kind_of hR1 hz1);clear hr1 ho1 hR1 hz1)) | (refine wpList_store_r rfl _ _ rfl w2.heap.size ⟨k,0,0,0,zeroM,none,0,0⟩ rfl rfl zeroR HZ.out ?_))
 have H3 : Hid (RdO (FS w.heap.size g l st1) g W1 ((w2.alloc (.cells zeroRV 47)).setRow w2.heap.size (rcV ⟨k,0,0,0,zeroM,none,0,0⟩)) [(w2.heap.size,rcV ⟨k,0,0,0,zeroM,none,0,0⟩,47)] []):=(H2.out.more zeroRV 47).fillK (fun _ h=>by cases h) _
 clear H1 H2 HZ c1 ek
 generalize (w2.alloc (.cells zeroRV 47)).setRow w2.heap.size (rcV ⟨k,0,0,0,zeroM,none,0,0⟩) = W3 at *
 generalize w2.heap.size = G at *
 have hGge : W1.heap.size≤G:=H3.out.ge 0 _ _ _ rfl
 have HGG:=hid hGge
 clear hGge
 have hl1 : ∀ x ∈ ([] : List (Nat×Array Value×TypeId)),x.1≠G:=fun _ h=>by cases h
 have x0 : W3.cell? ⟨G,0,none⟩ = some (.int .i64 ((k : Nat) : Int)):=(H3.out.get 0 _ _ _ rfl).cell 0 _ rfl
 have NEw : ∀ n : Nat,Hid (W1.heap.size≤n→n≠w.heap.size):=fun n h=>by have:=HG1.out;have:=HGW.out;omega
 have h1 : k = 3:=KD.out.trans HK0.out
 clear KD HK0
 ·have hkk:=hid h1
  have q1 : (((k : Nat) : Int) == 1) = false:=by simp;omega
  have q2 : (((k : Nat) : Int) == 2) = false:=by simp;omega
  have q3 : (((k : Nat) : Int) == 3) = true:=by simp;omega
  have q4 : (((k : Nat) : Int) == 4) = false:=by simp;omega
  have i2 : (2 : Int)≤((k : Nat) : Int):=by omega
  have i2' : decide ((2 : Int)≤((k : Nat) : Int)) = true:=decide_eq_true i2
  clear h1
  go_upto_region 8 with (go_at_call 45;((with_reducible refine (c4 _ _ H3.out.rdr).mono ?_);rintro e v4 ⟨z,tS,rfl,hr,ho,hR,hz⟩;have H4:=hid (H3.out.only hr ho);have RS:=hid hR;have hz4 : z < 4294967296:=num_lt hR hz (by decide);have ez:=wrap_i64 z (by omega);have y0 : v4.cell? ⟨G,0,none⟩ = some (.int .i64 ((k : Nat) : Int)):=(H4.out.get 0 _ _ _ rfl).cell 0 _ rfl;have y3:=(H4.out.get 0 _ _ _ rfl).cell 3 _ rfl;have f3:=(H4.out.get 0 _ _ _ rfl).frozen 3;clear hr ho hR hz))
  have H5 : Hid (RdO (FS w.heap.size g l tS) g W1 (v4.setCell ⟨G,3,none⟩ (.int .i64 ((z : Nat) : Int))) [(G,rcV ⟨k,0,0,z,zeroM,none,0,0⟩,47)] []):=(H4.out.set hl1 3 (.int .i64 ((z : Nat) : Int)))
  clear H3 H4 y0 y3 f3 ez x0 
  generalize (v4.setCell ⟨G,3,none⟩ (.int .i64 ((z : Nat) : Int))) = V5 at *
  have x0 : V5.cell? ⟨G,0,none⟩ = some (.int .i64 ((k : Nat) : Int)):=(H5.out.get 0 _ _ _ rfl).cell 0 _ rfl
  go_upto_region 13 with (go_at_call 47;((with_reducible refine (dTake_any w.heap.size g l _ _ H5.out.rdr).mono ?_);rintro e v6 ⟨cc,rs,ws,tC,rfl,hr,ho,hX,⟨hn1,na,nb⟩,hR,hz0⟩;have H6:=hid (H5.out.only hr ho);have RC:=hid hR;have CX:=hid hX;have CN : Hid (NewP V5.heap.size cc.a∧NewP V5.heap.size cc.b):=⟨na,nb⟩;have y0 : v6.cell? ⟨G,0,none⟩ = some (.int .i64 ((k : Nat) : Int)):=(H6.out.get 0 _ _ _ rfl).cell 0 _ rfl;have y4:=(H6.out.get 0 _ _ _ rfl).cell 4 _ rfl;have f4:=(H6.out.get 0 _ _ _ rfl).frozen 4;have y5:=(H6.out.get 0 _ _ _ rfl).cell 5 _ rfl;have f5:=(H6.out.get 0 _ _ _ rfl).frozen 5;have y6:=(H6.out.get 0 _ _ _ rfl).cell 6 _ rfl;have f6:=(H6.out.get 0 _ _ _ rfl).frozen 6;have y7:=(H6.out.get 0 _ _ _ rfl).cell 7 _ rfl;have f7:=(H6.out.get 0 _ _ _ rfl).frozen 7;have y8:=(H6.out.get 0 _ _ _ rfl).cell 8 _ rfl;have f8:=(H6.out.get 0 _ _ _ rfl).frozen 8;have y9:=(H6.out.get 0 _ _ _ rfl).cell 9 _ rfl;have f9:=(H6.out.get 0 _ _ _ rfl).frozen 9;have y10:=(H6.out.get 0 _ _ _ rfl).cell 10 _ rfl;have f10:=(H6.out.get 0 _ _ _ rfl).frozen 10;have y11:=(H6.out.get 0 _ _ _ rfl).cell 11 _ rfl;have f11:=(H6.out.get 0 _ _ _ rfl).frozen 11;have y12:=(H6.out.get 0 _ _ _ rfl).cell 12 _ rfl;have f12:=(H6.out.get 0 _ _ _ rfl).frozen 12;have y13:=(H6.out.get 0 _ _ _ rfl).cell 13 _ rfl;have f13:=(H6.out.get 0 _ _ _ rfl).frozen 13;clear hr ho hX na nb hR hz0))
  have HG2 : Hid (G < V5.heap.size):=(H5.out.get 0 _ _ _ rfl).lt
  have H7 : Hid (RdO (FS w.heap.size g l tC) g W1 ((((((((((v6.setCell ⟨G,4,none⟩ (.int .i64 cc.k)).setCell ⟨G,5,none⟩ (.int .i64 cc.s)).setCell ⟨G,6,none⟩ (.int .i64 cc.q)).setCell ⟨G,7,none⟩ (.slice cc.a cc.n cc.c)).setCell ⟨G,8,none⟩ (.slice cc.b cc.m cc.d)).setCell ⟨G,9,none⟩ (.int .i64 cc.i)).setCell ⟨G,10,none⟩ (.int .i64 cc.j)).setCell ⟨G,11,none⟩ (.int .i64 cc.g)).setCell ⟨G,12,none⟩ (.int .u64 ((cc.st : Nat) : Int))).setCell ⟨G,13,none⟩ (.bool cc.y)) [(G,rcV ⟨k,0,0,z,cc,none,0,0⟩,47)] []):=RdO.cmd15 H6.out hl1 (.int .i64 cc.k) (.int .i64 cc.s) (.int .i64 cc.q) (.slice cc.a cc.n cc.c) (.slice cc.b cc.m cc.d) (.int .i64 cc.i) (.int .i64 cc.j) (.int .i64 cc.g) (.int .u64 ((cc.st : Nat) : Int)) (.bool cc.y)
  have CY : Hid (CmAt ((((((((((v6.setCell ⟨G,4,none⟩ (.int .i64 cc.k)).setCell ⟨G,5,none⟩ (.int .i64 cc.s)).setCell ⟨G,6,none⟩ (.int .i64 cc.q)).setCell ⟨G,7,none⟩ (.slice cc.a cc.n cc.c)).setCell ⟨G,8,none⟩ (.slice cc.b cc.m cc.d)).setCell ⟨G,9,none⟩ (.int .i64 cc.i)).setCell ⟨G,10,none⟩ (.int .i64 cc.j)).setCell ⟨G,11,none⟩ (.int .i64 cc.g)).setCell ⟨G,12,none⟩ (.int .u64 ((cc.st : Nat) : Int))).setCell ⟨G,13,none⟩ (.bool cc.y)) cc rs ws):=CX.out.far (B:=V5.heap.size) CN.out.1 CN.out.2 (by simp [World.setCell]) (fun b hb _=>by rw [Below.heap_setCell _ _ _ _ (by show b≠G;have:=HG2.out;omega)];rw [Below.heap_setCell _ _ _ _ (by show b≠G;have:=HG2.out;omega)];rw [Below.heap_setCell _ _ _ _ (by show b≠G;have:=HG2.out;omega)];rw [Below.heap_setCell _ _ _ _ (by show b≠G;have:=HG2.out;omega)];rw [Below.heap_setCell _ _ _ _ (by show b≠G;have:=HG2.out;omega)];rw [Below.heap_setCell _ _ _ _ (by show b≠G;have:=HG2.out;omega)];rw [Below.heap_setCell _ _ _ _ (by show b≠G;have:=HG2.out;omega)];rw [Below.heap_setCell _ _ _ _ (by show b≠G;have:=HG2.out;omega)];rw [Below.heap_setCell _ _ _ _ (by show b≠G;have:=HG2.out;omega)];rw [Below.heap_setCell _ _ _ _ (by show b≠G;have:=HG2.out;omega)])
  have CM : Hid (W1.heap.size≤V5.heap.size):=H5.out.size
  clear H5 H6 y0 y4 f4 y5 f5 y6 f6 y7 f7 y8 f8 y9 f9 y10 f10 y11 f11 y12 f12 y13 f13 x0 CX HG2
  generalize ((((((((((v6.setCell ⟨G,4,none⟩ (.int .i64 cc.k)).setCell ⟨G,5,none⟩ (.int .i64 cc.s)).setCell ⟨G,6,none⟩ (.int .i64 cc.q)).setCell ⟨G,7,none⟩ (.slice cc.a cc.n cc.c)).setCell ⟨G,8,none⟩ (.slice cc.b cc.m cc.d)).setCell ⟨G,9,none⟩ (.int .i64 cc.i)).setCell ⟨G,10,none⟩ (.int .i64 cc.j)).setCell ⟨G,11,none⟩ (.int .i64 cc.g)).setCell ⟨G,12,none⟩ (.int .u64 ((cc.st : Nat) : Int))).setCell ⟨G,13,none⟩ (.bool cc.y)) = V7 at *
  have x0 : V7.cell? ⟨G,0,none⟩ = some (.int .i64 ((k : Nat) : Int)):=(H7.out.get 0 _ _ _ rfl).cell 0 _ rfl
  have XA : Hid (RcAt V7 ⟨k,0,0,z,cc,none,0,0⟩ ⟨rs,ws,[]⟩):=⟨CY.out,BAt.nil,by show 0 < 4294967296;decide⟩
  have XF : Hid (RcF ⟨k,0,0,z,cc,none,0,0⟩):=⟨by show cc.n≤1000000;omega,by show cc.m≤1000000;omega,Nat.zero_le _⟩
  have XN : Hid (InR S ⟨k,0,0,z,cc,none,0,0⟩):=⟨.inr fun p e=>HC.out _ (Nat.le_trans (Nat.le_of_lt (Nat.lt_trans HGW.out HG1.out)) (Nat.le_trans CM.out (CN.out.1 p e))),.inr fun p e=>HC.out _ (Nat.le_trans (Nat.le_of_lt (Nat.lt_trans HGW.out HG1.out)) (Nat.le_trans CM.out (CN.out.2 p e))),.inl rfl⟩
  have XI : Hid (InR (fun b=>b≠w.heap.size) ⟨k,0,0,z,cc,none,0,0⟩):=⟨.inr fun p e=>(NEw _).out (Nat.le_trans CM.out (CN.out.1 p e)),.inr fun p e=>(NEw _).out (Nat.le_trans CM.out (CN.out.2 p e)),.inl rfl⟩
  have MM : Hid (∀ y,readR l = some y→rcT ⟨k,0,0,z,cc,none,0,0⟩ ⟨rs,ws,[]⟩ = y):=fun y hy=>read_res (rc_three R1.out hkk.out RS.out RC.out) hy
  have ldX:=(H7.out.get 0 _ _ _ rfl).ldR (x:=⟨k,0,0,z,cc,none,0,0⟩)
  have HX1 : Hid (BoxC V7 G (rcV ⟨k,0,0,z,cc,none,0,0⟩) 47):=H7.out.get 0 _ _ _ rfl
  have BXV : Hid (BoxC V7 w.heap.size (rcV zeroR) 47):=BX0.out.only H7.out.onl (by have:=HGW.out;omega)
  have BV : Hid (Below w.heap.size w V7):=Only.below B1.out H7.out.onl (by have:=HGW.out;omega) B1.out.size
  clear H7 BX0 B1
  cases hf : formR (rcT ⟨k,0,0,z,cc,none,0,0⟩ ⟨rs,ws,[]⟩)
  ·have cW:=rWrite_no ⟨k,0,0,z,cc,none,0,0⟩ ⟨rs,ws,[]⟩ V7 XA.out XF.out hf
   have HF:=hid hf
   clear hf
   have NO : Hid (readR l = none):=by cases hr : readR l with | none=>rfl | some y=>exact absurd (readR_inv hr).2 (by rw [← MM.out y hr,HF.out];decide)
   go_wp2_with (first | (go_at_call 11;((with_reducible refine cW.mono ?_);rintro e v8 ⟨rfl,hb8⟩;have B8:=hid (BV.out.trans (hb8.mono BV.out.size));have HZ:=BXV.out.below hb8;clear ldX)) | (refine wpList_store_r rfl _ _ rfl w.heap.size zeroR rfl rfl zeroR HZ ?_))
   have FF:=HZ.fill (rcV zeroR)
   have z0:=FF.cell 0 _ rfl;have z1:=FF.cell 1 _ rfl;have z2:=FF.cell 2 _ rfl;have z3:=FF.cell 3 _ rfl;have z4:=FF.cell 4 _ rfl;have z5:=FF.cell 5 _ rfl;have z6:=FF.cell 6 _ rfl;have z7:=FF.cell 7 _ rfl;have z8:=FF.cell 8 _ rfl;have z9:=FF.cell 9 _ rfl;have z10:=FF.cell 10 _ rfl;have z11:=FF.cell 11 _ rfl;have z12:=FF.cell 12 _ rfl;have z13:=FF.cell 13 _ rfl;have z14:=FF.cell 14 _ rfl
   exact bodyPost_ret (v:=.tuple #[.agg (rcV zeroR),.int .i64 2]) (by simp [results,Tryz.results14,go_sem,z0,z1,z2,z3,z4,z5,z6,z7,z8,z9,z10,z11,z12,z13,z14]) rfl (.inr ⟨rfl,Only.below B8.out (only_fill _ _ _) (Nat.le_refl _) B8.out.size,NO.out⟩)
  ·have cW:=rWrite_yes ⟨k,0,0,z,cc,none,0,0⟩ ⟨rs,ws,[]⟩ V7 XA.out XF.out hf
   have HF:=hid hf
   clear hf
   by_cases hq : l = rcB (rcT ⟨k,0,0,z,cc,none,0,0⟩ ⟨rs,ws,[]⟩)
   ·have YES : Hid (readR l = some (rcT ⟨k,0,0,z,cc,none,0,0⟩ ⟨rs,ws,[]⟩)):=(by rw [hq];exact read_back _ ((formR_iff _).1 HF.out) XA.out.ok)
    have hq' : decide (l = rcB (rcT ⟨k,0,0,z,cc,none,0,0⟩ ⟨rs,ws,[]⟩)) = true:=decide_eq_true hq
    clear hq
    generalize rcB (rcT ⟨k,0,0,z,cc,none,0,0⟩ ⟨rs,ws,[]⟩) = BB at *
    go_wp2_with (first | (go_at_call 11;((with_reducible refine cW.mono ?_);rintro e v8 ⟨a8,n8,c8,rfl,ho8,hb8⟩;have B8:=hid (BV.out.trans (hb8.mono BV.out.size));have Y8:=hid (BXV.out.below hb8);have G8:=hid (HX1.out.below hb8);have hn8 : n8≤maxLen:=(by obtain ⟨q1,q2⟩:=own_caps ho8;exact Nat.le_trans q1 q2);have cS:=same_any a a8 m n8 c c8 _ _ _ _ v8 (HL.out _ B8.out) (BAt.of_own ho8) (by unfold maxLen;omega) hn8;rw [hq'] at cS;clear ldX ho8)) | (go_at_call 19;((with_reducible refine cS.mono ?_);rintro e v9 ⟨rfl,q9,rfl⟩;have B9:=hid (below_drewN q9 B8.out);have HZ:=Y8.out.drewN q9;have ldX:=(G8.out.drewN q9).ldR (x:=⟨k,0,0,z,cc,none,0,0⟩);have A9:=hid ((XA.out.later hb8).later (below_drewN q9 (Below.refl _ _))))) | (refine wpList_store_r rfl _ _ rfl w.heap.size ⟨k,0,0,z,cc,none,0,0⟩ rfl rfl zeroR HZ ?_))
    have FF:=HZ.fill (rcV ⟨k,0,0,z,cc,none,0,0⟩)
    have z0:=FF.cell 0 _ rfl;have z1:=FF.cell 1 _ rfl;have z2:=FF.cell 2 _ rfl;have z3:=FF.cell 3 _ rfl;have z4:=FF.cell 4 _ rfl;have z5:=FF.cell 5 _ rfl;have z6:=FF.cell 6 _ rfl;have z7:=FF.cell 7 _ rfl;have z8:=FF.cell 8 _ rfl;have z9:=FF.cell 9 _ rfl;have z10:=FF.cell 10 _ rfl;have z11:=FF.cell 11 _ rfl;have z12:=FF.cell 12 _ rfl;have z13:=FF.cell 13 _ rfl;have z14:=FF.cell 14 _ rfl
    exact bodyPost_ret (v:=.tuple #[.agg (rcV ⟨k,0,0,z,cc,none,0,0⟩),.int .i64 0]) (by simp [results,Tryz.results14,go_sem,z0,z1,z2,z3,z4,z5,z6,z7,z8,z9,z10,z11,z12,z13,z14]) rfl (.inl ⟨⟨k,0,0,z,cc,none,0,0⟩,⟨rs,ws,[]⟩,rfl,Only.below B9.out (only_fill _ _ _) (Nat.le_refl _) B9.out.size,A9.out.keepS XI.out (by rw [setRow_size];exact Nat.le_refl _) (fun b hb _=>setRow_other _ _ _ _ hb),XF.out,XN.out,YES.out⟩)
   ·have hq' : decide (l = rcB (rcT ⟨k,0,0,z,cc,none,0,0⟩ ⟨rs,ws,[]⟩)) = false:=decide_eq_false hq
    have NQ:=hid hq
    clear hq
    have MQ : Hid (∀ y,readR l = some y→False):=fun y hr=>NQ.out (by rw [MM.out y hr];exact (read_snd hr).1)
    clear NQ MM
    generalize rcB (rcT ⟨k,0,0,z,cc,none,0,0⟩ ⟨rs,ws,[]⟩) = BB at *
    have NO : Hid (readR l = none):=by cases hr : readR l with | none=>rfl | some y=>exact absurd hr (fun h=>MQ.out y h)
    go_wp2_with (first | (go_at_call 11;((with_reducible refine cW.mono ?_);rintro e v8 ⟨a8,n8,c8,rfl,ho8,hb8⟩;have B8:=hid (BV.out.trans (hb8.mono BV.out.size));have Y8:=hid (BXV.out.below hb8);have G8:=hid (HX1.out.below hb8);have hn8 : n8≤maxLen:=(by obtain ⟨q1,q2⟩:=own_caps ho8;exact Nat.le_trans q1 q2);have cS:=same_any a a8 m n8 c c8 _ _ _ _ v8 (HL.out _ B8.out) (BAt.of_own ho8) (by unfold maxLen;omega) hn8;rw [hq'] at cS;clear ldX ho8)) | (go_at_call 19;((with_reducible refine cS.mono ?_);rintro e v9 ⟨rfl,q9,rfl⟩;have B9:=hid (below_drewN q9 B8.out);have HZ:=Y8.out.drewN q9;have ldX:=(G8.out.drewN q9).ldR (x:=⟨k,0,0,z,cc,none,0,0⟩);have A9:=hid ((XA.out.later hb8).later (below_drewN q9 (Below.refl _ _))))) | (refine wpList_store_r rfl _ _ rfl w.heap.size zeroR rfl rfl zeroR HZ ?_))
    have FF:=HZ.fill (rcV zeroR)
    have z0:=FF.cell 0 _ rfl;have z1:=FF.cell 1 _ rfl;have z2:=FF.cell 2 _ rfl;have z3:=FF.cell 3 _ rfl;have z4:=FF.cell 4 _ rfl;have z5:=FF.cell 5 _ rfl;have z6:=FF.cell 6 _ rfl;have z7:=FF.cell 7 _ rfl;have z8:=FF.cell 8 _ rfl;have z9:=FF.cell 9 _ rfl;have z10:=FF.cell 10 _ rfl;have z11:=FF.cell 11 _ rfl;have z12:=FF.cell 12 _ rfl;have z13:=FF.cell 13 _ rfl;have z14:=FF.cell 14 _ rfl
    exact bodyPost_ret (v:=.tuple #[.agg (rcV zeroR),.int .i64 2]) (by simp [results,Tryz.results14,go_sem,z0,z1,z2,z3,z4,z5,z6,z7,z8,z9,z10,z11,z12,z13,z14]) rfl (.inr ⟨rfl,Only.below B9.out (only_fill _ _ _) (Nat.le_refl _) B9.out.size,NO.out⟩)
theorem rRead4n (S : Nat→Prop) (a : Option Addr) (m c : Nat) (l : List UInt8) (w : World) (hl : BAt w w.heap.size a m l) (hN : ∀ p,a = some p→S p.block) (hC : ∀ b,w.heap.size≤b→S b) (hmc : m≤c) (hcm : c≤maxLen) (hm : m≤1000000) (hk0 : kindB l = 4) (h9 : l.length < 9) :
  Calls Tryz.prog 14 #[.slice a m c] w (ReadD w S l):=by
 have HK0:=hid hk0
 clear hk0
 have H9:=hid h9
 clear h9
 have H0:=hid ((Boxs.start w).more zeroRV 47)
 have s0 : (w.alloc (.cells zeroRV 47)).heap.size = w.heap.size + 1:=by simp
 have hbA : Below (w.alloc (.cells zeroRV 47)).heap.size (w.alloc (.cells zeroRV 47)) ((w.alloc (.cells zeroRV 47)).alloc (.cells #[.slice a m c,.int .i64 0,.bool false] 99)):=(Below.refl _ _).alloc (Nat.le_refl _) _
 have BX0 : Hid (BoxC ((w.alloc (.cells zeroRV 47)).alloc (.cells #[.slice a m c,.int .i64 0,.bool false] 99)) w.heap.size (rcV zeroR) 47):=(H0.out.get 0 _ _ _ rfl).below hbA
 have B1 : Hid (Below w.heap.size w ((w.alloc (.cells zeroRV 47)).alloc (.cells #[.slice a m c,.int .i64 0,.bool false] 99))):=(H0.out.below hbA).bel
 have F0 : Hid (FS w.heap.size (w.heap.size + 1) l (some l) ((w.alloc (.cells zeroRV 47)).alloc (.cells #[.slice a m c,.int .i64 0,.bool false] 99))):=⟨0,⟨a,m,c,by rw [← s0];exact heap_alloc_new _ _,hmc,hcm,(hl.below H0.out.bel (Nat.le_refl _)).alloc H0.out.bel.size _,Nat.zero_le _,by omega⟩,fun l' e=>by injection e with e;rw [← e];rfl⟩
 have HL : Hid (∀ W,Below w.heap.size w W→BAt W w.heap.size a m l):=fun W hW=>hl.below hW (Nat.le_refl _)
 have HNC : Hid (∀ p,a = some p→S p.block):=hN
 have HC:=hid hC
 have hll:=hl.len
 have hcm':=hcm
 unfold maxLen at hcm'
 clear hl hN hC H0 hbA s0
 go_enter Tryz.func14,Tryz.ntmps14
 go_upto_region 2 with (fail)
 generalize (w.alloc (.cells zeroRV 47)).alloc (.cells #[.slice a m c,.int .i64 0,.bool false] 99) = W1 at *
 obtain ⟨g,hg⟩ : ∃ g,g = w.heap.size + 1:=⟨_,rfl⟩
 rw [← hg] at F0 ⊢
 have hgw : w.heap.size < g:=by omega
 have HGW:=hid hgw
 clear hg
 have hg1 : g < W1.heap.size:=F0.out.lt
 have HG1:=hid hg1
 have H1 : Hid (RdO (FS w.heap.size g l (some l)) g W1 W1 [] []):=RdO.start F0.out F0.out.lt
 have c1 : ∀ s W,FS w.heap.size g l s W→Calls Tryz.prog 45 #[.pointer (some ⟨g,0,none⟩),.int .i64 1] W (Took1 (FS w.heap.size g l) g numV (numP 1) 0 s W):=fun s W h=>refTakeS_any w.heap.size g l 1 s W h (by omega)
 have c4 : ∀ s W,FS w.heap.size g l s W→Calls Tryz.prog 45 #[.pointer (some ⟨g,0,none⟩),.int .i64 4] W (Took1 (FS w.heap.size g l) g numV (numP 4) 0 s W):=fun s W h=>refTakeS_any w.heap.size g l 4 s W h (by omega)
 clear F0 hg1 hgw
 go_upto_region 3 with (first | (go_at_call 45;((with_reducible refine (c1 _ _ H1.out.rdr).mono ?_);rintro e w2 ⟨k,st1,rfl,hr1,ho1,hR1,hz1⟩;have H2:=hid (H1.out.only hr1 ho1);have R1:=hid hR1;have hk : k < 256:=num_lt hR1 hz1 (by decide);have ek:=wrap_i64 k (by omega);have HZ : Hid (BoxC (w2.alloc (.cells zeroRV 47)) w2.heap.size (rcV zeroR) 47):=BoxC.new w2 zeroRV 47;have KD:=hid (kind_of hR1 hz1);clear hr1 ho1 hR1 hz1)) | (refine wpList_store_r rfl _ _ rfl w2.heap.size ⟨k,0,0,0,zeroM,none,0,0⟩ rfl rfl zeroR HZ.out ?_))
 have H3 : Hid (RdO (FS w.heap.size g l st1) g W1 ((w2.alloc (.cells zeroRV 47)).setRow w2.heap.size (rcV ⟨k,0,0,0,zeroM,none,0,0⟩)) [(w2.heap.size,rcV ⟨k,0,0,0,zeroM,none,0,0⟩,47)] []):=(H2.out.more zeroRV 47).fillK (fun _ h=>by cases h) _
 clear H1 H2 HZ c1 ek
 generalize (w2.alloc (.cells zeroRV 47)).setRow w2.heap.size (rcV ⟨k,0,0,0,zeroM,none,0,0⟩) = W3 at *
 generalize w2.heap.size = G at *
 have hGge : W1.heap.size≤G:=H3.out.ge 0 _ _ _ rfl
 have HGG:=hid hGge
 clear hGge
 have hl1 : ∀ x ∈ ([] : List (Nat×Array Value×TypeId)),x.1≠G:=fun _ h=>by cases h
 have x0 : W3.cell? ⟨G,0,none⟩ = some (.int .i64 ((k : Nat) : Int)):=(H3.out.get 0 _ _ _ rfl).cell 0 _ rfl
 have NEw : ∀ n : Nat,Hid (W1.heap.size≤n→n≠w.heap.size):=fun n h=>by have:=HG1.out;have:=HGW.out;omega
 have h1 : k = 4:=KD.out.trans HK0.out
 clear KD HK0
 ·have hkk:=hid h1
  have q1 : (((k : Nat) : Int) == 1) = false:=by simp;omega
  have q2 : (((k : Nat) : Int) == 2) = false:=by simp;omega
  have q3 : (((k : Nat) : Int) == 3) = false:=by simp;omega
  have q4 : (((k : Nat) : Int) == 4) = true:=by simp;omega
  have i2 : (2 : Int)≤((k : Nat) : Int):=by omega
  have i2' : decide ((2 : Int)≤((k : Nat) : Int)) = true:=decide_eq_true i2
  clear h1
  go_upto_region 10 with (go_at_call 45;((with_reducible refine (c4 _ _ H3.out.rdr).mono ?_);rintro e v4 ⟨z,tS,rfl,hr,ho,hR,hz⟩;have H4:=hid (H3.out.only hr ho);have RS:=hid hR;have hz4 : z < 4294967296:=num_lt hR hz (by decide);have ez:=wrap_i64 z (by omega);have y0 : v4.cell? ⟨G,0,none⟩ = some (.int .i64 ((k : Nat) : Int)):=(H4.out.get 0 _ _ _ rfl).cell 0 _ rfl;have y3:=(H4.out.get 0 _ _ _ rfl).cell 3 _ rfl;have f3:=(H4.out.get 0 _ _ _ rfl).frozen 3;clear hr ho hR hz))
  have H5 : Hid (RdO (FS w.heap.size g l tS) g W1 (v4.setCell ⟨G,3,none⟩ (.int .i64 ((z : Nat) : Int))) [(G,rcV ⟨k,0,0,z,zeroM,none,0,0⟩,47)] []):=(H4.out.set hl1 3 (.int .i64 ((z : Nat) : Int)))
  clear H3 H4 y0 y3 f3 ez x0 
  generalize (v4.setCell ⟨G,3,none⟩ (.int .i64 ((z : Nat) : Int))) = V5 at *
  have x0 : V5.cell? ⟨G,0,none⟩ = some (.int .i64 ((k : Nat) : Int)):=(H5.out.get 0 _ _ _ rfl).cell 0 _ rfl
  go_upto_region 11 with (go_at_call 45;((with_reducible refine (c4 _ _ H5.out.rdr).mono ?_);rintro e v6 ⟨z4,tD,rfl,hr,ho,hR,hz⟩;have H6:=hid (H5.out.only hr ho);have RD:=hid hR;clear hr ho hR hz))
  clear H5 x0
  have x0 : v6.cell? ⟨G,0,none⟩ = some (.int .i64 ((k : Nat) : Int)):=(H6.out.get 0 _ _ _ rfl).cell 0 _ rfl
  obtain ⟨q91,q92⟩:=len_nine R1.out RS.out RD.out
  obtain ⟨st5,hD5⟩:=doc_data RD.out
  have RD5:=hid hD5
  clear hD5 RD
  obtain rfl : tD = none:=by cases tD with | none=>rfl | some r=>exact absurd (q92 r rfl).1 (by have:=H9.out;omega)
  clear q91 q92
  obtain ⟨fl,ff⟩:=H6.out.rdr.flag
  have XA : Hid (RcAt v6 ⟨k,0,0,z,zeroM,none,0,0⟩ noLR):=⟨CmAt.zero,BAt.nil,by show 0 < 4294967296;decide⟩
  have XF : Hid (RcF ⟨k,0,0,z,zeroM,none,0,0⟩):=⟨Nat.zero_le _,Nat.zero_le _,Nat.zero_le _⟩
  have XN : Hid (InR S ⟨k,0,0,z,zeroM,none,0,0⟩):=⟨.inl rfl,.inl rfl,.inl rfl⟩
  have XI : Hid (InR (fun b=>b≠w.heap.size) ⟨k,0,0,z,zeroM,none,0,0⟩):=⟨.inl rfl,.inl rfl,.inl rfl⟩
  have MM : Hid (∀ y,readR l = some y→rcT ⟨k,0,0,z,zeroM,none,0,0⟩ noLR = y):=fun y hy=>read_res (rc_four R1.out hkk.out RS.out RD5.out) hy
  have ldX:=(H6.out.get 0 _ _ _ rfl).ldR (x:=⟨k,0,0,z,zeroM,none,0,0⟩)
  have HX1 : Hid (BoxC v6 G (rcV ⟨k,0,0,z,zeroM,none,0,0⟩) 47):=H6.out.get 0 _ _ _ rfl
  have BXV : Hid (BoxC v6 w.heap.size (rcV zeroR) 47):=BX0.out.only H6.out.onl (by have:=HGW.out;omega)
  have BV : Hid (Below w.heap.size w v6):=Only.below B1.out H6.out.onl (by have:=HGW.out;omega) B1.out.size
  clear H6 BX0 B1
  cases hf : formR (rcT ⟨k,0,0,z,zeroM,none,0,0⟩ noLR)
  ·have cW:=rWrite_no ⟨k,0,0,z,zeroM,none,0,0⟩ noLR v6 XA.out XF.out hf
   have HF:=hid hf
   clear hf
   have NO : Hid (readR l = none):=by cases hr : readR l with | none=>rfl | some y=>exact absurd (readR_inv hr).2 (by rw [← MM.out y hr,HF.out];decide)
   go_wp2_with (first | (go_at_call 11;((with_reducible refine cW.mono ?_);rintro e v8 ⟨rfl,hb8⟩;have B8:=hid (BV.out.trans (hb8.mono BV.out.size));have HZ:=BXV.out.below hb8;clear ldX)) | (refine wpList_store_r rfl _ _ rfl w.heap.size zeroR rfl rfl zeroR HZ ?_))
   have FF:=HZ.fill (rcV zeroR)
   have z0:=FF.cell 0 _ rfl;have z1:=FF.cell 1 _ rfl;have z2:=FF.cell 2 _ rfl;have z3:=FF.cell 3 _ rfl;have z4:=FF.cell 4 _ rfl;have z5:=FF.cell 5 _ rfl;have z6:=FF.cell 6 _ rfl;have z7:=FF.cell 7 _ rfl;have z8:=FF.cell 8 _ rfl;have z9:=FF.cell 9 _ rfl;have z10:=FF.cell 10 _ rfl;have z11:=FF.cell 11 _ rfl;have z12:=FF.cell 12 _ rfl;have z13:=FF.cell 13 _ rfl;have z14:=FF.cell 14 _ rfl
   exact bodyPost_ret (v:=.tuple #[.agg (rcV zeroR),.int .i64 2]) (by simp [results,Tryz.results14,go_sem,z0,z1,z2,z3,z4,z5,z6,z7,z8,z9,z10,z11,z12,z13,z14]) rfl (.inr ⟨rfl,Only.below B8.out (only_fill _ _ _) (Nat.le_refl _) B8.out.size,NO.out⟩)
  ·have cW:=rWrite_yes ⟨k,0,0,z,zeroM,none,0,0⟩ noLR v6 XA.out XF.out hf
   have HF:=hid hf
   clear hf
   by_cases hq : l = rcB (rcT ⟨k,0,0,z,zeroM,none,0,0⟩ noLR)
   ·have YES : Hid (readR l = some (rcT ⟨k,0,0,z,zeroM,none,0,0⟩ noLR)):=(by rw [hq];exact read_back _ ((formR_iff _).1 HF.out) XA.out.ok)
    have hq' : decide (l = rcB (rcT ⟨k,0,0,z,zeroM,none,0,0⟩ noLR)) = true:=decide_eq_true hq
    clear hq
    generalize rcB (rcT ⟨k,0,0,z,zeroM,none,0,0⟩ noLR) = BB at *
    go_wp2_with (first | (go_at_call 11;((with_reducible refine cW.mono ?_);rintro e v8 ⟨a8,n8,c8,rfl,ho8,hb8⟩;have B8:=hid (BV.out.trans (hb8.mono BV.out.size));have Y8:=hid (BXV.out.below hb8);have G8:=hid (HX1.out.below hb8);have hn8 : n8≤maxLen:=(by obtain ⟨q1,q2⟩:=own_caps ho8;exact Nat.le_trans q1 q2);have cS:=same_any a a8 m n8 c c8 _ _ _ _ v8 (HL.out _ B8.out) (BAt.of_own ho8) (by unfold maxLen;omega) hn8;rw [hq'] at cS;clear ldX ho8)) | (go_at_call 19;((with_reducible refine cS.mono ?_);rintro e v9 ⟨rfl,q9,rfl⟩;have B9:=hid (below_drewN q9 B8.out);have HZ:=Y8.out.drewN q9;have ldX:=(G8.out.drewN q9).ldR (x:=⟨k,0,0,z,zeroM,none,0,0⟩);have A9:=hid ((XA.out.later hb8).later (below_drewN q9 (Below.refl _ _))))) | (refine wpList_store_r rfl _ _ rfl w.heap.size ⟨k,0,0,z,zeroM,none,0,0⟩ rfl rfl zeroR HZ ?_))
    have FF:=HZ.fill (rcV ⟨k,0,0,z,zeroM,none,0,0⟩)
    have z0:=FF.cell 0 _ rfl;have z1:=FF.cell 1 _ rfl;have z2:=FF.cell 2 _ rfl;have z3:=FF.cell 3 _ rfl;have z4:=FF.cell 4 _ rfl;have z5:=FF.cell 5 _ rfl;have z6:=FF.cell 6 _ rfl;have z7:=FF.cell 7 _ rfl;have z8:=FF.cell 8 _ rfl;have z9:=FF.cell 9 _ rfl;have z10:=FF.cell 10 _ rfl;have z11:=FF.cell 11 _ rfl;have z12:=FF.cell 12 _ rfl;have z13:=FF.cell 13 _ rfl;have z14:=FF.cell 14 _ rfl
    exact bodyPost_ret (v:=.tuple #[.agg (rcV ⟨k,0,0,z,zeroM,none,0,0⟩),.int .i64 0]) (by simp [results,Tryz.results14,go_sem,z0,z1,z2,z3,z4,z5,z6,z7,z8,z9,z10,z11,z12,z13,z14]) rfl (.inl ⟨⟨k,0,0,z,zeroM,none,0,0⟩,noLR,rfl,Only.below B9.out (only_fill _ _ _) (Nat.le_refl _) B9.out.size,A9.out.keepS XI.out (by rw [setRow_size];exact Nat.le_refl _) (fun b hb _=>setRow_other _ _ _ _ hb),XF.out,XN.out,YES.out⟩)
   ·have hq' : decide (l = rcB (rcT ⟨k,0,0,z,zeroM,none,0,0⟩ noLR)) = false:=decide_eq_false hq
    have NQ:=hid hq
    clear hq
    have MQ : Hid (∀ y,readR l = some y→False):=fun y hr=>NQ.out (by rw [MM.out y hr];exact (read_snd hr).1)
    clear NQ MM
    generalize rcB (rcT ⟨k,0,0,z,zeroM,none,0,0⟩ noLR) = BB at *
    have NO : Hid (readR l = none):=by cases hr : readR l with | none=>rfl | some y=>exact absurd hr (fun h=>MQ.out y h)
    go_wp2_with (first | (go_at_call 11;((with_reducible refine cW.mono ?_);rintro e v8 ⟨a8,n8,c8,rfl,ho8,hb8⟩;have B8:=hid (BV.out.trans (hb8.mono BV.out.size));have Y8:=hid (BXV.out.below hb8);have G8:=hid (HX1.out.below hb8);have hn8 : n8≤maxLen:=(by obtain ⟨q1,q2⟩:=own_caps ho8;exact Nat.le_trans q1 q2);have cS:=same_any a a8 m n8 c c8 _ _ _ _ v8 (HL.out _ B8.out) (BAt.of_own ho8) (by unfold maxLen;omega) hn8;rw [hq'] at cS;clear ldX ho8)) | (go_at_call 19;((with_reducible refine cS.mono ?_);rintro e v9 ⟨rfl,q9,rfl⟩;have B9:=hid (below_drewN q9 B8.out);have HZ:=Y8.out.drewN q9;have ldX:=(G8.out.drewN q9).ldR (x:=⟨k,0,0,z,zeroM,none,0,0⟩);have A9:=hid ((XA.out.later hb8).later (below_drewN q9 (Below.refl _ _))))) | (refine wpList_store_r rfl _ _ rfl w.heap.size zeroR rfl rfl zeroR HZ ?_))
    have FF:=HZ.fill (rcV zeroR)
    have z0:=FF.cell 0 _ rfl;have z1:=FF.cell 1 _ rfl;have z2:=FF.cell 2 _ rfl;have z3:=FF.cell 3 _ rfl;have z4:=FF.cell 4 _ rfl;have z5:=FF.cell 5 _ rfl;have z6:=FF.cell 6 _ rfl;have z7:=FF.cell 7 _ rfl;have z8:=FF.cell 8 _ rfl;have z9:=FF.cell 9 _ rfl;have z10:=FF.cell 10 _ rfl;have z11:=FF.cell 11 _ rfl;have z12:=FF.cell 12 _ rfl;have z13:=FF.cell 13 _ rfl;have z14:=FF.cell 14 _ rfl
    exact bodyPost_ret (v:=.tuple #[.agg (rcV zeroR),.int .i64 2]) (by simp [results,Tryz.results14,go_sem,z0,z1,z2,z3,z4,z5,z6,z7,z8,z9,z10,z11,z12,z13,z14]) rfl (.inr ⟨rfl,Only.below B9.out (only_fill _ _ _) (Nat.le_refl _) B9.out.size,NO.out⟩)
theorem rRead4e (S : Nat→Prop) (a : Option Addr) (m c : Nat) (l : List UInt8) (w : World) (hl : BAt w w.heap.size a m l) (hN : ∀ p,a = some p→S p.block) (hC : ∀ b,w.heap.size≤b→S b) (hmc : m≤c) (hcm : c≤maxLen) (hm : m≤1000000) (hk0 : kindB l = 4) (h9 : ¬ l.length < 9) (hc9 : c = 9) :
  Calls Tryz.prog 14 #[.slice a m c] w (ReadD w S l):=by
 have HK0:=hid hk0
 clear hk0
 have H9:=hid h9
 clear h9
 have HC9:=hid hc9
 clear hc9
 have H0:=hid ((Boxs.start w).more zeroRV 47)
 have s0 : (w.alloc (.cells zeroRV 47)).heap.size = w.heap.size + 1:=by simp
 have hbA : Below (w.alloc (.cells zeroRV 47)).heap.size (w.alloc (.cells zeroRV 47)) ((w.alloc (.cells zeroRV 47)).alloc (.cells #[.slice a m c,.int .i64 0,.bool false] 99)):=(Below.refl _ _).alloc (Nat.le_refl _) _
 have BX0 : Hid (BoxC ((w.alloc (.cells zeroRV 47)).alloc (.cells #[.slice a m c,.int .i64 0,.bool false] 99)) w.heap.size (rcV zeroR) 47):=(H0.out.get 0 _ _ _ rfl).below hbA
 have B1 : Hid (Below w.heap.size w ((w.alloc (.cells zeroRV 47)).alloc (.cells #[.slice a m c,.int .i64 0,.bool false] 99))):=(H0.out.below hbA).bel
 have F0 : Hid (FS w.heap.size (w.heap.size + 1) l (some l) ((w.alloc (.cells zeroRV 47)).alloc (.cells #[.slice a m c,.int .i64 0,.bool false] 99))):=⟨0,⟨a,m,c,by rw [← s0];exact heap_alloc_new _ _,hmc,hcm,(hl.below H0.out.bel (Nat.le_refl _)).alloc H0.out.bel.size _,Nat.zero_le _,by omega⟩,fun l' e=>by injection e with e;rw [← e];rfl⟩
 have HL : Hid (∀ W,Below w.heap.size w W→BAt W w.heap.size a m l):=fun W hW=>hl.below hW (Nat.le_refl _)
 have HNC : Hid (∀ p,a = some p→S p.block):=hN
 have HC:=hid hC
 have hll:=hl.len
 have hcm':=hcm
 unfold maxLen at hcm'
 clear hl hN hC H0 hbA s0
 go_enter Tryz.func14,Tryz.ntmps14
 go_upto_region 2 with (fail)
 generalize (w.alloc (.cells zeroRV 47)).alloc (.cells #[.slice a m c,.int .i64 0,.bool false] 99) = W1 at *
 obtain ⟨g,hg⟩ : ∃ g,g = w.heap.size + 1:=⟨_,rfl⟩
 rw [← hg] at F0 ⊢
 have hgw : w.heap.size < g:=by omega
 have HGW:=hid hgw
 clear hg
 have hg1 : g < W1.heap.size:=F0.out.lt
 have HG1:=hid hg1
 have H1 : Hid (RdO (FS w.heap.size g l (some l)) g W1 W1 [] []):=RdO.start F0.out F0.out.lt
 have c1 : ∀ s W,FS w.heap.size g l s W→Calls Tryz.prog 45 #[.pointer (some ⟨g,0,none⟩),.int .i64 1] W (Took1 (FS w.heap.size g l) g numV (numP 1) 0 s W):=fun s W h=>refTakeS_any w.heap.size g l 1 s W h (by omega)
 have c4 : ∀ s W,FS w.heap.size g l s W→Calls Tryz.prog 45 #[.pointer (some ⟨g,0,none⟩),.int .i64 4] W (Took1 (FS w.heap.size g l) g numV (numP 4) 0 s W):=fun s W h=>refTakeS_any w.heap.size g l 4 s W h (by omega)
 clear F0 hg1 hgw
 go_upto_region 3 with (first | (go_at_call 45;((with_reducible refine (c1 _ _ H1.out.rdr).mono ?_);rintro e w2 ⟨k,st1,rfl,hr1,ho1,hR1,hz1⟩;have H2:=hid (H1.out.only hr1 ho1);have R1:=hid hR1;have hk : k < 256:=num_lt hR1 hz1 (by decide);have ek:=wrap_i64 k (by omega);have HZ : Hid (BoxC (w2.alloc (.cells zeroRV 47)) w2.heap.size (rcV zeroR) 47):=BoxC.new w2 zeroRV 47;have KD:=hid (kind_of hR1 hz1);clear hr1 ho1 hR1 hz1)) | (refine wpList_store_r rfl _ _ rfl w2.heap.size ⟨k,0,0,0,zeroM,none,0,0⟩ rfl rfl zeroR HZ.out ?_))
 have H3 : Hid (RdO (FS w.heap.size g l st1) g W1 ((w2.alloc (.cells zeroRV 47)).setRow w2.heap.size (rcV ⟨k,0,0,0,zeroM,none,0,0⟩)) [(w2.heap.size,rcV ⟨k,0,0,0,zeroM,none,0,0⟩,47)] []):=(H2.out.more zeroRV 47).fillK (fun _ h=>by cases h) _
 clear H1 H2 HZ c1 ek
 generalize (w2.alloc (.cells zeroRV 47)).setRow w2.heap.size (rcV ⟨k,0,0,0,zeroM,none,0,0⟩) = W3 at *
 generalize w2.heap.size = G at *
 have hGge : W1.heap.size≤G:=H3.out.ge 0 _ _ _ rfl
 have HGG:=hid hGge
 clear hGge
 have hl1 : ∀ x ∈ ([] : List (Nat×Array Value×TypeId)),x.1≠G:=fun _ h=>by cases h
 have x0 : W3.cell? ⟨G,0,none⟩ = some (.int .i64 ((k : Nat) : Int)):=(H3.out.get 0 _ _ _ rfl).cell 0 _ rfl
 have NEw : ∀ n : Nat,Hid (W1.heap.size≤n→n≠w.heap.size):=fun n h=>by have:=HG1.out;have:=HGW.out;omega
 have h1 : k = 4:=KD.out.trans HK0.out
 clear KD HK0
 ·have hkk:=hid h1
  have q1 : (((k : Nat) : Int) == 1) = false:=by simp;omega
  have q2 : (((k : Nat) : Int) == 2) = false:=by simp;omega
  have q3 : (((k : Nat) : Int) == 3) = false:=by simp;omega
  have q4 : (((k : Nat) : Int) == 4) = true:=by simp;omega
  have i2 : (2 : Int)≤((k : Nat) : Int):=by omega
  have i2' : decide ((2 : Int)≤((k : Nat) : Int)) = true:=decide_eq_true i2
  clear h1
  go_upto_region 10 with (go_at_call 45;((with_reducible refine (c4 _ _ H3.out.rdr).mono ?_);rintro e v4 ⟨z,tS,rfl,hr,ho,hR,hz⟩;have H4:=hid (H3.out.only hr ho);have RS:=hid hR;have hz4 : z < 4294967296:=num_lt hR hz (by decide);have ez:=wrap_i64 z (by omega);have y0 : v4.cell? ⟨G,0,none⟩ = some (.int .i64 ((k : Nat) : Int)):=(H4.out.get 0 _ _ _ rfl).cell 0 _ rfl;have y3:=(H4.out.get 0 _ _ _ rfl).cell 3 _ rfl;have f3:=(H4.out.get 0 _ _ _ rfl).frozen 3;clear hr ho hR hz))
  have H5 : Hid (RdO (FS w.heap.size g l tS) g W1 (v4.setCell ⟨G,3,none⟩ (.int .i64 ((z : Nat) : Int))) [(G,rcV ⟨k,0,0,z,zeroM,none,0,0⟩,47)] []):=(H4.out.set hl1 3 (.int .i64 ((z : Nat) : Int)))
  clear H3 H4 y0 y3 f3 ez x0 
  generalize (v4.setCell ⟨G,3,none⟩ (.int .i64 ((z : Nat) : Int))) = V5 at *
  have x0 : V5.cell? ⟨G,0,none⟩ = some (.int .i64 ((k : Nat) : Int)):=(H5.out.get 0 _ _ _ rfl).cell 0 _ rfl
  go_upto_region 11 with (go_at_call 45;((with_reducible refine (c4 _ _ H5.out.rdr).mono ?_);rintro e v6 ⟨z4,tD,rfl,hr,ho,hR,hz⟩;have H6:=hid (H5.out.only hr ho);have RD:=hid hR;clear hr ho hR hz))
  clear H5 x0
  have x0 : v6.cell? ⟨G,0,none⟩ = some (.int .i64 ((k : Nat) : Int)):=(H6.out.get 0 _ _ _ rfl).cell 0 _ rfl
  obtain ⟨q91,q92⟩:=len_nine R1.out RS.out RD.out
  obtain ⟨st5,hD5⟩:=doc_data RD.out
  have RD5:=hid hD5
  clear hD5 RD
  obtain ⟨dd,rfl⟩ : ∃ dd,tD = some dd:=by cases tD with | none=>exact absurd (q91 rfl) H9.out | some r=>exact ⟨r,rfl⟩
  obtain ⟨g9,ed9⟩:=q92 dd rfl
  clear q91 q92
  obtain ⟨fl,ff⟩:=H6.out.rdr.flag
  obtain ⟨at0,e1,e2,hat⟩:=H6.out.rdr.at_
  obtain rfl : 9 = at0:=by have h5:=congrArg List.length e2;rw [ed9,List.length_drop,List.length_drop] at h5;omega
  clear e2 hat
  obtain ⟨b1,off1,rfl,hb1⟩:=(HL.out w (Below.refl _ _)).addr (by omega)
  have HB1 : Hid (b1 < w.heap.size∧S b1):=⟨hb1,HNC.out _ rfl⟩
  have hatm : 9≤m:=by omega
  have hdr:=fun W (hW : Below w.heap.size w W)=>(HL.out _ hW).drop (k:=9) (cap:=c) hatm hmc
  rw [← ed9] at hdr
  have ia2 : (9 : Int)≤((m : Nat) : Int):=by omega
  have ia3 : ((m : Nat) : Int)≤((c : Nat) : Int):=by omega
  clear ed9 hb1 g9
  have y14:=(H6.out.get 0 _ _ _ rfl).cell 14 _ rfl
  have f14:=(H6.out.get 0 _ _ _ rfl).frozen 14
  have hc9:=HC9.out
  clear HC9
  rw [if_pos hc9] at hdr
  subst hc9
  obtain rfl : m = 9:=by omega
  rw [Nat.sub_self] at hdr
  have DD:=hid hdr
  clear hdr
  go_upto_region 13 with (fail)
  have H7 : Hid (RdO (FS w.heap.size g l (some dd)) g W1 (v6.setCell ⟨G,14,none⟩ (.slice (some ⟨b1,off1,none⟩) 0 0)) [(G,rcV ⟨k,0,0,z,zeroM,(some ⟨b1,off1,none⟩),0,0⟩,47)] []):=(H6.out.set hl1 14 (.slice (some ⟨b1,off1,none⟩) 0 0))
  clear H6 x0 y14 f14 e1
  generalize (v6.setCell ⟨G,14,none⟩ (.slice (some ⟨b1,off1,none⟩) 0 0)) = V7 at *
  have x0 : V7.cell? ⟨G,0,none⟩ = some (.int .i64 ((k : Nat) : Int)):=(H7.out.get 0 _ _ _ rfl).cell 0 _ rfl
  have XA : Hid (RcAt V7 ⟨k,0,0,z,zeroM,(some ⟨b1,off1,none⟩),0,0⟩ ⟨[],[],dd⟩):=⟨CmAt.zero,(DD.out _ (Only.below B1.out H7.out.onl (by have:=HGW.out;omega) B1.out.size)).more (Only.below B1.out H7.out.onl (by have:=HGW.out;omega) B1.out.size).size,by show 0 < 4294967296;decide⟩
  have XF : Hid (RcF ⟨k,0,0,z,zeroM,(some ⟨b1,off1,none⟩),0,0⟩):=⟨Nat.zero_le _,Nat.zero_le _,by show 0≤1000000;omega⟩
  have XN : Hid (InR S ⟨k,0,0,z,zeroM,(some ⟨b1,off1,none⟩),0,0⟩):=⟨.inl rfl,.inl rfl,.inr fun p e=>by injection e with e;subst e;exact HB1.out.2⟩
  have XI : Hid (InR (fun b=>b≠w.heap.size) ⟨k,0,0,z,zeroM,(some ⟨b1,off1,none⟩),0,0⟩):=⟨.inl rfl,.inl rfl,.inr fun p e=>by injection e with e;subst e;exact Nat.ne_of_lt HB1.out.1⟩
  have MM : Hid (∀ y,readR l = some y→rcT ⟨k,0,0,z,zeroM,(some ⟨b1,off1,none⟩),0,0⟩ ⟨[],[],dd⟩ = y):=fun y hy=>read_res (rc_four R1.out hkk.out RS.out RD5.out) hy
  have ldX:=(H7.out.get 0 _ _ _ rfl).ldR (x:=⟨k,0,0,z,zeroM,(some ⟨b1,off1,none⟩),0,0⟩)
  have HX1 : Hid (BoxC V7 G (rcV ⟨k,0,0,z,zeroM,(some ⟨b1,off1,none⟩),0,0⟩) 47):=H7.out.get 0 _ _ _ rfl
  have BXV : Hid (BoxC V7 w.heap.size (rcV zeroR) 47):=BX0.out.only H7.out.onl (by have:=HGW.out;omega)
  have BV : Hid (Below w.heap.size w V7):=Only.below B1.out H7.out.onl (by have:=HGW.out;omega) B1.out.size
  clear H7 BX0 B1
  cases hf : formR (rcT ⟨k,0,0,z,zeroM,(some ⟨b1,off1,none⟩),0,0⟩ ⟨[],[],dd⟩)
  ·have cW:=rWrite_no ⟨k,0,0,z,zeroM,(some ⟨b1,off1,none⟩),0,0⟩ ⟨[],[],dd⟩ V7 XA.out XF.out hf
   have HF:=hid hf
   clear hf
   have NO : Hid (readR l = none):=by cases hr : readR l with | none=>rfl | some y=>exact absurd (readR_inv hr).2 (by rw [← MM.out y hr,HF.out];decide)
   go_wp2_with (first | (go_at_call 11;((with_reducible refine cW.mono ?_);rintro e v8 ⟨rfl,hb8⟩;have B8:=hid (BV.out.trans (hb8.mono BV.out.size));have HZ:=BXV.out.below hb8;clear ldX)) | (refine wpList_store_r rfl _ _ rfl w.heap.size zeroR rfl rfl zeroR HZ ?_))
   have FF:=HZ.fill (rcV zeroR)
   have z0:=FF.cell 0 _ rfl;have z1:=FF.cell 1 _ rfl;have z2:=FF.cell 2 _ rfl;have z3:=FF.cell 3 _ rfl;have z4:=FF.cell 4 _ rfl;have z5:=FF.cell 5 _ rfl;have z6:=FF.cell 6 _ rfl;have z7:=FF.cell 7 _ rfl;have z8:=FF.cell 8 _ rfl;have z9:=FF.cell 9 _ rfl;have z10:=FF.cell 10 _ rfl;have z11:=FF.cell 11 _ rfl;have z12:=FF.cell 12 _ rfl;have z13:=FF.cell 13 _ rfl;have z14:=FF.cell 14 _ rfl
   exact bodyPost_ret (v:=.tuple #[.agg (rcV zeroR),.int .i64 2]) (by simp [results,Tryz.results14,go_sem,z0,z1,z2,z3,z4,z5,z6,z7,z8,z9,z10,z11,z12,z13,z14]) rfl (.inr ⟨rfl,Only.below B8.out (only_fill _ _ _) (Nat.le_refl _) B8.out.size,NO.out⟩)
  ·have cW:=rWrite_yes ⟨k,0,0,z,zeroM,(some ⟨b1,off1,none⟩),0,0⟩ ⟨[],[],dd⟩ V7 XA.out XF.out hf
   have HF:=hid hf
   clear hf
   by_cases hq : l = rcB (rcT ⟨k,0,0,z,zeroM,(some ⟨b1,off1,none⟩),0,0⟩ ⟨[],[],dd⟩)
   ·have YES : Hid (readR l = some (rcT ⟨k,0,0,z,zeroM,(some ⟨b1,off1,none⟩),0,0⟩ ⟨[],[],dd⟩)):=(by rw [hq];exact read_back _ ((formR_iff _).1 HF.out) XA.out.ok)
    have hq' : decide (l = rcB (rcT ⟨k,0,0,z,zeroM,(some ⟨b1,off1,none⟩),0,0⟩ ⟨[],[],dd⟩)) = true:=decide_eq_true hq
    clear hq
    generalize rcB (rcT ⟨k,0,0,z,zeroM,(some ⟨b1,off1,none⟩),0,0⟩ ⟨[],[],dd⟩) = BB at *
    go_wp2_with (first | (go_at_call 11;((with_reducible refine cW.mono ?_);rintro e v8 ⟨a8,n8,c8,rfl,ho8,hb8⟩;have B8:=hid (BV.out.trans (hb8.mono BV.out.size));have Y8:=hid (BXV.out.below hb8);have G8:=hid (HX1.out.below hb8);have hn8 : n8≤maxLen:=(by obtain ⟨q1,q2⟩:=own_caps ho8;exact Nat.le_trans q1 q2);have cS:=same_any (some ⟨b1,off1,none⟩) a8 9 n8 9 c8 _ _ _ _ v8 (HL.out _ B8.out) (BAt.of_own ho8) (by unfold maxLen;omega) hn8;rw [hq'] at cS;clear ldX ho8)) | (go_at_call 19;((with_reducible refine cS.mono ?_);rintro e v9 ⟨rfl,q9,rfl⟩;have B9:=hid (below_drewN q9 B8.out);have HZ:=Y8.out.drewN q9;have ldX:=(G8.out.drewN q9).ldR (x:=⟨k,0,0,z,zeroM,(some ⟨b1,off1,none⟩),0,0⟩);have A9:=hid ((XA.out.later hb8).later (below_drewN q9 (Below.refl _ _))))) | (refine wpList_store_r rfl _ _ rfl w.heap.size ⟨k,0,0,z,zeroM,(some ⟨b1,off1,none⟩),0,0⟩ rfl rfl zeroR HZ ?_))
    have FF:=HZ.fill (rcV ⟨k,0,0,z,zeroM,(some ⟨b1,off1,none⟩),0,0⟩)
    have z0:=FF.cell 0 _ rfl;have z1:=FF.cell 1 _ rfl;have z2:=FF.cell 2 _ rfl;have z3:=FF.cell 3 _ rfl;have z4:=FF.cell 4 _ rfl;have z5:=FF.cell 5 _ rfl;have z6:=FF.cell 6 _ rfl;have z7:=FF.cell 7 _ rfl;have z8:=FF.cell 8 _ rfl;have z9:=FF.cell 9 _ rfl;have z10:=FF.cell 10 _ rfl;have z11:=FF.cell 11 _ rfl;have z12:=FF.cell 12 _ rfl;have z13:=FF.cell 13 _ rfl;have z14:=FF.cell 14 _ rfl
    exact bodyPost_ret (v:=.tuple #[.agg (rcV ⟨k,0,0,z,zeroM,(some ⟨b1,off1,none⟩),0,0⟩),.int .i64 0]) (by simp [results,Tryz.results14,go_sem,z0,z1,z2,z3,z4,z5,z6,z7,z8,z9,z10,z11,z12,z13,z14]) rfl (.inl ⟨⟨k,0,0,z,zeroM,(some ⟨b1,off1,none⟩),0,0⟩,⟨[],[],dd⟩,rfl,Only.below B9.out (only_fill _ _ _) (Nat.le_refl _) B9.out.size,A9.out.keepS XI.out (by rw [setRow_size];exact Nat.le_refl _) (fun b hb _=>setRow_other _ _ _ _ hb),XF.out,XN.out,YES.out⟩)
   ·have hq' : decide (l = rcB (rcT ⟨k,0,0,z,zeroM,(some ⟨b1,off1,none⟩),0,0⟩ ⟨[],[],dd⟩)) = false:=decide_eq_false hq
    have NQ:=hid hq
    clear hq
    have MQ : Hid (∀ y,readR l = some y→False):=fun y hr=>NQ.out (by rw [MM.out y hr];exact (read_snd hr).1)
    clear NQ MM
    generalize rcB (rcT ⟨k,0,0,z,zeroM,(some ⟨b1,off1,none⟩),0,0⟩ ⟨[],[],dd⟩) = BB at *
    have NO : Hid (readR l = none):=by cases hr : readR l with | none=>rfl | some y=>exact absurd hr (fun h=>MQ.out y h)
    go_wp2_with (first | (go_at_call 11;((with_reducible refine cW.mono ?_);rintro e v8 ⟨a8,n8,c8,rfl,ho8,hb8⟩;have B8:=hid (BV.out.trans (hb8.mono BV.out.size));have Y8:=hid (BXV.out.below hb8);have G8:=hid (HX1.out.below hb8);have hn8 : n8≤maxLen:=(by obtain ⟨q1,q2⟩:=own_caps ho8;exact Nat.le_trans q1 q2);have cS:=same_any (some ⟨b1,off1,none⟩) a8 9 n8 9 c8 _ _ _ _ v8 (HL.out _ B8.out) (BAt.of_own ho8) (by unfold maxLen;omega) hn8;rw [hq'] at cS;clear ldX ho8)) | (go_at_call 19;((with_reducible refine cS.mono ?_);rintro e v9 ⟨rfl,q9,rfl⟩;have B9:=hid (below_drewN q9 B8.out);have HZ:=Y8.out.drewN q9;have ldX:=(G8.out.drewN q9).ldR (x:=⟨k,0,0,z,zeroM,(some ⟨b1,off1,none⟩),0,0⟩);have A9:=hid ((XA.out.later hb8).later (below_drewN q9 (Below.refl _ _))))) | (refine wpList_store_r rfl _ _ rfl w.heap.size zeroR rfl rfl zeroR HZ ?_))
    have FF:=HZ.fill (rcV zeroR)
    have z0:=FF.cell 0 _ rfl;have z1:=FF.cell 1 _ rfl;have z2:=FF.cell 2 _ rfl;have z3:=FF.cell 3 _ rfl;have z4:=FF.cell 4 _ rfl;have z5:=FF.cell 5 _ rfl;have z6:=FF.cell 6 _ rfl;have z7:=FF.cell 7 _ rfl;have z8:=FF.cell 8 _ rfl;have z9:=FF.cell 9 _ rfl;have z10:=FF.cell 10 _ rfl;have z11:=FF.cell 11 _ rfl;have z12:=FF.cell 12 _ rfl;have z13:=FF.cell 13 _ rfl;have z14:=FF.cell 14 _ rfl
    exact bodyPost_ret (v:=.tuple #[.agg (rcV zeroR),.int .i64 2]) (by simp [results,Tryz.results14,go_sem,z0,z1,z2,z3,z4,z5,z6,z7,z8,z9,z10,z11,z12,z13,z14]) rfl (.inr ⟨rfl,Only.below B9.out (only_fill _ _ _) (Nat.le_refl _) B9.out.size,NO.out⟩)
theorem rRead4d (S : Nat→Prop) (a : Option Addr) (m c : Nat) (l : List UInt8) (w : World) (hl : BAt w w.heap.size a m l) (hN : ∀ p,a = some p→S p.block) (hC : ∀ b,w.heap.size≤b→S b) (hmc : m≤c) (hcm : c≤maxLen) (hm : m≤1000000) (hk0 : kindB l = 4) (h9 : ¬ l.length < 9) (hc9 : ¬ c = 9) :
  Calls Tryz.prog 14 #[.slice a m c] w (ReadD w S l):=by
 have HK0:=hid hk0
 clear hk0
 have H9:=hid h9
 clear h9
 have HC9:=hid hc9
 clear hc9
 have H0:=hid ((Boxs.start w).more zeroRV 47)
 have s0 : (w.alloc (.cells zeroRV 47)).heap.size = w.heap.size + 1:=by simp
 have hbA : Below (w.alloc (.cells zeroRV 47)).heap.size (w.alloc (.cells zeroRV 47)) ((w.alloc (.cells zeroRV 47)).alloc (.cells #[.slice a m c,.int .i64 0,.bool false] 99)):=(Below.refl _ _).alloc (Nat.le_refl _) _
 have BX0 : Hid (BoxC ((w.alloc (.cells zeroRV 47)).alloc (.cells #[.slice a m c,.int .i64 0,.bool false] 99)) w.heap.size (rcV zeroR) 47):=(H0.out.get 0 _ _ _ rfl).below hbA
 have B1 : Hid (Below w.heap.size w ((w.alloc (.cells zeroRV 47)).alloc (.cells #[.slice a m c,.int .i64 0,.bool false] 99))):=(H0.out.below hbA).bel
 have F0 : Hid (FS w.heap.size (w.heap.size + 1) l (some l) ((w.alloc (.cells zeroRV 47)).alloc (.cells #[.slice a m c,.int .i64 0,.bool false] 99))):=⟨0,⟨a,m,c,by rw [← s0];exact heap_alloc_new _ _,hmc,hcm,(hl.below H0.out.bel (Nat.le_refl _)).alloc H0.out.bel.size _,Nat.zero_le _,by omega⟩,fun l' e=>by injection e with e;rw [← e];rfl⟩
 have HL : Hid (∀ W,Below w.heap.size w W→BAt W w.heap.size a m l):=fun W hW=>hl.below hW (Nat.le_refl _)
 have HNC : Hid (∀ p,a = some p→S p.block):=hN
 have HC:=hid hC
 have hll:=hl.len
 have hcm':=hcm
 unfold maxLen at hcm'
 clear hl hN hC H0 hbA s0
 go_enter Tryz.func14,Tryz.ntmps14
 go_upto_region 2 with (fail)
 generalize (w.alloc (.cells zeroRV 47)).alloc (.cells #[.slice a m c,.int .i64 0,.bool false] 99) = W1 at *
 obtain ⟨g,hg⟩ : ∃ g,g = w.heap.size + 1:=⟨_,rfl⟩
 rw [← hg] at F0 ⊢
 have hgw : w.heap.size < g:=by omega
 have HGW:=hid hgw
 clear hg
 have hg1 : g < W1.heap.size:=F0.out.lt
 have HG1:=hid hg1
 have H1 : Hid (RdO (FS w.heap.size g l (some l)) g W1 W1 [] []):=RdO.start F0.out F0.out.lt
 have c1 : ∀ s W,FS w.heap.size g l s W→Calls Tryz.prog 45 #[.pointer (some ⟨g,0,none⟩),.int .i64 1] W (Took1 (FS w.heap.size g l) g numV (numP 1) 0 s W):=fun s W h=>refTakeS_any w.heap.size g l 1 s W h (by omega)
 have c4 : ∀ s W,FS w.heap.size g l s W→Calls Tryz.prog 45 #[.pointer (some ⟨g,0,none⟩),.int .i64 4] W (Took1 (FS w.heap.size g l) g numV (numP 4) 0 s W):=fun s W h=>refTakeS_any w.heap.size g l 4 s W h (by omega)
 clear F0 hg1 hgw
 go_upto_region 3 with (first | (go_at_call 45;((with_reducible refine (c1 _ _ H1.out.rdr).mono ?_);rintro e w2 ⟨k,st1,rfl,hr1,ho1,hR1,hz1⟩;have H2:=hid (H1.out.only hr1 ho1);have R1:=hid hR1;have hk : k < 256:=num_lt hR1 hz1 (by decide);have ek:=wrap_i64 k (by omega);have HZ : Hid (BoxC (w2.alloc (.cells zeroRV 47)) w2.heap.size (rcV zeroR) 47):=BoxC.new w2 zeroRV 47;have KD:=hid (kind_of hR1 hz1);clear hr1 ho1 hR1 hz1)) | (refine wpList_store_r rfl _ _ rfl w2.heap.size ⟨k,0,0,0,zeroM,none,0,0⟩ rfl rfl zeroR HZ.out ?_))
 have H3 : Hid (RdO (FS w.heap.size g l st1) g W1 ((w2.alloc (.cells zeroRV 47)).setRow w2.heap.size (rcV ⟨k,0,0,0,zeroM,none,0,0⟩)) [(w2.heap.size,rcV ⟨k,0,0,0,zeroM,none,0,0⟩,47)] []):=(H2.out.more zeroRV 47).fillK (fun _ h=>by cases h) _
 clear H1 H2 HZ c1 ek
 generalize (w2.alloc (.cells zeroRV 47)).setRow w2.heap.size (rcV ⟨k,0,0,0,zeroM,none,0,0⟩) = W3 at *
 generalize w2.heap.size = G at *
 have hGge : W1.heap.size≤G:=H3.out.ge 0 _ _ _ rfl
 have HGG:=hid hGge
 clear hGge
 have hl1 : ∀ x ∈ ([] : List (Nat×Array Value×TypeId)),x.1≠G:=fun _ h=>by cases h
 have x0 : W3.cell? ⟨G,0,none⟩ = some (.int .i64 ((k : Nat) : Int)):=(H3.out.get 0 _ _ _ rfl).cell 0 _ rfl
 have NEw : ∀ n : Nat,Hid (W1.heap.size≤n→n≠w.heap.size):=fun n h=>by have:=HG1.out;have:=HGW.out;omega
 have h1 : k = 4:=KD.out.trans HK0.out
 clear KD HK0
 ·have hkk:=hid h1
  have q1 : (((k : Nat) : Int) == 1) = false:=by simp;omega
  have q2 : (((k : Nat) : Int) == 2) = false:=by simp;omega
  have q3 : (((k : Nat) : Int) == 3) = false:=by simp;omega
  have q4 : (((k : Nat) : Int) == 4) = true:=by simp;omega
  have i2 : (2 : Int)≤((k : Nat) : Int):=by omega
  have i2' : decide ((2 : Int)≤((k : Nat) : Int)) = true:=decide_eq_true i2
  clear h1
  go_upto_region 10 with (go_at_call 45;((with_reducible refine (c4 _ _ H3.out.rdr).mono ?_);rintro e v4 ⟨z,tS,rfl,hr,ho,hR,hz⟩;have H4:=hid (H3.out.only hr ho);have RS:=hid hR;have hz4 : z < 4294967296:=num_lt hR hz (by decide);have ez:=wrap_i64 z (by omega);have y0 : v4.cell? ⟨G,0,none⟩ = some (.int .i64 ((k : Nat) : Int)):=(H4.out.get 0 _ _ _ rfl).cell 0 _ rfl;have y3:=(H4.out.get 0 _ _ _ rfl).cell 3 _ rfl;have f3:=(H4.out.get 0 _ _ _ rfl).frozen 3;clear hr ho hR hz))
  have H5 : Hid (RdO (FS w.heap.size g l tS) g W1 (v4.setCell ⟨G,3,none⟩ (.int .i64 ((z : Nat) : Int))) [(G,rcV ⟨k,0,0,z,zeroM,none,0,0⟩,47)] []):=(H4.out.set hl1 3 (.int .i64 ((z : Nat) : Int)))
  clear H3 H4 y0 y3 f3 ez x0 
  generalize (v4.setCell ⟨G,3,none⟩ (.int .i64 ((z : Nat) : Int))) = V5 at *
  have x0 : V5.cell? ⟨G,0,none⟩ = some (.int .i64 ((k : Nat) : Int)):=(H5.out.get 0 _ _ _ rfl).cell 0 _ rfl
  go_upto_region 11 with (go_at_call 45;((with_reducible refine (c4 _ _ H5.out.rdr).mono ?_);rintro e v6 ⟨z4,tD,rfl,hr,ho,hR,hz⟩;have H6:=hid (H5.out.only hr ho);have RD:=hid hR;clear hr ho hR hz))
  clear H5 x0
  have x0 : v6.cell? ⟨G,0,none⟩ = some (.int .i64 ((k : Nat) : Int)):=(H6.out.get 0 _ _ _ rfl).cell 0 _ rfl
  obtain ⟨q91,q92⟩:=len_nine R1.out RS.out RD.out
  obtain ⟨st5,hD5⟩:=doc_data RD.out
  have RD5:=hid hD5
  clear hD5 RD
  obtain ⟨dd,rfl⟩ : ∃ dd,tD = some dd:=by cases tD with | none=>exact absurd (q91 rfl) H9.out | some r=>exact ⟨r,rfl⟩
  obtain ⟨g9,ed9⟩:=q92 dd rfl
  clear q91 q92
  obtain ⟨fl,ff⟩:=H6.out.rdr.flag
  obtain ⟨at0,e1,e2,hat⟩:=H6.out.rdr.at_
  obtain rfl : 9 = at0:=by have h5:=congrArg List.length e2;rw [ed9,List.length_drop,List.length_drop] at h5;omega
  clear e2 hat
  obtain ⟨b1,off1,rfl,hb1⟩:=(HL.out w (Below.refl _ _)).addr (by omega)
  have HB1 : Hid (b1 < w.heap.size∧S b1):=⟨hb1,HNC.out _ rfl⟩
  have hatm : 9≤m:=by omega
  have hdr:=fun W (hW : Below w.heap.size w W)=>(HL.out _ hW).drop (k:=9) (cap:=c) hatm hmc
  rw [← ed9] at hdr
  have ia2 : (9 : Int)≤((m : Nat) : Int):=by omega
  have ia3 : ((m : Nat) : Int)≤((c : Nat) : Int):=by omega
  clear ed9 hb1 g9
  have y14:=(H6.out.get 0 _ _ _ rfl).cell 14 _ rfl
  have f14:=(H6.out.get 0 _ _ _ rfl).frozen 14
  rw [if_neg HC9.out,Option.map_some,add_plain] at hdr
  have DD:=hid hdr
  clear hdr
  have hc9:=HC9.out
  go_upto_region 13 with (fail)
  have H7 : Hid (RdO (FS w.heap.size g l (some dd)) g W1 (v6.setCell ⟨G,14,none⟩ (.slice (some ⟨b1,off1 + 9,none⟩) (m - 9) (c - 9))) [(G,rcV ⟨k,0,0,z,zeroM,(some ⟨b1,off1 + 9,none⟩),(m - 9),(c - 9)⟩,47)] []):=(H6.out.set hl1 14 (.slice (some ⟨b1,off1 + 9,none⟩) (m - 9) (c - 9)))
  clear H6 x0 y14 f14 e1
  generalize (v6.setCell ⟨G,14,none⟩ (.slice (some ⟨b1,off1 + 9,none⟩) (m - 9) (c - 9))) = V7 at *
  have x0 : V7.cell? ⟨G,0,none⟩ = some (.int .i64 ((k : Nat) : Int)):=(H7.out.get 0 _ _ _ rfl).cell 0 _ rfl
  have XA : Hid (RcAt V7 ⟨k,0,0,z,zeroM,(some ⟨b1,off1 + 9,none⟩),(m - 9),(c - 9)⟩ ⟨[],[],dd⟩):=⟨CmAt.zero,(DD.out _ (Only.below B1.out H7.out.onl (by have:=HGW.out;omega) B1.out.size)).more (Only.below B1.out H7.out.onl (by have:=HGW.out;omega) B1.out.size).size,by show 0 < 4294967296;decide⟩
  have XF : Hid (RcF ⟨k,0,0,z,zeroM,(some ⟨b1,off1 + 9,none⟩),(m - 9),(c - 9)⟩):=⟨Nat.zero_le _,Nat.zero_le _,by show (m - 9)≤1000000;omega⟩
  have XN : Hid (InR S ⟨k,0,0,z,zeroM,(some ⟨b1,off1 + 9,none⟩),(m - 9),(c - 9)⟩):=⟨.inl rfl,.inl rfl,.inr fun p e=>by injection e with e;subst e;exact HB1.out.2⟩
  have XI : Hid (InR (fun b=>b≠w.heap.size) ⟨k,0,0,z,zeroM,(some ⟨b1,off1 + 9,none⟩),(m - 9),(c - 9)⟩):=⟨.inl rfl,.inl rfl,.inr fun p e=>by injection e with e;subst e;exact Nat.ne_of_lt HB1.out.1⟩
  have MM : Hid (∀ y,readR l = some y→rcT ⟨k,0,0,z,zeroM,(some ⟨b1,off1 + 9,none⟩),(m - 9),(c - 9)⟩ ⟨[],[],dd⟩ = y):=fun y hy=>read_res (rc_four R1.out hkk.out RS.out RD5.out) hy
  have ldX:=(H7.out.get 0 _ _ _ rfl).ldR (x:=⟨k,0,0,z,zeroM,(some ⟨b1,off1 + 9,none⟩),(m - 9),(c - 9)⟩)
  have HX1 : Hid (BoxC V7 G (rcV ⟨k,0,0,z,zeroM,(some ⟨b1,off1 + 9,none⟩),(m - 9),(c - 9)⟩) 47):=H7.out.get 0 _ _ _ rfl
  have BXV : Hid (BoxC V7 w.heap.size (rcV zeroR) 47):=BX0.out.only H7.out.onl (by have:=HGW.out;omega)
  have BV : Hid (Below w.heap.size w V7):=Only.below B1.out H7.out.onl (by have:=HGW.out;omega) B1.out.size
  clear H7 BX0 B1
  cases hf : formR (rcT ⟨k,0,0,z,zeroM,(some ⟨b1,off1 + 9,none⟩),(m - 9),(c - 9)⟩ ⟨[],[],dd⟩)
  ·have cW:=rWrite_no ⟨k,0,0,z,zeroM,(some ⟨b1,off1 + 9,none⟩),(m - 9),(c - 9)⟩ ⟨[],[],dd⟩ V7 XA.out XF.out hf
   have HF:=hid hf
   clear hf
   have NO : Hid (readR l = none):=by cases hr : readR l with | none=>rfl | some y=>exact absurd (readR_inv hr).2 (by rw [← MM.out y hr,HF.out];decide)
   go_wp2_with (first | (go_at_call 11;((with_reducible refine cW.mono ?_);rintro e v8 ⟨rfl,hb8⟩;have B8:=hid (BV.out.trans (hb8.mono BV.out.size));have HZ:=BXV.out.below hb8;clear ldX)) | (refine wpList_store_r rfl _ _ rfl w.heap.size zeroR rfl rfl zeroR HZ ?_))
   have FF:=HZ.fill (rcV zeroR)
   have z0:=FF.cell 0 _ rfl;have z1:=FF.cell 1 _ rfl;have z2:=FF.cell 2 _ rfl;have z3:=FF.cell 3 _ rfl;have z4:=FF.cell 4 _ rfl;have z5:=FF.cell 5 _ rfl;have z6:=FF.cell 6 _ rfl;have z7:=FF.cell 7 _ rfl;have z8:=FF.cell 8 _ rfl;have z9:=FF.cell 9 _ rfl;have z10:=FF.cell 10 _ rfl;have z11:=FF.cell 11 _ rfl;have z12:=FF.cell 12 _ rfl;have z13:=FF.cell 13 _ rfl;have z14:=FF.cell 14 _ rfl
   exact bodyPost_ret (v:=.tuple #[.agg (rcV zeroR),.int .i64 2]) (by simp [results,Tryz.results14,go_sem,z0,z1,z2,z3,z4,z5,z6,z7,z8,z9,z10,z11,z12,z13,z14]) rfl (.inr ⟨rfl,Only.below B8.out (only_fill _ _ _) (Nat.le_refl _) B8.out.size,NO.out⟩)
  ·have cW:=rWrite_yes ⟨k,0,0,z,zeroM,(some ⟨b1,off1 + 9,none⟩),(m - 9),(c - 9)⟩ ⟨[],[],dd⟩ V7 XA.out XF.out hf
   have HF:=hid hf
   clear hf
   by_cases hq : l = rcB (rcT ⟨k,0,0,z,zeroM,(some ⟨b1,off1 + 9,none⟩),(m - 9),(c - 9)⟩ ⟨[],[],dd⟩)
   ·have YES : Hid (readR l = some (rcT ⟨k,0,0,z,zeroM,(some ⟨b1,off1 + 9,none⟩),(m - 9),(c - 9)⟩ ⟨[],[],dd⟩)):=(by rw [hq];exact read_back _ ((formR_iff _).1 HF.out) XA.out.ok)
    have hq' : decide (l = rcB (rcT ⟨k,0,0,z,zeroM,(some ⟨b1,off1 + 9,none⟩),(m - 9),(c - 9)⟩ ⟨[],[],dd⟩)) = true:=decide_eq_true hq
    clear hq
    generalize rcB (rcT ⟨k,0,0,z,zeroM,(some ⟨b1,off1 + 9,none⟩),(m - 9),(c - 9)⟩ ⟨[],[],dd⟩) = BB at *
    go_wp2_with (first | (go_at_call 11;((with_reducible refine cW.mono ?_);rintro e v8 ⟨a8,n8,c8,rfl,ho8,hb8⟩;have B8:=hid (BV.out.trans (hb8.mono BV.out.size));have Y8:=hid (BXV.out.below hb8);have G8:=hid (HX1.out.below hb8);have hn8 : n8≤maxLen:=(by obtain ⟨q1,q2⟩:=own_caps ho8;exact Nat.le_trans q1 q2);have cS:=same_any (some ⟨b1,off1,none⟩) a8 m n8 c c8 _ _ _ _ v8 (HL.out _ B8.out) (BAt.of_own ho8) (by unfold maxLen;omega) hn8;rw [hq'] at cS;clear ldX ho8)) | (go_at_call 19;((with_reducible refine cS.mono ?_);rintro e v9 ⟨rfl,q9,rfl⟩;have B9:=hid (below_drewN q9 B8.out);have HZ:=Y8.out.drewN q9;have ldX:=(G8.out.drewN q9).ldR (x:=⟨k,0,0,z,zeroM,(some ⟨b1,off1 + 9,none⟩),(m - 9),(c - 9)⟩);have A9:=hid ((XA.out.later hb8).later (below_drewN q9 (Below.refl _ _))))) | (refine wpList_store_r rfl _ _ rfl w.heap.size ⟨k,0,0,z,zeroM,(some ⟨b1,off1 + 9,none⟩),(m - 9),(c - 9)⟩ rfl rfl zeroR HZ ?_))
    have FF:=HZ.fill (rcV ⟨k,0,0,z,zeroM,(some ⟨b1,off1 + 9,none⟩),(m - 9),(c - 9)⟩)
    have z0:=FF.cell 0 _ rfl;have z1:=FF.cell 1 _ rfl;have z2:=FF.cell 2 _ rfl;have z3:=FF.cell 3 _ rfl;have z4:=FF.cell 4 _ rfl;have z5:=FF.cell 5 _ rfl;have z6:=FF.cell 6 _ rfl;have z7:=FF.cell 7 _ rfl;have z8:=FF.cell 8 _ rfl;have z9:=FF.cell 9 _ rfl;have z10:=FF.cell 10 _ rfl;have z11:=FF.cell 11 _ rfl;have z12:=FF.cell 12 _ rfl;have z13:=FF.cell 13 _ rfl;have z14:=FF.cell 14 _ rfl
    exact bodyPost_ret (v:=.tuple #[.agg (rcV ⟨k,0,0,z,zeroM,(some ⟨b1,off1 + 9,none⟩),(m - 9),(c - 9)⟩),.int .i64 0]) (by simp [results,Tryz.results14,go_sem,z0,z1,z2,z3,z4,z5,z6,z7,z8,z9,z10,z11,z12,z13,z14]) rfl (.inl ⟨⟨k,0,0,z,zeroM,(some ⟨b1,off1 + 9,none⟩),(m - 9),(c - 9)⟩,⟨[],[],dd⟩,rfl,Only.below B9.out (only_fill _ _ _) (Nat.le_refl _) B9.out.size,A9.out.keepS XI.out (by rw [setRow_size];exact Nat.le_refl _) (fun b hb _=>setRow_other _ _ _ _ hb),XF.out,XN.out,YES.out⟩)
   ·have hq' : decide (l = rcB (rcT ⟨k,0,0,z,zeroM,(some ⟨b1,off1 + 9,none⟩),(m - 9),(c - 9)⟩ ⟨[],[],dd⟩)) = false:=decide_eq_false hq
    have NQ:=hid hq
    clear hq
    have MQ : Hid (∀ y,readR l = some y→False):=fun y hr=>NQ.out (by rw [MM.out y hr];exact (read_snd hr).1)
    clear NQ MM
    generalize rcB (rcT ⟨k,0,0,z,zeroM,(some ⟨b1,off1 + 9,none⟩),(m - 9),(c - 9)⟩ ⟨[],[],dd⟩) = BB at *
    have NO : Hid (readR l = none):=by cases hr : readR l with | none=>rfl | some y=>exact absurd hr (fun h=>MQ.out y h)
    go_wp2_with (first | (go_at_call 11;((with_reducible refine cW.mono ?_);rintro e v8 ⟨a8,n8,c8,rfl,ho8,hb8⟩;have B8:=hid (BV.out.trans (hb8.mono BV.out.size));have Y8:=hid (BXV.out.below hb8);have G8:=hid (HX1.out.below hb8);have hn8 : n8≤maxLen:=(by obtain ⟨q1,q2⟩:=own_caps ho8;exact Nat.le_trans q1 q2);have cS:=same_any (some ⟨b1,off1,none⟩) a8 m n8 c c8 _ _ _ _ v8 (HL.out _ B8.out) (BAt.of_own ho8) (by unfold maxLen;omega) hn8;rw [hq'] at cS;clear ldX ho8)) | (go_at_call 19;((with_reducible refine cS.mono ?_);rintro e v9 ⟨rfl,q9,rfl⟩;have B9:=hid (below_drewN q9 B8.out);have HZ:=Y8.out.drewN q9;have ldX:=(G8.out.drewN q9).ldR (x:=⟨k,0,0,z,zeroM,(some ⟨b1,off1 + 9,none⟩),(m - 9),(c - 9)⟩);have A9:=hid ((XA.out.later hb8).later (below_drewN q9 (Below.refl _ _))))) | (refine wpList_store_r rfl _ _ rfl w.heap.size zeroR rfl rfl zeroR HZ ?_))
    have FF:=HZ.fill (rcV zeroR)
    have z0:=FF.cell 0 _ rfl;have z1:=FF.cell 1 _ rfl;have z2:=FF.cell 2 _ rfl;have z3:=FF.cell 3 _ rfl;have z4:=FF.cell 4 _ rfl;have z5:=FF.cell 5 _ rfl;have z6:=FF.cell 6 _ rfl;have z7:=FF.cell 7 _ rfl;have z8:=FF.cell 8 _ rfl;have z9:=FF.cell 9 _ rfl;have z10:=FF.cell 10 _ rfl;have z11:=FF.cell 11 _ rfl;have z12:=FF.cell 12 _ rfl;have z13:=FF.cell 13 _ rfl;have z14:=FF.cell 14 _ rfl
    exact bodyPost_ret (v:=.tuple #[.agg (rcV zeroR),.int .i64 2]) (by simp [results,Tryz.results14,go_sem,z0,z1,z2,z3,z4,z5,z6,z7,z8,z9,z10,z11,z12,z13,z14]) rfl (.inr ⟨rfl,Only.below B9.out (only_fill _ _ _) (Nat.le_refl _) B9.out.size,NO.out⟩)
theorem rRead0 (S : Nat→Prop) (a : Option Addr) (m c : Nat) (l : List UInt8) (w : World) (hl : BAt w w.heap.size a m l) (hN : ∀ p,a = some p→S p.block) (hC : ∀ b,w.heap.size≤b→S b) (hmc : m≤c) (hcm : c≤maxLen) (hm : m≤1000000) (hk0 : kindB l = 0) :
  Calls Tryz.prog 14 #[.slice a m c] w (ReadD w S l):=by
 have HK0:=hid hk0
 clear hk0
 have H0:=hid ((Boxs.start w).more zeroRV 47)
 have s0 : (w.alloc (.cells zeroRV 47)).heap.size = w.heap.size + 1:=by simp
 have hbA : Below (w.alloc (.cells zeroRV 47)).heap.size (w.alloc (.cells zeroRV 47)) ((w.alloc (.cells zeroRV 47)).alloc (.cells #[.slice a m c,.int .i64 0,.bool false] 99)):=(Below.refl _ _).alloc (Nat.le_refl _) _
 have BX0 : Hid (BoxC ((w.alloc (.cells zeroRV 47)).alloc (.cells #[.slice a m c,.int .i64 0,.bool false] 99)) w.heap.size (rcV zeroR) 47):=(H0.out.get 0 _ _ _ rfl).below hbA
 have B1 : Hid (Below w.heap.size w ((w.alloc (.cells zeroRV 47)).alloc (.cells #[.slice a m c,.int .i64 0,.bool false] 99))):=(H0.out.below hbA).bel
 have F0 : Hid (FS w.heap.size (w.heap.size + 1) l (some l) ((w.alloc (.cells zeroRV 47)).alloc (.cells #[.slice a m c,.int .i64 0,.bool false] 99))):=⟨0,⟨a,m,c,by rw [← s0];exact heap_alloc_new _ _,hmc,hcm,(hl.below H0.out.bel (Nat.le_refl _)).alloc H0.out.bel.size _,Nat.zero_le _,by omega⟩,fun l' e=>by injection e with e;rw [← e];rfl⟩
 have HL : Hid (∀ W,Below w.heap.size w W→BAt W w.heap.size a m l):=fun W hW=>hl.below hW (Nat.le_refl _)
 have HNC : Hid (∀ p,a = some p→S p.block):=hN
 have HC:=hid hC
 have hll:=hl.len
 have hcm':=hcm
 unfold maxLen at hcm'
 clear hl hN hC H0 hbA s0
 go_enter Tryz.func14,Tryz.ntmps14
 go_upto_region 2 with (fail)
 generalize (w.alloc (.cells zeroRV 47)).alloc (.cells #[.slice a m c,.int .i64 0,.bool false] 99) = W1 at *
 obtain ⟨g,hg⟩ : ∃ g,g = w.heap.size + 1:=⟨_,rfl⟩
 rw [← hg] at F0 ⊢
 have hgw : w.heap.size < g:=by omega
 have HGW:=hid hgw
 clear hg
 have hg1 : g < W1.heap.size:=F0.out.lt
 have HG1:=hid hg1
 have H1 : Hid (RdO (FS w.heap.size g l (some l)) g W1 W1 [] []):=RdO.start F0.out F0.out.lt
 have c1 : ∀ s W,FS w.heap.size g l s W→Calls Tryz.prog 45 #[.pointer (some ⟨g,0,none⟩),.int .i64 1] W (Took1 (FS w.heap.size g l) g numV (numP 1) 0 s W):=fun s W h=>refTakeS_any w.heap.size g l 1 s W h (by omega)
 have c4 : ∀ s W,FS w.heap.size g l s W→Calls Tryz.prog 45 #[.pointer (some ⟨g,0,none⟩),.int .i64 4] W (Took1 (FS w.heap.size g l) g numV (numP 4) 0 s W):=fun s W h=>refTakeS_any w.heap.size g l 4 s W h (by omega)
 clear F0 hg1 hgw
 go_upto_region 3 with (first | (go_at_call 45;((with_reducible refine (c1 _ _ H1.out.rdr).mono ?_);rintro e w2 ⟨k,st1,rfl,hr1,ho1,hR1,hz1⟩;have H2:=hid (H1.out.only hr1 ho1);have R1:=hid hR1;have hk : k < 256:=num_lt hR1 hz1 (by decide);have ek:=wrap_i64 k (by omega);have HZ : Hid (BoxC (w2.alloc (.cells zeroRV 47)) w2.heap.size (rcV zeroR) 47):=BoxC.new w2 zeroRV 47;have KD:=hid (kind_of hR1 hz1);clear hr1 ho1 hR1 hz1)) | (refine wpList_store_r rfl _ _ rfl w2.heap.size ⟨k,0,0,0,zeroM,none,0,0⟩ rfl rfl zeroR HZ.out ?_))
 have H3 : Hid (RdO (FS w.heap.size g l st1) g W1 ((w2.alloc (.cells zeroRV 47)).setRow w2.heap.size (rcV ⟨k,0,0,0,zeroM,none,0,0⟩)) [(w2.heap.size,rcV ⟨k,0,0,0,zeroM,none,0,0⟩,47)] []):=(H2.out.more zeroRV 47).fillK (fun _ h=>by cases h) _
 clear H1 H2 HZ c1 ek
 generalize (w2.alloc (.cells zeroRV 47)).setRow w2.heap.size (rcV ⟨k,0,0,0,zeroM,none,0,0⟩) = W3 at *
 generalize w2.heap.size = G at *
 have hGge : W1.heap.size≤G:=H3.out.ge 0 _ _ _ rfl
 have HGG:=hid hGge
 clear hGge
 have hl1 : ∀ x ∈ ([] : List (Nat×Array Value×TypeId)),x.1≠G:=fun _ h=>by cases h
 have x0 : W3.cell? ⟨G,0,none⟩ = some (.int .i64 ((k : Nat) : Int)):=(H3.out.get 0 _ _ _ rfl).cell 0 _ rfl
 have NEw : ∀ n : Nat,Hid (W1.heap.size≤n→n≠w.heap.size):=fun n h=>by have:=HG1.out;have:=HGW.out;omega
 have h1 : k = 0:=KD.out.trans HK0.out
 clear KD HK0
 ·have hkk:=hid h1
  have q1 : (((k : Nat) : Int) == 1) = false:=by simp;omega
  have q2 : (((k : Nat) : Int) == 2) = false:=by simp;omega
  have q3 : (((k : Nat) : Int) == 3) = false:=by simp;omega
  have q4 : (((k : Nat) : Int) == 4) = false:=by simp;omega
  have i2 : ¬ (2 : Int)≤((k : Nat) : Int):=by omega
  have i2' : decide ((2 : Int)≤((k : Nat) : Int)) = false:=decide_eq_false i2
  clear h1
  have XA : Hid (RcAt W3 ⟨k,0,0,0,zeroM,none,0,0⟩ noLR):=⟨CmAt.zero,BAt.nil,by show 0 < 4294967296;decide⟩
  have XF : Hid (RcF ⟨k,0,0,0,zeroM,none,0,0⟩):=⟨Nat.zero_le _,Nat.zero_le _,Nat.zero_le _⟩
  have XN : Hid (InR S ⟨k,0,0,0,zeroM,none,0,0⟩):=⟨.inl rfl,.inl rfl,.inl rfl⟩
  have XI : Hid (InR (fun b=>b≠w.heap.size) ⟨k,0,0,0,zeroM,none,0,0⟩):=⟨.inl rfl,.inl rfl,.inl rfl⟩
  have MM : Hid (∀ y,readR l = some y→rcT ⟨k,0,0,0,zeroM,none,0,0⟩ noLR = y):=fun y hy=>(read_odd (rc_none R1.out (by have:=hkk.out;omega) (by have:=hkk.out;omega) (by have:=hkk.out;omega) (by have:=hkk.out;omega)) (by have:=hkk.out;simp only;omega) hy).elim
  have ldX:=(H3.out.get 0 _ _ _ rfl).ldR (x:=⟨k,0,0,0,zeroM,none,0,0⟩)
  have HX1 : Hid (BoxC W3 G (rcV ⟨k,0,0,0,zeroM,none,0,0⟩) 47):=H3.out.get 0 _ _ _ rfl
  have BXV : Hid (BoxC W3 w.heap.size (rcV zeroR) 47):=BX0.out.only H3.out.onl (by have:=HGW.out;omega)
  have BV : Hid (Below w.heap.size w W3):=Only.below B1.out H3.out.onl (by have:=HGW.out;omega) B1.out.size
  clear H3 BX0 B1
  cases hf : formR (rcT ⟨k,0,0,0,zeroM,none,0,0⟩ noLR)
  ·have cW:=rWrite_no ⟨k,0,0,0,zeroM,none,0,0⟩ noLR W3 XA.out XF.out hf
   have HF:=hid hf
   clear hf
   have NO : Hid (readR l = none):=by cases hr : readR l with | none=>rfl | some y=>exact absurd (readR_inv hr).2 (by rw [← MM.out y hr,HF.out];decide)
   go_wp2_with (first | (go_at_call 11;((with_reducible refine cW.mono ?_);rintro e v8 ⟨rfl,hb8⟩;have B8:=hid (BV.out.trans (hb8.mono BV.out.size));have HZ:=BXV.out.below hb8;clear ldX)) | (refine wpList_store_r rfl _ _ rfl w.heap.size zeroR rfl rfl zeroR HZ ?_))
   have FF:=HZ.fill (rcV zeroR)
   have z0:=FF.cell 0 _ rfl;have z1:=FF.cell 1 _ rfl;have z2:=FF.cell 2 _ rfl;have z3:=FF.cell 3 _ rfl;have z4:=FF.cell 4 _ rfl;have z5:=FF.cell 5 _ rfl;have z6:=FF.cell 6 _ rfl;have z7:=FF.cell 7 _ rfl;have z8:=FF.cell 8 _ rfl;have z9:=FF.cell 9 _ rfl;have z10:=FF.cell 10 _ rfl;have z11:=FF.cell 11 _ rfl;have z12:=FF.cell 12 _ rfl;have z13:=FF.cell 13 _ rfl;have z14:=FF.cell 14 _ rfl
   exact bodyPost_ret (v:=.tuple #[.agg (rcV zeroR),.int .i64 2]) (by simp [results,Tryz.results14,go_sem,z0,z1,z2,z3,z4,z5,z6,z7,z8,z9,z10,z11,z12,z13,z14]) rfl (.inr ⟨rfl,Only.below B8.out (only_fill _ _ _) (Nat.le_refl _) B8.out.size,NO.out⟩)
  ·have cW:=rWrite_yes ⟨k,0,0,0,zeroM,none,0,0⟩ noLR W3 XA.out XF.out hf
   have HF:=hid hf
   clear hf
   by_cases hq : l = rcB (rcT ⟨k,0,0,0,zeroM,none,0,0⟩ noLR)
   ·have YES : Hid (readR l = some (rcT ⟨k,0,0,0,zeroM,none,0,0⟩ noLR)):=(by rw [hq];exact read_back _ ((formR_iff _).1 HF.out) XA.out.ok)
    have hq' : decide (l = rcB (rcT ⟨k,0,0,0,zeroM,none,0,0⟩ noLR)) = true:=decide_eq_true hq
    clear hq
    generalize rcB (rcT ⟨k,0,0,0,zeroM,none,0,0⟩ noLR) = BB at *
    go_wp2_with (first | (go_at_call 11;((with_reducible refine cW.mono ?_);rintro e v8 ⟨a8,n8,c8,rfl,ho8,hb8⟩;have B8:=hid (BV.out.trans (hb8.mono BV.out.size));have Y8:=hid (BXV.out.below hb8);have G8:=hid (HX1.out.below hb8);have hn8 : n8≤maxLen:=(by obtain ⟨q1,q2⟩:=own_caps ho8;exact Nat.le_trans q1 q2);have cS:=same_any a a8 m n8 c c8 _ _ _ _ v8 (HL.out _ B8.out) (BAt.of_own ho8) (by unfold maxLen;omega) hn8;rw [hq'] at cS;clear ldX ho8)) | (go_at_call 19;((with_reducible refine cS.mono ?_);rintro e v9 ⟨rfl,q9,rfl⟩;have B9:=hid (below_drewN q9 B8.out);have HZ:=Y8.out.drewN q9;have ldX:=(G8.out.drewN q9).ldR (x:=⟨k,0,0,0,zeroM,none,0,0⟩);have A9:=hid ((XA.out.later hb8).later (below_drewN q9 (Below.refl _ _))))) | (refine wpList_store_r rfl _ _ rfl w.heap.size ⟨k,0,0,0,zeroM,none,0,0⟩ rfl rfl zeroR HZ ?_))
    have FF:=HZ.fill (rcV ⟨k,0,0,0,zeroM,none,0,0⟩)
    have z0:=FF.cell 0 _ rfl;have z1:=FF.cell 1 _ rfl;have z2:=FF.cell 2 _ rfl;have z3:=FF.cell 3 _ rfl;have z4:=FF.cell 4 _ rfl;have z5:=FF.cell 5 _ rfl;have z6:=FF.cell 6 _ rfl;have z7:=FF.cell 7 _ rfl;have z8:=FF.cell 8 _ rfl;have z9:=FF.cell 9 _ rfl;have z10:=FF.cell 10 _ rfl;have z11:=FF.cell 11 _ rfl;have z12:=FF.cell 12 _ rfl;have z13:=FF.cell 13 _ rfl;have z14:=FF.cell 14 _ rfl
    exact bodyPost_ret (v:=.tuple #[.agg (rcV ⟨k,0,0,0,zeroM,none,0,0⟩),.int .i64 0]) (by simp [results,Tryz.results14,go_sem,z0,z1,z2,z3,z4,z5,z6,z7,z8,z9,z10,z11,z12,z13,z14]) rfl (.inl ⟨⟨k,0,0,0,zeroM,none,0,0⟩,noLR,rfl,Only.below B9.out (only_fill _ _ _) (Nat.le_refl _) B9.out.size,A9.out.keepS XI.out (by rw [setRow_size];exact Nat.le_refl _) (fun b hb _=>setRow_other _ _ _ _ hb),XF.out,XN.out,YES.out⟩)
   ·have hq' : decide (l = rcB (rcT ⟨k,0,0,0,zeroM,none,0,0⟩ noLR)) = false:=decide_eq_false hq
    have NQ:=hid hq
    clear hq
    have MQ : Hid (∀ y,readR l = some y→False):=fun y hr=>NQ.out (by rw [MM.out y hr];exact (read_snd hr).1)
    clear NQ MM
    generalize rcB (rcT ⟨k,0,0,0,zeroM,none,0,0⟩ noLR) = BB at *
    have NO : Hid (readR l = none):=by cases hr : readR l with | none=>rfl | some y=>exact absurd hr (fun h=>MQ.out y h)
    go_wp2_with (first | (go_at_call 11;((with_reducible refine cW.mono ?_);rintro e v8 ⟨a8,n8,c8,rfl,ho8,hb8⟩;have B8:=hid (BV.out.trans (hb8.mono BV.out.size));have Y8:=hid (BXV.out.below hb8);have G8:=hid (HX1.out.below hb8);have hn8 : n8≤maxLen:=(by obtain ⟨q1,q2⟩:=own_caps ho8;exact Nat.le_trans q1 q2);have cS:=same_any a a8 m n8 c c8 _ _ _ _ v8 (HL.out _ B8.out) (BAt.of_own ho8) (by unfold maxLen;omega) hn8;rw [hq'] at cS;clear ldX ho8)) | (go_at_call 19;((with_reducible refine cS.mono ?_);rintro e v9 ⟨rfl,q9,rfl⟩;have B9:=hid (below_drewN q9 B8.out);have HZ:=Y8.out.drewN q9;have ldX:=(G8.out.drewN q9).ldR (x:=⟨k,0,0,0,zeroM,none,0,0⟩);have A9:=hid ((XA.out.later hb8).later (below_drewN q9 (Below.refl _ _))))) | (refine wpList_store_r rfl _ _ rfl w.heap.size zeroR rfl rfl zeroR HZ ?_))
    have FF:=HZ.fill (rcV zeroR)
    have z0:=FF.cell 0 _ rfl;have z1:=FF.cell 1 _ rfl;have z2:=FF.cell 2 _ rfl;have z3:=FF.cell 3 _ rfl;have z4:=FF.cell 4 _ rfl;have z5:=FF.cell 5 _ rfl;have z6:=FF.cell 6 _ rfl;have z7:=FF.cell 7 _ rfl;have z8:=FF.cell 8 _ rfl;have z9:=FF.cell 9 _ rfl;have z10:=FF.cell 10 _ rfl;have z11:=FF.cell 11 _ rfl;have z12:=FF.cell 12 _ rfl;have z13:=FF.cell 13 _ rfl;have z14:=FF.cell 14 _ rfl
    exact bodyPost_ret (v:=.tuple #[.agg (rcV zeroR),.int .i64 2]) (by simp [results,Tryz.results14,go_sem,z0,z1,z2,z3,z4,z5,z6,z7,z8,z9,z10,z11,z12,z13,z14]) rfl (.inr ⟨rfl,Only.below B9.out (only_fill _ _ _) (Nat.le_refl _) B9.out.size,NO.out⟩)
theorem rRead5 (S : Nat→Prop) (a : Option Addr) (m c : Nat) (l : List UInt8) (w : World) (hl : BAt w w.heap.size a m l) (hN : ∀ p,a = some p→S p.block) (hC : ∀ b,w.heap.size≤b→S b) (hmc : m≤c) (hcm : c≤maxLen) (hm : m≤1000000) (hk0 : 5≤kindB l) :
  Calls Tryz.prog 14 #[.slice a m c] w (ReadD w S l):=by
 have HK0:=hid hk0
 clear hk0
 have H0:=hid ((Boxs.start w).more zeroRV 47)
 have s0 : (w.alloc (.cells zeroRV 47)).heap.size = w.heap.size + 1:=by simp
 have hbA : Below (w.alloc (.cells zeroRV 47)).heap.size (w.alloc (.cells zeroRV 47)) ((w.alloc (.cells zeroRV 47)).alloc (.cells #[.slice a m c,.int .i64 0,.bool false] 99)):=(Below.refl _ _).alloc (Nat.le_refl _) _
 have BX0 : Hid (BoxC ((w.alloc (.cells zeroRV 47)).alloc (.cells #[.slice a m c,.int .i64 0,.bool false] 99)) w.heap.size (rcV zeroR) 47):=(H0.out.get 0 _ _ _ rfl).below hbA
 have B1 : Hid (Below w.heap.size w ((w.alloc (.cells zeroRV 47)).alloc (.cells #[.slice a m c,.int .i64 0,.bool false] 99))):=(H0.out.below hbA).bel
 have F0 : Hid (FS w.heap.size (w.heap.size + 1) l (some l) ((w.alloc (.cells zeroRV 47)).alloc (.cells #[.slice a m c,.int .i64 0,.bool false] 99))):=⟨0,⟨a,m,c,by rw [← s0];exact heap_alloc_new _ _,hmc,hcm,(hl.below H0.out.bel (Nat.le_refl _)).alloc H0.out.bel.size _,Nat.zero_le _,by omega⟩,fun l' e=>by injection e with e;rw [← e];rfl⟩
 have HL : Hid (∀ W,Below w.heap.size w W→BAt W w.heap.size a m l):=fun W hW=>hl.below hW (Nat.le_refl _)
 have HNC : Hid (∀ p,a = some p→S p.block):=hN
 have HC:=hid hC
 have hll:=hl.len
 have hcm':=hcm
 unfold maxLen at hcm'
 clear hl hN hC H0 hbA s0
 go_enter Tryz.func14,Tryz.ntmps14
 go_upto_region 2 with (fail)
 generalize (w.alloc (.cells zeroRV 47)).alloc (.cells #[.slice a m c,.int .i64 0,.bool false] 99) = W1 at *
 obtain ⟨g,hg⟩ : ∃ g,g = w.heap.size + 1:=⟨_,rfl⟩
 rw [← hg] at F0 ⊢
 have hgw : w.heap.size < g:=by omega
 have HGW:=hid hgw
 clear hg
 have hg1 : g < W1.heap.size:=F0.out.lt
 have HG1:=hid hg1
 have H1 : Hid (RdO (FS w.heap.size g l (some l)) g W1 W1 [] []):=RdO.start F0.out F0.out.lt
 have c1 : ∀ s W,FS w.heap.size g l s W→Calls Tryz.prog 45 #[.pointer (some ⟨g,0,none⟩),.int .i64 1] W (Took1 (FS w.heap.size g l) g numV (numP 1) 0 s W):=fun s W h=>refTakeS_any w.heap.size g l 1 s W h (by omega)
 have c4 : ∀ s W,FS w.heap.size g l s W→Calls Tryz.prog 45 #[.pointer (some ⟨g,0,none⟩),.int .i64 4] W (Took1 (FS w.heap.size g l) g numV (numP 4) 0 s W):=fun s W h=>refTakeS_any w.heap.size g l 4 s W h (by omega)
 clear F0 hg1 hgw
 go_upto_region 3 with (first | (go_at_call 45;((with_reducible refine (c1 _ _ H1.out.rdr).mono ?_);rintro e w2 ⟨k,st1,rfl,hr1,ho1,hR1,hz1⟩;have H2:=hid (H1.out.only hr1 ho1);have R1:=hid hR1;have hk : k < 256:=num_lt hR1 hz1 (by decide);have ek:=wrap_i64 k (by omega);have HZ : Hid (BoxC (w2.alloc (.cells zeroRV 47)) w2.heap.size (rcV zeroR) 47):=BoxC.new w2 zeroRV 47;have KD:=hid (kind_of hR1 hz1);clear hr1 ho1 hR1 hz1)) | (refine wpList_store_r rfl _ _ rfl w2.heap.size ⟨k,0,0,0,zeroM,none,0,0⟩ rfl rfl zeroR HZ.out ?_))
 have H3 : Hid (RdO (FS w.heap.size g l st1) g W1 ((w2.alloc (.cells zeroRV 47)).setRow w2.heap.size (rcV ⟨k,0,0,0,zeroM,none,0,0⟩)) [(w2.heap.size,rcV ⟨k,0,0,0,zeroM,none,0,0⟩,47)] []):=(H2.out.more zeroRV 47).fillK (fun _ h=>by cases h) _
 clear H1 H2 HZ c1 ek
 generalize (w2.alloc (.cells zeroRV 47)).setRow w2.heap.size (rcV ⟨k,0,0,0,zeroM,none,0,0⟩) = W3 at *
 generalize w2.heap.size = G at *
 have hGge : W1.heap.size≤G:=H3.out.ge 0 _ _ _ rfl
 have HGG:=hid hGge
 clear hGge
 have hl1 : ∀ x ∈ ([] : List (Nat×Array Value×TypeId)),x.1≠G:=fun _ h=>by cases h
 have x0 : W3.cell? ⟨G,0,none⟩ = some (.int .i64 ((k : Nat) : Int)):=(H3.out.get 0 _ _ _ rfl).cell 0 _ rfl
 have NEw : ∀ n : Nat,Hid (W1.heap.size≤n→n≠w.heap.size):=fun n h=>by have:=HG1.out;have:=HGW.out;omega
 have h1 : 5≤k:=by rw [KD.out];exact HK0.out
 clear KD HK0
 have hkk : Hid (5≤k):=h1
 have q1 : (((k : Nat) : Int) == 1) = false:=by simp;omega
 have q2 : (((k : Nat) : Int) == 2) = false:=by simp;omega
 have q3 : (((k : Nat) : Int) == 3) = false:=by simp;omega
 have q4 : (((k : Nat) : Int) == 4) = false:=by simp;omega
 have i2 : (2 : Int)≤((k : Nat) : Int):=by omega
 have i2' : decide ((2 : Int)≤((k : Nat) : Int)) = true:=decide_eq_true i2
 clear h1
 go_upto_region 13 with (go_at_call 45;((with_reducible refine (c4 _ _ H3.out.rdr).mono ?_);rintro e v4 ⟨z,tS,rfl,hr,ho,hR,hz⟩;have H4:=hid (H3.out.only hr ho);have RS:=hid hR;have hz4 : z < 4294967296:=num_lt hR hz (by decide);have ez:=wrap_i64 z (by omega);have y0 : v4.cell? ⟨G,0,none⟩ = some (.int .i64 ((k : Nat) : Int)):=(H4.out.get 0 _ _ _ rfl).cell 0 _ rfl;have y3:=(H4.out.get 0 _ _ _ rfl).cell 3 _ rfl;have f3:=(H4.out.get 0 _ _ _ rfl).frozen 3;clear hr ho hR hz))
 have H5 : Hid (RdO (FS w.heap.size g l tS) g W1 (v4.setCell ⟨G,3,none⟩ (.int .i64 ((z : Nat) : Int))) [(G,rcV ⟨k,0,0,z,zeroM,none,0,0⟩,47)] []):=(H4.out.set hl1 3 (.int .i64 ((z : Nat) : Int)))
 clear H3 H4 y0 y3 f3 ez x0 
 generalize (v4.setCell ⟨G,3,none⟩ (.int .i64 ((z : Nat) : Int))) = V5 at *
 have x0 : V5.cell? ⟨G,0,none⟩ = some (.int .i64 ((k : Nat) : Int)):=(H5.out.get 0 _ _ _ rfl).cell 0 _ rfl
 have XA : Hid (RcAt V5 ⟨k,0,0,z,zeroM,none,0,0⟩ noLR):=⟨CmAt.zero,BAt.nil,by show 0 < 4294967296;decide⟩
 have XF : Hid (RcF ⟨k,0,0,z,zeroM,none,0,0⟩):=⟨Nat.zero_le _,Nat.zero_le _,Nat.zero_le _⟩
 have XN : Hid (InR S ⟨k,0,0,z,zeroM,none,0,0⟩):=⟨.inl rfl,.inl rfl,.inl rfl⟩
 have XI : Hid (InR (fun b=>b≠w.heap.size) ⟨k,0,0,z,zeroM,none,0,0⟩):=⟨.inl rfl,.inl rfl,.inl rfl⟩
 have MM : Hid (∀ y,readR l = some y→rcT ⟨k,0,0,z,zeroM,none,0,0⟩ noLR = y):=fun y hy=>(read_odd (rc_none R1.out (by have:=hkk.out;omega) (by have:=hkk.out;omega) (by have:=hkk.out;omega) (by have:=hkk.out;omega)) (by have:=hkk.out;simp only;omega) hy).elim
 have ldX:=(H5.out.get 0 _ _ _ rfl).ldR (x:=⟨k,0,0,z,zeroM,none,0,0⟩)
 have HX1 : Hid (BoxC V5 G (rcV ⟨k,0,0,z,zeroM,none,0,0⟩) 47):=H5.out.get 0 _ _ _ rfl
 have BXV : Hid (BoxC V5 w.heap.size (rcV zeroR) 47):=BX0.out.only H5.out.onl (by have:=HGW.out;omega)
 have BV : Hid (Below w.heap.size w V5):=Only.below B1.out H5.out.onl (by have:=HGW.out;omega) B1.out.size
 clear H5 BX0 B1
 cases hf : formR (rcT ⟨k,0,0,z,zeroM,none,0,0⟩ noLR)
 ·have cW:=rWrite_no ⟨k,0,0,z,zeroM,none,0,0⟩ noLR V5 XA.out XF.out hf
  have HF:=hid hf
  clear hf
  have NO : Hid (readR l = none):=by cases hr : readR l with | none=>rfl | some y=>exact absurd (readR_inv hr).2 (by rw [← MM.out y hr,HF.out];decide)
  go_wp2_with (first | (go_at_call 11;((with_reducible refine cW.mono ?_);rintro e v8 ⟨rfl,hb8⟩;have B8:=hid (BV.out.trans (hb8.mono BV.out.size));have HZ:=BXV.out.below hb8;clear ldX)) | (refine wpList_store_r rfl _ _ rfl w.heap.size zeroR rfl rfl zeroR HZ ?_))
  have FF:=HZ.fill (rcV zeroR)
  have z0:=FF.cell 0 _ rfl;have z1:=FF.cell 1 _ rfl;have z2:=FF.cell 2 _ rfl;have z3:=FF.cell 3 _ rfl;have z4:=FF.cell 4 _ rfl;have z5:=FF.cell 5 _ rfl;have z6:=FF.cell 6 _ rfl;have z7:=FF.cell 7 _ rfl;have z8:=FF.cell 8 _ rfl;have z9:=FF.cell 9 _ rfl;have z10:=FF.cell 10 _ rfl;have z11:=FF.cell 11 _ rfl;have z12:=FF.cell 12 _ rfl;have z13:=FF.cell 13 _ rfl;have z14:=FF.cell 14 _ rfl
  exact bodyPost_ret (v:=.tuple #[.agg (rcV zeroR),.int .i64 2]) (by simp [results,Tryz.results14,go_sem,z0,z1,z2,z3,z4,z5,z6,z7,z8,z9,z10,z11,z12,z13,z14]) rfl (.inr ⟨rfl,Only.below B8.out (only_fill _ _ _) (Nat.le_refl _) B8.out.size,NO.out⟩)
 ·have cW:=rWrite_yes ⟨k,0,0,z,zeroM,none,0,0⟩ noLR V5 XA.out XF.out hf
  have HF:=hid hf
  clear hf
  by_cases hq : l = rcB (rcT ⟨k,0,0,z,zeroM,none,0,0⟩ noLR)
  ·have YES : Hid (readR l = some (rcT ⟨k,0,0,z,zeroM,none,0,0⟩ noLR)):=(by rw [hq];exact read_back _ ((formR_iff _).1 HF.out) XA.out.ok)
   have hq' : decide (l = rcB (rcT ⟨k,0,0,z,zeroM,none,0,0⟩ noLR)) = true:=decide_eq_true hq
   clear hq
   generalize rcB (rcT ⟨k,0,0,z,zeroM,none,0,0⟩ noLR) = BB at *
   go_wp2_with (first | (go_at_call 11;((with_reducible refine cW.mono ?_);rintro e v8 ⟨a8,n8,c8,rfl,ho8,hb8⟩;have B8:=hid (BV.out.trans (hb8.mono BV.out.size));have Y8:=hid (BXV.out.below hb8);have G8:=hid (HX1.out.below hb8);have hn8 : n8≤maxLen:=(by obtain ⟨q1,q2⟩:=own_caps ho8;exact Nat.le_trans q1 q2);have cS:=same_any a a8 m n8 c c8 _ _ _ _ v8 (HL.out _ B8.out) (BAt.of_own ho8) (by unfold maxLen;omega) hn8;rw [hq'] at cS;clear ldX ho8)) | (go_at_call 19;((with_reducible refine cS.mono ?_);rintro e v9 ⟨rfl,q9,rfl⟩;have B9:=hid (below_drewN q9 B8.out);have HZ:=Y8.out.drewN q9;have ldX:=(G8.out.drewN q9).ldR (x:=⟨k,0,0,z,zeroM,none,0,0⟩);have A9:=hid ((XA.out.later hb8).later (below_drewN q9 (Below.refl _ _))))) | (refine wpList_store_r rfl _ _ rfl w.heap.size ⟨k,0,0,z,zeroM,none,0,0⟩ rfl rfl zeroR HZ ?_))
   have FF:=HZ.fill (rcV ⟨k,0,0,z,zeroM,none,0,0⟩)
   have z0:=FF.cell 0 _ rfl;have z1:=FF.cell 1 _ rfl;have z2:=FF.cell 2 _ rfl;have z3:=FF.cell 3 _ rfl;have z4:=FF.cell 4 _ rfl;have z5:=FF.cell 5 _ rfl;have z6:=FF.cell 6 _ rfl;have z7:=FF.cell 7 _ rfl;have z8:=FF.cell 8 _ rfl;have z9:=FF.cell 9 _ rfl;have z10:=FF.cell 10 _ rfl;have z11:=FF.cell 11 _ rfl;have z12:=FF.cell 12 _ rfl;have z13:=FF.cell 13 _ rfl;have z14:=FF.cell 14 _ rfl
   exact bodyPost_ret (v:=.tuple #[.agg (rcV ⟨k,0,0,z,zeroM,none,0,0⟩),.int .i64 0]) (by simp [results,Tryz.results14,go_sem,z0,z1,z2,z3,z4,z5,z6,z7,z8,z9,z10,z11,z12,z13,z14]) rfl (.inl ⟨⟨k,0,0,z,zeroM,none,0,0⟩,noLR,rfl,Only.below B9.out (only_fill _ _ _) (Nat.le_refl _) B9.out.size,A9.out.keepS XI.out (by rw [setRow_size];exact Nat.le_refl _) (fun b hb _=>setRow_other _ _ _ _ hb),XF.out,XN.out,YES.out⟩)
  ·have hq' : decide (l = rcB (rcT ⟨k,0,0,z,zeroM,none,0,0⟩ noLR)) = false:=decide_eq_false hq
   have NQ:=hid hq
   clear hq
   have MQ : Hid (∀ y,readR l = some y→False):=fun y hr=>NQ.out (by rw [MM.out y hr];exact (read_snd hr).1)
   clear NQ MM
   generalize rcB (rcT ⟨k,0,0,z,zeroM,none,0,0⟩ noLR) = BB at *
   have NO : Hid (readR l = none):=by cases hr : readR l with | none=>rfl | some y=>exact absurd hr (fun h=>MQ.out y h)
   go_wp2_with (first | (go_at_call 11;((with_reducible refine cW.mono ?_);rintro e v8 ⟨a8,n8,c8,rfl,ho8,hb8⟩;have B8:=hid (BV.out.trans (hb8.mono BV.out.size));have Y8:=hid (BXV.out.below hb8);have G8:=hid (HX1.out.below hb8);have hn8 : n8≤maxLen:=(by obtain ⟨q1,q2⟩:=own_caps ho8;exact Nat.le_trans q1 q2);have cS:=same_any a a8 m n8 c c8 _ _ _ _ v8 (HL.out _ B8.out) (BAt.of_own ho8) (by unfold maxLen;omega) hn8;rw [hq'] at cS;clear ldX ho8)) | (go_at_call 19;((with_reducible refine cS.mono ?_);rintro e v9 ⟨rfl,q9,rfl⟩;have B9:=hid (below_drewN q9 B8.out);have HZ:=Y8.out.drewN q9;have ldX:=(G8.out.drewN q9).ldR (x:=⟨k,0,0,z,zeroM,none,0,0⟩);have A9:=hid ((XA.out.later hb8).later (below_drewN q9 (Below.refl _ _))))) | (refine wpList_store_r rfl _ _ rfl w.heap.size zeroR rfl rfl zeroR HZ ?_))
   have FF:=HZ.fill (rcV zeroR)
   have z0:=FF.cell 0 _ rfl;have z1:=FF.cell 1 _ rfl;have z2:=FF.cell 2 _ rfl;have z3:=FF.cell 3 _ rfl;have z4:=FF.cell 4 _ rfl;have z5:=FF.cell 5 _ rfl;have z6:=FF.cell 6 _ rfl;have z7:=FF.cell 7 _ rfl;have z8:=FF.cell 8 _ rfl;have z9:=FF.cell 9 _ rfl;have z10:=FF.cell 10 _ rfl;have z11:=FF.cell 11 _ rfl;have z12:=FF.cell 12 _ rfl;have z13:=FF.cell 13 _ rfl;have z14:=FF.cell 14 _ rfl
   exact bodyPost_ret (v:=.tuple #[.agg (rcV zeroR),.int .i64 2]) (by simp [results,Tryz.results14,go_sem,z0,z1,z2,z3,z4,z5,z6,z7,z8,z9,z10,z11,z12,z13,z14]) rfl (.inr ⟨rfl,Only.below B9.out (only_fill _ _ _) (Nat.le_refl _) B9.out.size,NO.out⟩)
theorem rRead_any (S : Nat→Prop) (a : Option Addr) (m c : Nat) (l : List UInt8) (w : World) (hl : BAt w w.heap.size a m l) (hN : ∀ p,a = some p→S p.block) (hC : ∀ b,w.heap.size≤b→S b) (hmc : m≤c) (hcm : c≤maxLen) (hm : m≤1000000) :
  Calls Tryz.prog 14 #[.slice a m c] w (ReadD w S l):=by
 have hc : kindB l = 0∨kindB l = 1∨kindB l = 2∨kindB l = 3∨kindB l = 4∨5≤kindB l:=by omega
 rcases hc with h | h | h | h | h | h
 ·exact rRead0 S a m c l w hl hN hC hmc hcm hm h
 ·exact rRead1 S a m c l w hl hN hC hmc hcm hm h
 ·exact rRead2 S a m c l w hl hN hC hmc hcm hm h
 ·exact rRead3 S a m c l w hl hN hC hmc hcm hm h
 ·by_cases h9 : l.length < 9
  ·exact rRead4n S a m c l w hl hN hC hmc hcm hm h h9
  ·by_cases hc9 : c = 9
   ·exact rRead4e S a m c l w hl hN hC hmc hcm hm h h9 hc9
   ·exact rRead4d S a m c l w hl hN hC hmc hcm hm h h9 hc9
 ·exact rRead5 S a m c l w hl hN hC hmc hcm hm h
end Go.Proofs.YtcfmifongbapkaaGreatDoor
