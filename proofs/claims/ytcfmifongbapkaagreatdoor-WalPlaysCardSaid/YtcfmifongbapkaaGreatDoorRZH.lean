/- The program's log on a law's disk, with what else the law holds: Add, Compact and Open. Conditions: the records lie in memory; the tables of utf8 lie there. Contracts of a law's plain, few and front, and of the document's Few; a record of a list is loaded. Conditions: the records lie in memory. Contract of a law's awake. Condition: the tables of utf8 lie in memory. Contract of a law's front. -/
import Derived.Test.YtcfmifongbapkaaGreatDoorRZF
import Derived.Test.YtcfmifongbapkaaGreatDoorRU
import Derived.Test.YtcfmifongbapkaaGreatDoorRZG
import Derived.Test.YtcfmifongbapkaaGreatDoorRZB
import Derived.Test.YtcfmifongbapkaaGreatDoorRM
import Derived.Test.YtcfmifongbapkaaGreatDoorRL
import Derived.Laws.ResultCell
import Derived.Deep.RegionHeld3
namespace Go.Proofs.YtcfmifongbapkaaGreatDoor
set_option maxRecDepth 100000
set_option maxHeartbeats 4000000
open Go.RowKit
open Go.Lib (hid)
set_option linter.unusedVariables false
set_option linter.unusedSimpArgs false
/-- The law's disk, and what is held of all that lies elsewhere. -/
def LawK (W V : World) (g : Nat) (d : Dk) (P : World→Prop) : Prop := ∃ own,PD V g d own∧Below W.heap.size W V∧(∀ i ∈ own,W.heap.size≤i)∧∀ V',Fr V V' own→P V'
section
variable {W V V' : World} {g : Nat} {d d' : Dk} {P Q : World→Prop}
theorem LawK.bel (h : LawK W V g d P) : Below W.heap.size W V:=by obtain ⟨_,_,h,_⟩:=h;exact h
theorem LawK.get (h : LawK W V g d P) : P V:=by obtain ⟨own,_,_,_,h⟩:=h;exact h V (Fr.refl V own)
theorem LawK.mono (h : LawK W V g d P) (hq : ∀ V,P V→Q V) : LawK W V g d Q:=by obtain ⟨own,h1,h2,h3,h4⟩:=h;exact ⟨own,h1,h2,h3,fun V' hf=>hq _ (h4 V' hf)⟩
theorem LawK.later (h : LawK W V g d P) (hb : Below V.heap.size V V') : LawK W V' g d P:=by
 obtain ⟨own,h1,h2,h3,h4⟩:=h
 exact ⟨own,h1.below hb,h2.trans (hb.mono h2.size),h3,fun V'' hf=>h4 V'' ((Fr.of_below hb).trans hf fun i hi=>.inl hi)⟩
theorem LawK.on {own own' : List Nat} (h2 : Below W.heap.size W V) (h3 : ∀ i ∈ own,W.heap.size≤i) (h4 : ∀ V',Fr V V' own→P V') (g4 : PD V' g d own') (g5 : Fr V V' own) (g6 : ∀ i ∈ own',i ∈ own∨V.heap.size≤i) : LawK W V' g d P :=
 ⟨own',g4,g5.below h2 h2.size h3,fun i hi=>(g6 i hi).elim (h3 i) fun h=>Nat.le_trans h2.size h,fun V'' hf=>h4 V'' (g5.trans hf g6)⟩
theorem LawK.addO {a : Option Addr} {n c : Nat} {L : List RE} (h : LawK W V g d P) (hb : Below V.heap.size V V') (hO : RcsOwn V.heap.size V' a n c L) {C : Nat} (hC : C≤V.heap.size) : LawK W V' g d (fun X=>P X∧RcsOwn C X a n c L):=by
 obtain ⟨own0,k1,k2,k3,k4⟩:=h
 refine ⟨own0,k1.below hb,k2.trans (hb.mono k2.size),k3,fun V'' hf=>⟨k4 V'' ((Fr.of_below hb).trans hf fun i hi=>.inl hi),(hO.keep hf.size fun b hb' hlt=>hf.block b hlt fun e=>by have:=k1.lt b e;omega).mono hC⟩⟩
theorem new_k (n : Int) (hn : n < 9223372036854775808) (hb : Below W.heap.size W V) : Calls Tryz.prog 20 #[.int .i64 n] V fun e w'=>e = .returned (.pointer (some ⟨V.heap.size,0,none⟩))∧LawK W w' V.heap.size (newD n) (fun _=>True) :=
 (dkNew_any n hn V).mono fun e w' ⟨he,hB,hD⟩=>⟨he,[V.heap.size],⟨_,_,_,hD,rfl⟩,hb.trans (hB.mono hb.size),fun i hi=>by simp at hi;have:=hb.size;omega,fun _ _=>trivial⟩
theorem down_k (h : LawK W V g d P) : Calls Tryz.prog 66 #[.pointer (some ⟨g,0,none⟩)] V fun e w'=>e = .returned (.bool d.down)∧V = w':=by
 obtain ⟨own,⟨v,nx,left,hp,_⟩,_⟩:=h
 exact down_any hp.box
theorem bytes_k (h : LawK W V g d P) (hM : BndD d 1099511627776) : Calls Tryz.prog 24 #[.pointer (some ⟨g,0,none⟩)] V fun e w' => ∃ a n c,e = .returned (.slice a n c)∧BAt w' w'.heap.size a n (d.la ++ d.re)∧n = d.la.length + d.re.length∧n≤c∧c≤maxLen∧Below V.heap.size V w':=by
 obtain ⟨own,⟨v,nx,left,hp,_⟩,_⟩:=h
 refine (bytes_any hp hM.1).mono fun e w' ⟨a,n,c,he,ho,hb⟩=>?_
 obtain ⟨hnc,hcm⟩:=own_caps ho
 exact ⟨a,n,c,he,BAt.of_own ho,by rw [← own_len ho,List.length_append],hnc,hcm,hb⟩
theorem append_k {a : Option Addr} {n c : Nat} {l : List UInt8} (h : LawK W V g d P) (hl : d.fuse < 9223372036854775808) (hM : BndD d 1099511627776) (hb : BAt V V.heap.size a n l) (hn : n≤1099511627776) :
  Calls Tryz.prog 63 #[.pointer (some ⟨g,0,none⟩),.slice a n c] V fun e w'=>e = .returned (.int .i64 (appE d l))∧LawK W w' g (appD d l) P:=by
 obtain ⟨own,hp,h2,h3,h4⟩:=h
 exact (append_any hp hl hM.1 hb hn).mono fun e w' ⟨he,own',g4,g5,g6⟩=>⟨he,LawK.on h2 h3 h4 g4 g5 g6⟩
theorem replace_k {a : Option Addr} {n c : Nat} {l : List UInt8} (h : LawK W V g d P) (hl : d.fuse < 9223372036854775808) (hb : BAt V V.heap.size a n l) (hn : n≤1099511627776) :
  Calls Tryz.prog 71 #[.pointer (some ⟨g,0,none⟩),.slice a n c] V fun e w'=>e = .returned (.int .i64 (repE d l))∧LawK W w' g (repD d l) P:=by
 obtain ⟨own,hp,h2,h3,h4⟩:=h
 exact (replace_any hp hl hb hn).mono fun e w' ⟨he,own',g4,g5,g6⟩=>⟨he,LawK.on h2 h3 h4 g4 g5 g6⟩
/-- What Add answers, and leaves. -/
noncomputable def addE (d : Dk) (x : Rc) : Int:=if formR x = true then appE d (frameB (rcB x)) else 2
noncomputable def addD (d : Dk) (x : Rc) : Dk:=if formR x = true then appD d (frameB (rcB x)) else d
theorem add_k {x : RcM} {L : RcL} (h : LawK W V g d P) (hl : d.fuse < 9223372036854775808) (hM : BndD d 1099511627776) (hX : RcAt V x L) (hF : RcF x) (hU : Tabs V) :
  Calls Tryz.prog 27 #[.pointer (some ⟨g,0,none⟩),.agg (rcV x)] V fun e w'=>e = .returned (.int .i64 (addE d (rcT x L)))∧LawK W w' g (addD d (rcT x L)) P:=by
 have H0:=hid ((Boxs.start V).more (rcV x) 36)
 have K0:=hid h
 have xK:=(H0.out.get 0 _ _ _ rfl).ldK
 unfold addE addD
 cases hf : formR (rcT x L)
 ·have cW:=fun W (hW : Below V.heap.size V W)=>wFramed_no x L W (hX.later hW) hF (hU.below hW) hf
  rw [if_neg (by decide),if_neg (by decide)]
  clear hX hF hU hf h hl hM
  go_enter Tryz.func27,Tryz.ntmps27
  go_wp2_with (go_at_call 68;((with_reducible refine (cW _ H0.out.bel).mono ?_);rintro e w1 ⟨rfl,hb1⟩;have H1:=hid (H0.out.below hb1)))
  go_ret
  exact ⟨rfl,K0.out.later H1.out.bel⟩
 ·have cW:=fun W (hW : Below V.heap.size V W)=>wFramed_yes x L W (hX.later hW) hF (hU.below hW) hf
  have hmx:=(rcB_max ((formR_iff _).1 hf)).2
  have hfl:=frameB_len (rcB (rcT x L))
  rw [if_pos rfl,if_pos rfl]
  have cA : ∀ W1 a n c,LawK W W1 g d P→BAt W1 W1.heap.size a n (frameB (rcB (rcT x L)))→n≤1099511627776→Calls Tryz.prog 63 #[.pointer (some ⟨g,0,none⟩),.slice a n c] W1 fun e w'=>e = .returned (.int .i64 (appE d (frameB (rcB (rcT x L)))))∧LawK W w' g (appD d (frameB (rcB (rcT x L)))) P:=fun W1 a n c h1 h2 h3=>append_k h1 hl hM h2 h3
  clear hX hF hU hf h hl hM
  generalize rcB (rcT x L) = B at *
  generalize frameB B = F at *
  go_enter Tryz.func27,Tryz.ntmps27
  go_wp2_with (first | (go_at_call 68;((with_reducible refine (cW _ H0.out.bel).mono ?_);rintro e w1 ⟨a1,n1,c1,rfl,ho1,hb1⟩;have H1:=hid (H0.out.below hb1);have hn1:=own_len ho1;have L1:=hid (BAt.of_own ho1))) | (go_at_call 63;((with_reducible refine (cA _ _ _ _ (K0.out.later H1.out.bel) L1.out (by omega)).mono ?_);rintro e w2 ⟨rfl,h2⟩;have K2:=hid h2)))
  go_ret
  exact ⟨rfl,K2.out⟩
/-- What Open answers, and leaves. -/
def opnB (d : Dk) : List UInt8:=d.la ++ d.re
noncomputable def opnE (d : Dk) : Int:=if d.down = true then 8 else if tellN (opnB d) = (opnB d).length then 0 else repE d ((opnB d).take (tellN (opnB d)))
noncomputable def opnD (d : Dk) : Dk:=if d.down = true then d else if tellN (opnB d) = (opnB d).length then d else repD d ((opnB d).take (tellN (opnB d)))
noncomputable def opnL (d : Dk) : List Rc:=if opnE d = 0 then tellB (opnB d) else []
theorem tellsN_le (ls : List (List UInt8)) : tellsN ls≤(ls.map fun l=>8 + l.length).sum:=by
 induction ls with
 | nil=>exact Nat.le_refl _
 | cons b r ih =>
  unfold tellsN
  rw [List.map_cons,List.sum_cons]
  split
  ·omega
  ·omega
theorem all_sum (L : List UInt8) : ((allB L).map fun l=>8 + l.length).sum = usedB L:=by
 generalize hn : L.length = n
 induction n using Nat.strongRecOn generalizing L with
 | ind n ih =>
  by_cases he : uwErr L = 0
  ·obtain ⟨e1,e2⟩:=all_yes he
   obtain ⟨h8,_,_,_⟩:=uwErr_zero he
   rw [e1,e2,List.map_cons,List.sum_cons,bodyB_len he,ih (L.drop (8 + lenB L)).length (by rw [List.length_drop];omega) _ rfl]
  ·rw [(all_no he).1,(all_no he).2];rfl
theorem tellN_le (L : List UInt8) : tellN L≤L.length:=by
 have h1:=tellsN_le (allB L)
 rw [all_sum] at h1
 exact Nat.le_trans h1 (used_le L)
theorem open_own (h : LawK W V g d P) (hl : d.fuse < 9223372036854775808) (hM : BndD d 1099511627776) (hU : Tabs V) :
  Calls Tryz.prog 29 #[.pointer (some ⟨g,0,none⟩)] V fun e w' => ∃ a n c L,e = .returned (.tuple #[.slice a n c,.int .i64 (opnE d)])∧LawK W w' g (opnD d) (fun X=>P X∧RcsOwn V.heap.size X a n c L)∧rcS L = opnL d∧n≤c∧c≤maxLen:=by
 have K0:=hid h
 have cD:=down_k h
 cases hd : d.down
 rotate_left
 ·rw [hd] at cD
  have eE : opnE d = 8:=by unfold opnE;rw [if_pos hd]
  have eD : opnD d = d:=by unfold opnD;rw [if_pos hd]
  have eL : opnL d = []:=by unfold opnL;rw [eE];rfl
  rw [eE,eD,eL]
  clear eE eD eL hU hl hM h hd
  go_enter Tryz.func29,Tryz.ntmps29
  go_wp2_with (go_at_call 66;((with_reducible refine cD.mono ?_);rintro e w1 ⟨rfl,rfl⟩))
  go_ret2
  exact ⟨none,0,0,[],rfl,K0.out.addO (Below.refl _ _) (RcsOwn.nil _ _) (Nat.le_refl _),rfl,Nat.le_refl _,by unfold maxLen;omega⟩
 rw [hd] at cD
 have cB:=bytes_k h hM
 have hln : d.la.length + d.re.length = (opnB d).length:=by unfold opnB;rw [List.length_append]
 have hln2 : (opnB d).length≤1099511627776:=by have:=hM.1;omega
 have hle:=tellN_le (opnB d)
 have cT : ∀ W1 a n c,Below V.heap.size V W1→BAt W1 W1.heap.size a n (opnB d)→n = (opnB d).length→n≤c→c≤maxLen→Calls Tryz.prog 70 #[.slice a n c] W1 (ToldO W1 (opnB d)):=fun W1 a n c hW hb hn hnc hcm=>told_any a n c (opnB d) W1 hb hnc hcm (by omega) (hU.below hW)
 have cR : ∀ W1 a n c k,LawK W W1 g d k→BAt W1 W1.heap.size a n ((opnB d).take (tellN (opnB d)))→n≤1099511627776→Calls Tryz.prog 71 #[.pointer (some ⟨g,0,none⟩),.slice a n c] W1 fun e w'=>e = .returned (.int .i64 (repE d ((opnB d).take (tellN (opnB d)))))∧LawK W w' g (repD d ((opnB d).take (tellN (opnB d)))) k:=fun W1 a n c k h1 h2 h3=>replace_k h1 hl h2 h3
 have eE : opnE d = if tellN (opnB d) = (opnB d).length then 0 else repE d ((opnB d).take (tellN (opnB d))):=by unfold opnE;rw [hd];rfl
 have eD : opnD d = if tellN (opnB d) = (opnB d).length then d else repD d ((opnB d).take (tellN (opnB d))):=by unfold opnD;rw [hd];rfl
 have eL : opnL d = if opnE d = 0 then tellB (opnB d) else []:=rfl
 rw [eE] at eL
 rw [eE,eD,eL]
 have hN : d.la ++ d.re = opnB d:=rfl
 rw [hN] at cB
 clear eE eD eL hU hM h hd hN hl
 generalize repE d ((opnB d).take (tellN (opnB d))) = E at *
 generalize repD d ((opnB d).take (tellN (opnB d))) = D' at *
 generalize opnB d = B at *
 by_cases hu : tellN B = B.length
 ·rw [if_pos hu,if_pos hu,if_pos rfl]
  clear cR hle
  go_enter Tryz.func29,Tryz.ntmps29
  go_upto_region 4 with (first | (go_at_call 66;((with_reducible refine cD.mono ?_);rintro e w1 ⟨rfl,rfl⟩)) | (go_at_call 24;((with_reducible refine cB.mono ?_);rintro e w1 ⟨a1,n1,c1,rfl,hb1,hn1,hc1,hm1,hB1⟩;have L1:=hid hb1;have B1:=hid hB1;clear hb1 hB1)))
  obtain rfl : n1 = B.length:=by omega
  have cT1:=cT _ _ _ _ B1.out L1.out rfl hc1 hm1
  have HU:=hid hu
  clear hu cT hln hn1
  generalize B.length = z at *
  go_wp2_with (go_at_call 70;((with_reducible refine cT1.mono ?_);rintro e w2 ⟨a2,n2,c2,D,rfl,hb2,hL2,hS2,hD2,hc2,hm2,hO2⟩;rw [HU.out];have B2:=hid hb2;have OO:=hid hO2;have DD:=hid hD2;clear hb2 hL2 hS2 hD2 hO2))
  go_ret2
  exact ⟨a2,n2,c2,D,by first | rfl | simp [*],(K0.out.later B1.out).addO B2.out OO.out B1.out.size,DD.out,hc2,hm2⟩
 ·rw [if_neg hu,if_neg hu]
  have hlt : tellN B < B.length:=by omega
  have hT : Hid (∀ W1 a n,BAt W1 W1.heap.size a n B→BAt W1 W1.heap.size a (tellN B) (B.take (tellN B))):=fun W1 a n h=>h.take (by have:=h.len;omega)
  generalize hz : tellN B = z at *
  have HZ:=hid hz
  clear hz
  by_cases hE : E = 0
  ·subst hE
   rw [if_pos rfl]
   go_enter Tryz.func29,Tryz.ntmps29
   go_upto_region 4 with (first | (go_at_call 66;((with_reducible refine cD.mono ?_);rintro e w1 ⟨rfl,rfl⟩)) | (go_at_call 24;((with_reducible refine cB.mono ?_);rintro e w1 ⟨a1,n1,c1,rfl,hb1,hn1,hc1,hm1,hB1⟩;have L1:=hid hb1;have B1:=hid hB1;clear hb1 hB1)))
   obtain rfl : n1 = B.length:=by omega
   obtain ⟨b1,off1,rfl,_⟩:=L1.out.addr (by omega)
   have cT1:=cT _ _ _ _ B1.out L1.out rfl hc1 hm1
   have hq1 : ¬ (z : Int) = ((B.length : Nat) : Int):=by omega
   have hzc : z≤c1:=by omega
   have hz4 : z≤1099511627776:=by omega
   clear hu hn1 cT hln hle
   go_upto_region 8 with (first | (go_at_call 70;((with_reducible refine cT1.mono ?_);rintro e w2 ⟨a2,n2,c2,D,rfl,hb2,hL2,hS2,hD2,hc2,hm2,hO2⟩;rw [HZ.out];have LK:=hid ((K0.out.later B1.out).addO hb2 hO2 B1.out.size);have L2:=hid (hT.out _ _ _ ((L1.out.below hb2 (Nat.le_refl _)).more hb2.size));have DD:=hid hD2;clear hb2 hL2 hS2 hD2 hO2)) | (go_at_call 71;((with_reducible refine (cR _ _ _ _ _ LK.out L2.out hz4).mono ?_);rintro e w3 ⟨rfl,h3⟩;have K3:=hid h3;clear h3)))
   go_wp2
   go_ret2
   exact ⟨a2,n2,c2,D,by first | rfl | simp [*],K3.out,DD.out,hc2,hm2⟩
  ·rw [if_neg hE]
   have q1 : (E != 0) = true:=by simp [hE]
   have q2 : (E == 0) = false:=by simp [hE]
   go_enter Tryz.func29,Tryz.ntmps29
   go_upto_region 4 with (first | (go_at_call 66;((with_reducible refine cD.mono ?_);rintro e w1 ⟨rfl,rfl⟩)) | (go_at_call 24;((with_reducible refine cB.mono ?_);rintro e w1 ⟨a1,n1,c1,rfl,hb1,hn1,hc1,hm1,hB1⟩;have L1:=hid hb1;have B1:=hid hB1;clear hb1 hB1)))
   obtain rfl : n1 = B.length:=by omega
   obtain ⟨b1,off1,rfl,_⟩:=L1.out.addr (by omega)
   have cT1:=cT _ _ _ _ B1.out L1.out rfl hc1 hm1
   have hq1 : ¬ (z : Int) = ((B.length : Nat) : Int):=by omega
   have hzc : z≤c1:=by omega
   have hz4 : z≤1099511627776:=by omega
   clear hu hn1 cT hln hle
   go_upto_region 8 with (first | (go_at_call 70;((with_reducible refine cT1.mono ?_);rintro e w2 ⟨a2,n2,c2,D,rfl,hb2,hL2,hS2,hD2,hc2,hm2,hO2⟩;rw [HZ.out];have LK:=hid ((K0.out.later B1.out).addO hb2 hO2 B1.out.size);have L2:=hid (hT.out _ _ _ ((L1.out.below hb2 (Nat.le_refl _)).more hb2.size));have DD:=hid hD2;clear hb2 hL2 hS2 hD2 hO2)) | (go_at_call 71;((with_reducible refine (cR _ _ _ _ _ LK.out L2.out hz4).mono ?_);rintro e w3 ⟨rfl,h3⟩;have K3:=hid h3;clear h3)))
   go_wp2
   go_ret2
   exact ⟨none,0,0,[],by first | rfl | simp [*],K3.out.mono fun V h=>⟨h.1,RcsOwn.nil _ V⟩,rfl,Nat.le_refl _,by unfold maxLen;omega⟩
theorem open_k (h : LawK W V g d P) (hl : d.fuse < 9223372036854775808) (hM : BndD d 1099511627776) (hU : Tabs V) :
  Calls Tryz.prog 29 #[.pointer (some ⟨g,0,none⟩)] V fun e w' => ∃ a n c L,e = .returned (.tuple #[.slice a n c,.int .i64 (opnE d)])∧LawK W w' g (opnD d) (fun X=>P X∧RcsAt X a n L)∧rcS L = opnL d∧n≤c∧c≤maxLen :=
 (open_own h hl hM hU).mono fun e w' ⟨a,n,c,L,he,hk,h1⟩=>⟨a,n,c,L,he,hk.mono fun V h=>⟨h.1,h.2.at_⟩,h1⟩
end
theorem cells_ldK {w : World} {b off : Nat} {x : RcM} (h : ∀ j u,(rcV x).toList[j]? = some u→w.cell? ⟨b,off + j,none⟩ = some u) : (Go.Proofs.YtcfmifongbapkaaGreatDoor.ldK (.pointer (some ⟨b,off,none⟩))).run Tryz.prog w = .ok (.agg (rcV x)) w:=by
 have x0 : w.cell? ⟨b,off,none⟩ = some (.int .i64 x.k):=h 0 _ rfl
 have x1:=h 1 _ rfl;have x2:=h 2 _ rfl;have x3:=h 3 _ rfl;have x4:=h 4 _ rfl;have x5:=h 5 _ rfl;have x6:=h 6 _ rfl;have x7:=h 7 _ rfl;have x8:=h 8 _ rfl;have x9:=h 9 _ rfl;have x10:=h 10 _ rfl;have x11:=h 11 _ rfl;have x12:=h 12 _ rfl;have x13:=h 13 _ rfl;have x14:=h 14 _ rfl
 show (Instr.loadAt 36 (.pointer (some ⟨b,off,none⟩))).run Tryz.prog w = _
 simp only [Instr.loadAt,Instr.sureAddr,Sem.run_bind,Sem.run_pure,Result.andThen_ok]
 simp [go_sem,Tryz.underlying36,x0,x1,x2,x3,x4,x5,x6,x7,x8,x9,x10,x11,x12,x13,x14]
/-- Records that came in: they lie in memory. -/
structure RcsRaw (W : World) (a : Option Addr) (n : Nat) (L : List RE) : Prop where
 len : L.length = n
 row : RowAt W W.heap.size a n 15 (L.flatMap rcC)
 all : ∀ z ∈ L,RcAt W z.1 z.2
section
variable {W W' : World} {n : Nat} {a : Option Addr} {L : List RE}
theorem RcsRaw.later (h : RcsRaw W a n L) (hb : Below W.heap.size W W') : RcsRaw W' a n L:=⟨h.len,(h.row.below hb (Nat.le_refl _)).more hb.size,fun z hz=>(h.all z hz).later hb⟩
theorem RcsAt.raw (h : RcsAt W a n L) : RcsRaw W a n L:=⟨h.len,h.row,fun z hz=>(h.all z hz).1⟩
theorem RcsRaw.at_ (h : RcsRaw W a n L) {i : Nat} (hi : i < L.length) : ∃ b0 off,a = some ⟨b0,off,none⟩∧b0 < W.heap.size∧∀ W',Below W.heap.size W W'→(Go.Proofs.YtcfmifongbapkaaGreatDoor.ldK (.pointer (some ⟨b0,off + i * 15,none⟩))).run Tryz.prog W' = .ok (.agg (rcV (L[i]'hi).1)) W'∧W'.cell? ⟨b0,off + i * 15 + 14,none⟩ = some (.slice (L[i]'hi).1.da (L[i]'hi).1.dn (L[i]'hi).1.dc):=by
 obtain ⟨b0,off,ha,hb,hc⟩:=h.row.addr (by have:=h.len;omega)
 have key : ∀ W',Below W.heap.size W W'→∀ (j : Nat) (u : Value),(rcV (L[i]'hi).1).toList[j]? = some u→W'.cell? ⟨b0,off + i * 15 + j,none⟩ = some u:=fun W' hW j u hu=>by
  have hj : j < 15:=(List.getElem?_eq_some_iff.1 hu).1
  have h1:=hc (i * 15 + j) u (by rw [flat_get rcC 15 rcC_len L i j hi hj];exact hu)
  rw [Nat.add_assoc]
  exact (World.cell?_of_block (hW.block b0 hb)).trans h1
 exact ⟨b0,off,ha,hb,fun W' hW=>⟨cells_ldK (key W' hW),key W' hW 14 _ rfl⟩⟩
end
theorem plain_any (x : RcM) (w : World) : Calls Tryz.prog 12 #[.agg (rcV x)] w fun e w'=>e = .returned (.agg (rcV x))∧Below w.heap.size w w':=by
 have H0:=hid (((Boxs.start w).more (rcV x) 36).more zeroRV 47)
 have hs : (w.alloc (.cells (rcV x) 36)).heap.size = w.heap.size + 1:=by simp
 rw [hs] at H0
 clear hs
 have hl : ∀ b ∈ [(w.heap.size,rcV x,36)],b.1≠w.heap.size + 1:=by simp
 go_enter Tryz.func12,Tryz.ntmps12
 go_upto_region 1 with (fail)
 generalize (w.alloc (.cells (rcV x) 36)).alloc (.cells zeroRV 47) = W0 at *
 have x0:=(H0.out.get 1 _ _ _ rfl).cell 0 _ rfl;have x1:=(H0.out.get 1 _ _ _ rfl).cell 1 _ rfl;have x2:=(H0.out.get 1 _ _ _ rfl).cell 2 _ rfl;have x3:=(H0.out.get 1 _ _ _ rfl).cell 3 _ rfl;have x4:=(H0.out.get 1 _ _ _ rfl).cell 4 _ rfl;have x5:=(H0.out.get 1 _ _ _ rfl).cell 5 _ rfl;have x6:=(H0.out.get 1 _ _ _ rfl).cell 6 _ rfl;have x7:=(H0.out.get 1 _ _ _ rfl).cell 7 _ rfl;have x8:=(H0.out.get 1 _ _ _ rfl).cell 8 _ rfl;have x9:=(H0.out.get 1 _ _ _ rfl).cell 9 _ rfl;have x10:=(H0.out.get 1 _ _ _ rfl).cell 10 _ rfl;have x11:=(H0.out.get 1 _ _ _ rfl).cell 11 _ rfl;have x12:=(H0.out.get 1 _ _ _ rfl).cell 12 _ rfl;have x13:=(H0.out.get 1 _ _ _ rfl).cell 13 _ rfl;have x14:=(H0.out.get 1 _ _ _ rfl).cell 14 _ rfl
 have HZ : BoxC W0 (w.heap.size + 1) (rcV zeroR) 47:=H0.out.get 0 _ _ _ rfl
 go_wp2_with (refine wpList_store_r rfl _ _ rfl (w.heap.size + 1) x rfl rfl zeroR HZ ?_)
 have F:=H0.out.fillK (by omega) hl (rcV x)
 have z0:=(F.get 0 _ _ _ rfl).cell 0 _ rfl;have z1:=(F.get 0 _ _ _ rfl).cell 1 _ rfl;have z2:=(F.get 0 _ _ _ rfl).cell 2 _ rfl;have z3:=(F.get 0 _ _ _ rfl).cell 3 _ rfl;have z4:=(F.get 0 _ _ _ rfl).cell 4 _ rfl;have z5:=(F.get 0 _ _ _ rfl).cell 5 _ rfl;have z6:=(F.get 0 _ _ _ rfl).cell 6 _ rfl;have z7:=(F.get 0 _ _ _ rfl).cell 7 _ rfl;have z8:=(F.get 0 _ _ _ rfl).cell 8 _ rfl;have z9:=(F.get 0 _ _ _ rfl).cell 9 _ rfl;have z10:=(F.get 0 _ _ _ rfl).cell 10 _ rfl;have z11:=(F.get 0 _ _ _ rfl).cell 11 _ rfl;have z12:=(F.get 0 _ _ _ rfl).cell 12 _ rfl;have z13:=(F.get 0 _ _ _ rfl).cell 13 _ rfl;have z14:=(F.get 0 _ _ _ rfl).cell 14 _ rfl
 exact bodyPost_ret (v:=.agg (rcV x)) (by simp [results,Tryz.results12,go_sem,z0,z1,z2,z3,z4,z5,z6,z7,z8,z9,z10,z11,z12,z13,z14]) rfl ⟨rfl,F.bel⟩
noncomputable def fewRc (z : RE) : Bool:=fewT z.2.rs z.2.ws && decide (z.1.dn≤70000)
theorem fewRc_F {w : World} {z : RE} (h : RcAt w z.1 z.2) (hf : fewRc z = true) : RcF z.1:=by
 unfold fewRc at hf
 simp only [Bool.and_eq_true,decide_eq_true_eq] at hf
 have a1:=fewT_len hf.1
 have b1:=h.cm.tx.lenR
 have b2:=h.cm.tx.lenW
 exact ⟨by omega,by omega,by omega⟩
theorem rFew_rec (x : RcM) (L : RcL) (w : World) (h : RcAt w x L) : Calls Tryz.prog 33 #[.agg (rcV x)] w (Says w (fewRc (x,L))):=by
 have H0:=hid ((Boxs.start w).more (rcV x) 47)
 have cF:=fun W (hW : Below w.heap.size w W)=>dFew_any x.cm L.rs L.ws W (h.cm.later hW)
 have x4:=(H0.out.get 0 _ _ _ rfl).cell 4 _ rfl;have x5:=(H0.out.get 0 _ _ _ rfl).cell 5 _ rfl;have x6:=(H0.out.get 0 _ _ _ rfl).cell 6 _ rfl;have x7:=(H0.out.get 0 _ _ _ rfl).cell 7 _ rfl;have x8:=(H0.out.get 0 _ _ _ rfl).cell 8 _ rfl;have x9:=(H0.out.get 0 _ _ _ rfl).cell 9 _ rfl;have x10:=(H0.out.get 0 _ _ _ rfl).cell 10 _ rfl;have x11:=(H0.out.get 0 _ _ _ rfl).cell 11 _ rfl;have x12:=(H0.out.get 0 _ _ _ rfl).cell 12 _ rfl;have x13:=(H0.out.get 0 _ _ _ rfl).cell 13 _ rfl;have x14:=(H0.out.get 0 _ _ _ rfl).cell 14 _ rfl
 unfold fewRc
 clear h
 simp only
 generalize fewT L.rs L.ws = FB at *
 cases FB
 ·go_enter Tryz.func33,Tryz.ntmps33
  go_wp2_with (go_at_call 72;((with_reducible refine (cF _ H0.out.bel).mono ?_);rintro e w1 ⟨rfl,hb1⟩;have H1:=hid (H0.out.below hb1)))
  go_ret
  exact ⟨rfl,H1.out.bel⟩
 ·by_cases hd : x.dn≤70000
  ·have e : decide (x.dn≤70000) = true:=decide_eq_true hd
   have i1 : ((x.dn : Nat) : Int)≤70000:=by omega
   rw [e]
   go_enter Tryz.func33,Tryz.ntmps33
   go_wp2_with (go_at_call 72;((with_reducible refine (cF _ H0.out.bel).mono ?_);rintro e w1 ⟨rfl,hb1⟩;have H1:=hid (H0.out.below hb1);clear x14;have x14:=(H1.out.get 0 _ _ _ rfl).cell 14 _ rfl))
   go_ret
   exact ⟨by first | rfl | simp [*],H1.out.bel⟩
  ·have e : decide (x.dn≤70000) = false:=decide_eq_false hd
   have i1 : ¬ ((x.dn : Nat) : Int)≤70000:=by omega
   rw [e]
   go_enter Tryz.func33,Tryz.ntmps33
   go_wp2_with (go_at_call 72;((with_reducible refine (cF _ H0.out.bel).mono ?_);rintro e w1 ⟨rfl,hb1⟩;have H1:=hid (H0.out.below hb1);clear x14;have x14:=(H1.out.get 0 _ _ _ rfl).cell 14 _ rfl))
   go_ret
   exact ⟨by first | rfl | simp [*],H1.out.bel⟩
abbrev oneR : RcM:=⟨1,0,0,0,zeroM,none,0,0⟩
abbrev oneRV : Array Value:=#[.int .i64 1,.int .u32 0,.int .i64 0,.int .i64 0,.int .i64 0,.int .i64 0,.int .i64 0,.slice none 0 0,.slice none 0 0,.int .i64 0,.int .i64 0,.int .i64 0,.int .u64 0,.bool false,.slice none 0 0]
theorem one_form : formR (rcT oneR noLR) = true:=(formR_iff _).2 (.inl ⟨rfl,by decide,rfl,rfl,rfl⟩)
theorem one_len : (frameB (rcB (rcT oneR noLR))).length = 14:=by
 rw [frameB_len]
 show 8 + (putB 1 1 ++ balBytes (0,0)).length = 14
 rw [List.length_append,putB_len,balBytes_len]
theorem one_add : addE (newD 100) (rcT oneR noLR) = 0:=by
 unfold addE appE
 rw [if_pos one_form]
 have e : fullA (newD 100) (frameB (rcB (rcT oneR noLR))) = false:=by
  unfold fullA
  rw [one_len];decide
 rw [e];rfl
theorem one_len2 : (addD (newD 100) (rcT oneR noLR)).la.length + (addD (newD 100) (rcT oneR noLR)).re.length = 14:=by
 unfold addD appD
 rw [if_pos one_form]
 have e : fullA (newD 100) (frameB (rcB (rcT oneR noLR))) = false:=by
  unfold fullA
  rw [one_len];decide
 rw [e]
 show (goesD (newD 100)).la.length + ((newD 100).re ++ _).length = 14
 rw [goes_la,List.length_append,one_len];rfl
theorem new_opn (n : Int) : opnE (newD n) = 0∧opnD (newD n) = newD n∧opnL (newD n) = []:=by
 have e : tellN (opnB (newD n)) = (opnB (newD n)).length:=tell_nil.2
 have e1 : opnE (newD n) = 0:=by unfold opnE;rw [if_pos e];rfl
 refine ⟨e1,by unfold opnD;rw [if_pos e];rfl,?_⟩
 unfold opnL
 rw [if_pos e1];exact tell_nil.1
theorem awake13_any (W : World) (hU : Tabs W) : Calls Tryz.prog 8 #[] W (Says W true):=by
 have cN : Calls Tryz.prog 20 #[.int .i64 100] W fun e w'=>e = .returned (.pointer (some ⟨W.heap.size,0,none⟩))∧LawK W w' W.heap.size (newD 100) (fun _=>True):=new_k 100 (by omega) (Below.refl _ _)
 have TU : Hid (∀ V,Below W.heap.size W V→Tabs V):=fun V hV=>hU.below hV
 have cO : ∀ V P,LawK W V W.heap.size (newD 100) P→Calls Tryz.prog 29 #[.pointer (some ⟨W.heap.size,0,none⟩)] V fun e w' => ∃ a c,e = .returned (.tuple #[.slice a 0 c,.int .i64 0])∧LawK W w' W.heap.size (newD 100) (fun _=>True):=fun V P h=>(open_k h (by show (-1 : Int) < _;omega) ((BndD.new 100).mono (by omega)) (TU.out _ h.bel)).mono fun e w' ⟨a,n,c,L,he,hk,hL,_,_⟩=>by
  obtain ⟨n1,n2,n3⟩:=new_opn 100
  rw [n1] at he;rw [n2] at hk;rw [n3] at hL
  have hn : n = 0:=by
   have h1:=hk.get.2.len
   have h2 : (rcS L).length = 0:=by rw [hL];rfl
   rw [rcS_len] at h2;omega
  subst hn
  exact ⟨a,c,he,hk.mono fun _ _=>trivial⟩
 have cA : ∀ V P,LawK W V W.heap.size (newD 100) P→Calls Tryz.prog 27 #[.pointer (some ⟨W.heap.size,0,none⟩),.agg oneRV] V fun e w'=>e = .returned (.int .i64 0)∧LawK W w' W.heap.size (addD (newD 100) (rcT oneR noLR)) (fun _=>True):=fun V P h=>by
  have h1:=add_k (x:=oneR) (L:=noLR) h (by show (-1 : Int) < _;omega) ((BndD.new 100).mono (by omega)) ⟨CmAt.zero,BAt.nil,by show 0 < 4294967296;decide⟩ ⟨Nat.zero_le _,Nat.zero_le _,Nat.zero_le _⟩ (TU.out _ h.bel)
  rw [one_add] at h1
  exact h1.mono fun e w' h=>⟨h.1,h.2.mono fun _ _=>trivial⟩
 have cB : ∀ V,LawK W V W.heap.size (addD (newD 100) (rcT oneR noLR)) (fun _=>True)→Calls Tryz.prog 24 #[.pointer (some ⟨W.heap.size,0,none⟩)] V fun e w' => ∃ a c,e = .returned (.slice a 14 c)∧Below V.heap.size V w':=fun V h=>(bytes_k h ⟨by rw [one_len2];omega,by unfold addD appD;rw [if_pos one_form];split;exact Nat.zero_le _;split;exact Nat.zero_le _;show (goesD (newD 100)).half.length≤_;rw [goes_half];exact Nat.zero_le _⟩).mono fun e w' ⟨a,n,c,he,_,hn,_,_,hb⟩=>by
  rw [one_len2] at hn;subst hn
  exact ⟨a,c,he,hb⟩
 clear hU
 generalize addD (newD 100) (rcT oneR noLR) = D at *
 go_enter Tryz.func8,Tryz.ntmps8
 go_wp2_with (first
  | (go_at_call 20;((with_reducible refine cN.mono ?_);rintro e w1 ⟨rfl,h1⟩;have K1:=hid h1;clear h1))
  | (go_at_call 29;((with_reducible refine (cO _ _ K1.out).mono ?_);rintro e w2 ⟨a2,c2,rfl,h2⟩;have K2:=hid h2;clear h2))
  | (go_at_call 27;((with_reducible refine (cA _ _ K2.out).mono ?_);rintro e w3 ⟨rfl,h3⟩;have K3:=hid h3;clear h3))
  | (go_at_call 24;((with_reducible refine (cB _ K3.out).mono ?_);rintro e w4 ⟨a4,c4,rfl,h4⟩;have K4:=hid (K3.out.later h4);clear h4)))
 go_ret
 exact ⟨rfl,K4.out.bel⟩
/-- Are the first ones of a list, at least so many, just these? -/
noncomputable def frontB (L L' : List RE) (m : Int) : Bool:=decide (m≤(L.length : Int)) && (decide (L.length≤L'.length) && eqB (rcS L) ((rcS L').take L.length))
end Go.Proofs.YtcfmifongbapkaaGreatDoor
