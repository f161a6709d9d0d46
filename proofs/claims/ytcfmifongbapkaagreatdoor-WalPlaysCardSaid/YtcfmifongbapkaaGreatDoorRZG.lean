/- Contracts of disk's Bytes, Sync, Append. Conditions: the disk lies in memory. Contract of disk's Append. Conditions: the disk lies in memory, and what is appended. Contract of disk's Replace. Conditions: the disk lies in memory, and what is laid. Contracts of disk's behind and Cut. The disk's contracts in a law's words: a disk that the law made, its rows beside it; the law's awake. No condition. -/
import Derived.Test.YtcfmifongbapkaaGreatDoorRZF
import Derived.Lib.SlBytesConst
namespace Go.Proofs.YtcfmifongbapkaaGreatDoor
set_option maxHeartbeats 1000000
open Go.RowKit
open Go.Lib (hid)
set_option linter.unusedVariables false
set_option linter.unusedSimpArgs false
theorem BAt.cells {w : World} {B m : Nat} {a : Option Addr} {l : List UInt8} (h : BAt w B a m l) : CellsAt w a m (bcells l):=by
 refine ⟨by rw [bcells_len,h.len],?_⟩
 rcases h with ⟨hn,h | ⟨b,off,ha,hb,hc⟩⟩
 ·exact .inl h
 ·refine .inr ⟨b,off,ha,fun j u hu=>?_⟩
  obtain ⟨hj,rfl⟩:=bcells_get hu
  exact hc j hj
theorem OwnB.parts {W : World} {v : Value} {l : List UInt8} (h : OwnB W v l) : ∃ a n c,v = .slice a n c∧n = l.length∧W.ownsRow 0 5 1 (.slice a n c) n (bcells l)∧BAt W W.heap.size a n l∧n≤c∧c≤maxLen:=by
 obtain ⟨a,c,rfl,h2,h3⟩:=h.form
 exact ⟨a,_,c,rfl,rfl,h,BAt.of_own h,h2,h3⟩
theorem Fr.grown {W W' : World} {v : Value} (hg : W.grownBy W' v.ownBlock) : Fr W W' (bk v) :=
 ⟨hg.os,hg.tape,hg.output,hg.size,fun i hi hn=>hg.block i hi fun e=>hn (bk_mem.2 e.symm)⟩
theorem Far.grown {W : World} {v v1 nx : Value} {l : List UInt8} (h : Far v nx) (hn : OwnB W nx l) (hat : v1.ownBlock = v.ownBlock∨v1.ownBlock = some W.heap.size) : Far v1 nx:=by
 intro j hj e
 rcases hat with h1 | h1
 ·exact h j (h1 ▸ hj) e
 ·rw [hj] at h1;injection h1 with h1
  have:=hn.lt j e;omega
section
variable {W w1 : World} {g : Nat} {d : Dk} {v nx v1 : Value} {left : Int} {l : List UInt8}
theorem DkP.box_grown (h : DkP W g d v nx left) (hg : W.grownBy w1 v.ownBlock) : BoxC w1 g #[.int .i64 d.size,v,.int .i64 d.la.length,.bool (decide (0≤d.fuse)),.int .i64 left,.bool d.down,.bool d.torn,nx] 111:=h.box.grown hg (fun e=>h.far_box.1 e.symm)
theorem DkP.appended {k n : Nat} (h : DkP W g d v nx left) (ho : w1.ownsRow 0 5 1 v1 (k + n) (bcells (d.la ++ d.re) ++ bcells l)) (hg : W.grownBy w1 v.ownBlock) (hat : v1.ownBlock = v.ownBlock∨v1.ownBlock = some W.heap.size) :
  DkP (w1.setCell ⟨g,1,none⟩ v1) g { d with re:=d.re ++ l } v1 nx left∧Fr W (w1.setCell ⟨g,1,none⟩ v1) (g :: (bk v ++ bk nx)):=by
 have hb:=h.box_grown hg
 have ho1 : OwnB w1 v1 (d.la ++ (d.re ++ l)):=by
  rw [← List.append_assoc]
  rw [← bcells_app] at ho
  exact OwnB.of_own ho
 have hne : v1.ownBlock≠some g:=ho1.not_box hb (by decide)
 have hnx : OwnB w1 nx d.half:=h.nxt.fr (Fr.grown hg) fun j hj e=>h.far j (bk_mem.1 e) hj
 refine ⟨⟨hb.set 1 v1,ho1.set hne _ _,hnx.set h.far_box.2 _ _,h.left,h.sz,h.far.grown h.nxt hat⟩,?_⟩
 exact ((Fr.grown hg).wide (fun i hi=>List.mem_cons_of_mem _ (List.mem_append_left _ hi))).trans (Fr.set w1 g 1 v1) (fun i hi=>.inl (by simp at hi;simp [hi]))
theorem bytes_any (h : DkP W g d v nx left) (hM : d.la.length + d.re.length≤1099511627776) : Calls Tryz.prog 24 #[.pointer (some ⟨g,0,none⟩)] W (NewB W (d.la ++ d.re)):=by
 obtain ⟨a,n,c,rfl,hn,ho,hb,hnc,hcm⟩:=h.row.parts
 obtain ⟨y0,y1,y2,y3,y4,y5,y6,y7⟩:=h.box.eight
 have cC:=bclone_any a n c _ W hb (by rw [hn,List.length_append];exact hM)
 clear h hn ho hb hM
 go_enter Tryz.func24,Tryz.ntmps24
 go_wp2_with (go_at_call 65;((with_reducible refine cC.mono ?_);rintro e w1 ⟨a1,n1,c1,rfl,ho,hb⟩;have H1:=hid (And.intro ho hb);clear ho hb))
 go_ret
 exact ⟨a1,n1,c1,rfl,H1.out.1,H1.out.2⟩
theorem sync_any (h : DkP W g d v nx left) (hl : d.fuse < 9223372036854775808) : Calls Tryz.prog 26 #[.pointer (some ⟨g,0,none⟩)] W fun e w'=>e = .returned (.int .i64 (synE d))∧(∃ left',DkP w' g (synD d) v nx left')∧Fr W w' [g]:=by
 have cD:=down_any h.box
 by_cases hd : d.down = true
 ·rw [hd] at cD
  have e1 : synE d = 8:=by unfold synE;rw [if_pos hd]
  have e2 : synD d = d:=by unfold synD;rw [if_pos hd]
  rw [e1,e2]
  have HH:=hid h
  clear h e1 e2 hd hl
  go_enter Tryz.func26,Tryz.ntmps26
  go_wp2_with (go_at_call 66;((with_reducible refine cD.mono ?_);rintro e w1 ⟨rfl,rfl⟩))
  go_ret
  exact ⟨rfl,⟨left,HH.out⟩,Fr.refl _ _⟩
 ·have hd0 : d.down = false:=by simpa using hd
  rw [hd0] at cD
  have cB:=blows_any h hl
  by_cases hz : goesB d = true
  ·rw [hz] at cB
   have e1 : synE d = 8:=by unfold synE;rw [if_neg hd,if_pos hz]
   have e2 : synD d = goesD d:=by unfold synD;rw [if_neg hd,if_pos hz]
   rw [e1,e2]
   clear h e1 e2 hd hd0 hz
   go_enter Tryz.func26,Tryz.ntmps26
   go_wp2_with (first | (go_at_call 66;((with_reducible refine cD.mono ?_);rintro e w1 ⟨rfl,rfl⟩)) | (go_at_call 67;((with_reducible refine cB.mono ?_);rintro e w1 ⟨rfl,h2⟩;have H2:=hid h2;clear h2)))
   go_ret
   exact ⟨rfl,H2.out⟩
  ·have hz0 : goesB d = false:=by simpa using hz
   rw [hz0] at cB
   have e1 : synE d = 0:=by unfold synE;rw [if_neg hd,if_neg hz]
   have e2 : synD d = { goesD d with la:=(goesD d).la ++ (goesD d).re,re:=[] }:=by unfold synD;rw [if_neg hd,if_neg hz,goes_la,goes_re]
   rw [e1,e2]
   clear h e1 e2 hd hd0 hz hz0
   go_enter Tryz.func26,Tryz.ntmps26
   go_upto_region 3 with (first | (go_at_call 66;((with_reducible refine cD.mono ?_);rintro e w1 ⟨rfl,rfl⟩)) | (go_at_call 67;((with_reducible refine cB.mono ?_);rintro e w1 ⟨rfl,⟨left',h2⟩,hf⟩;have H2:=hid h2;have F2:=hid hf;obtain ⟨z0,z1,z2,z3,z4,z5,z6,z7⟩:=h2.box.eight;have z8:=h2.box.frozen 2;clear h2 hf)))
   obtain ⟨a,n,c,rfl,hn,ho,hb,hnc,hcm⟩:=H2.out.row.parts
   have HR : Hid ((∃ left',DkP (w1.setCell ⟨g,2,none⟩ (.int .i64 n)) g { goesD d with la:=(goesD d).la ++ (goesD d).re,re:=[] } (.slice a n c) nx left')∧Fr W (w1.setCell ⟨g,2,none⟩ (.int .i64 n)) [g]):=⟨⟨left',by have:=H2.out.setLast;rw [← hn] at this;exact this⟩,F2.out.trans (Fr.set _ g 2 _) (fun i hi=>.inl hi)⟩
   clear hn ho hb
   go_wp2
   go_ret
   exact ⟨rfl,HR.out⟩
end
section
variable {W : World} {g : Nat} {d : Dk} {v nx : Value} {left : Int} {own : List Nat} {l : List UInt8}
theorem Stp.app {w2 w3 : World} {v1 : Value} {left' : Int} (h : DkP W g d v nx left) (hat : v1.ownBlock = v.ownBlock∨v1.ownBlock = some W.heap.size) (hF : Fr W w2 (g :: (bk v ++ bk nx))) (hf : Fr w2 w3 [g]) {d' : Dk} (h3 : DkP w3 g d' v1 nx left') :
  Stp (fun V own=>PD V g d' own) W w3 (g :: (bk v ++ bk nx)):=by
 refine ⟨g :: (bk v1 ++ bk nx),⟨v1,nx,left',h3,rfl⟩,hF.trans hf (fun i hi=>.inl (by simp at hi;simp [hi])),fun i hi=>?_⟩
 rcases List.mem_cons.1 hi with rfl | hi
 ·exact .inl (List.mem_cons_self ..)
 ·rcases List.mem_append.1 hi with hi | hi
  ·rcases hat with e | e
   ·exact .inl (List.mem_cons_of_mem _ (List.mem_append_left _ (bk_mem.2 (e ▸ bk_mem.1 hi))))
   ·have h1:=bk_mem.1 hi
    rw [e] at h1;injection h1 with h1
    exact .inr (by omega)
  ·exact .inl (List.mem_cons_of_mem _ (List.mem_append_right _ hi))
theorem Stp.from_drew {K : World→List Nat→Prop} {W W' : World} {own : List Nat} {q : Nat} (h : Stp K (W.drewN q) W' own) : Stp K W W' own:=by
 obtain ⟨o,k,f,m⟩:=h
 exact ⟨o,k,⟨f.os,f.tape,f.output,f.size,f.block⟩,m⟩
theorem append_any {a : Option Addr} {n c : Nat} (h : PD W g d own) (hl : d.fuse < 9223372036854775808) (hM : d.la.length + d.re.length≤1099511627776) (hb : BAt W W.heap.size a n l) (hn : n≤1099511627776) :
  Calls Tryz.prog 63 #[.pointer (some ⟨g,0,none⟩),.slice a n c] W fun e w'=>e = .returned (.int .i64 (appE d l))∧Stp (fun V own=>PD V g (appD d l) own) W w' own:=by
 have h0:=h
 obtain ⟨v,nx,left,hp,rfl⟩:=h
 have HS : Hid (∀ q,Stp (fun V own=>PD V g d own) W (W.drewN q) (g :: (bk v ++ bk nx))):=fun q=>Stp.same (h0.below (below_drewN q (Below.refl _ _))) (below_drewN q (Below.refl _ _))
 have cD:=down_any hp.box
 clear h0
 by_cases hd : d.down = true
 ·rw [hd] at cD
  have e1 : appE d l = 8:=by unfold appE;rw [if_pos hd]
  have e2 : appD d l = d:=by unfold appD;rw [if_pos hd]
  rw [e1,e2]
  clear hp e1 e2 hd hl hb hM
  go_enter Tryz.func63,Tryz.ntmps63
  go_wp2_with (go_at_call 66;((with_reducible refine cD.mono ?_);rintro e w1 ⟨rfl,rfl⟩))
  go_ret
  exact ⟨rfl,HS.out 0⟩
 ·have hd0 : d.down = false:=by simpa using hd
  rw [hd0] at cD
  obtain ⟨a0,k,c0,rfl,hk,ho,hbk,hkc,hcm⟩:=hp.row.parts
  have hlen:=hb.len
  have hkM : k≤1099511627776:=by rw [hk,List.length_append];exact hM
  obtain ⟨y0,y1,y2,y3,y4,y5,y6,y7⟩:=hp.box.eight
  obtain ⟨hs0,hs1⟩:=hp.sz
  have fA : fullA d l = decide ((n : Int) > d.size - (k : Int)):=by
   unfold fullA
   rw [hk,List.length_append,← hlen]
   refine decide_eq_decide.2 ⟨fun h=>by omega,fun h=>by omega⟩
  by_cases hf : fullA d l = true
  ·have e1 : appE d l = 7:=by unfold appE;rw [if_neg hd,if_pos hf]
   have e2 : appD d l = d:=by unfold appD;rw [if_neg hd,if_pos hf]
   rw [e1,e2]
   rw [hf] at fA
   have fA':=fA.symm
   generalize d.size = s at *
   clear hp e1 e2 hd hd0 hl hM hk ho hbk hf hlen fA hb
   go_enter Tryz.func63,Tryz.ntmps63
   go_upto_region 3 with (go_at_call 66;((with_reducible refine cD.mono ?_);rintro e w1 ⟨rfl,rfl⟩))
   go_quiet (fail)
   go_wp2
   go_ret
   exact ⟨rfl,HS.out _⟩
  ·have hf0 : fullA d l = false:=by simpa using hf
   rw [hf0] at fA
   have fA':=fA.symm
   have HP:=hid hp
   obtain ⟨i0,hi,hz0,hz1,hz2⟩:=info_parts Tryz.info5
   have e1 : appE d l = if goesB d then 8 else 0:=by unfold appE;rw [if_neg hd,if_neg hf]
   have e2 : appD d l = goesD { d with re:=d.re ++ l }:=by
    unfold appD goesD
    rw [if_neg hd,if_neg hf]
    split
    ·rfl
    ·split <;> rfl
   have eg : goesB { d with re:=d.re ++ l } = goesB d:=rfl
   rw [e1,e2,← eg]
   have OB:=hid ho
   have HB:=hid hb
   clear e1 e2 hd hd0 hM hk ho hbk hf hlen fA hb eg hf0
   cases hgz : goesB { d with re:=d.re ++ l } with
   | true =>
    rw [if_pos rfl]
    go_enter Tryz.func63,Tryz.ntmps63
    go_upto_region 3 with (go_at_call 66;((with_reducible refine cD.mono ?_);rintro e w1 ⟨rfl,rfl⟩))
    go_quiet (fail)
    have HQ:=hid (HP.out.below (below_drewN nq (Below.refl _ _)))
    go_upto_region 6 with (at_builtin;(refine wpList_append_row _ rfl _ _ 34 rfl 0 5 i0 _ 1 Tryz.underlying34 hi hz0 hz1 hz2 rfl (.slice a0 k c0) k (bcells (d.la ++ d.re)) rfl OB.out a n c (bcells l) rfl HB.out.cells (bcells_one l) (by unfold maxLen;omega) (by omega) (Nat.zero_le _) ?_;intro v1 w1 ho1 hg hat;obtain ⟨a1,c1,rfl,_,_,_⟩:=own_form ho1;have X1:=hid (HQ.out.appended ho1 hg hat);have T1:=hid hat;have bx:=HQ.out.box_grown hg;have z1:=bx.frozen 1;obtain ⟨x0,x1,x2,x3,x4,x5,x6,x7⟩:=bx.eight;clear bx ho1 hg hat))
    have cB:=blows_any X1.out.1 hl
    rw [hgz] at cB
    clear hp cD y0 y1 y2 y3 y4 y5 y6 y7 x0 x1 x2 x3 x4 x5 x6 x7 z1 hgz
    go_wp2_with (go_at_call 67;((with_reducible refine cB.mono ?_);rintro e w2 ⟨rfl,⟨left',h2⟩,hf⟩;have R:=hid (Stp.app HQ.out T1.out X1.out.2 hf h2);clear h2 hf))
    go_ret
    exact ⟨rfl,R.out.from_drew⟩
   | false =>
    rw [if_neg Bool.false_ne_true]
    go_enter Tryz.func63,Tryz.ntmps63
    go_upto_region 3 with (go_at_call 66;((with_reducible refine cD.mono ?_);rintro e w1 ⟨rfl,rfl⟩))
    go_quiet (fail)
    have HQ:=hid (HP.out.below (below_drewN nq (Below.refl _ _)))
    go_upto_region 6 with (at_builtin;(refine wpList_append_row _ rfl _ _ 34 rfl 0 5 i0 _ 1 Tryz.underlying34 hi hz0 hz1 hz2 rfl (.slice a0 k c0) k (bcells (d.la ++ d.re)) rfl OB.out a n c (bcells l) rfl HB.out.cells (bcells_one l) (by unfold maxLen;omega) (by omega) (Nat.zero_le _) ?_;intro v1 w1 ho1 hg hat;obtain ⟨a1,c1,rfl,_,_,_⟩:=own_form ho1;have X1:=hid (HQ.out.appended ho1 hg hat);have T1:=hid hat;have bx:=HQ.out.box_grown hg;have z1:=bx.frozen 1;obtain ⟨x0,x1,x2,x3,x4,x5,x6,x7⟩:=bx.eight;clear bx ho1 hg hat))
    have cB:=blows_any X1.out.1 hl
    rw [hgz] at cB
    clear hp cD y0 y1 y2 y3 y4 y5 y6 y7 x0 x1 x2 x3 x4 x5 x6 x7 z1 hgz
    go_wp2_with (go_at_call 67;((with_reducible refine cB.mono ?_);rintro e w2 ⟨rfl,⟨left',h2⟩,hf⟩;have R:=hid (Stp.app HQ.out T1.out X1.out.2 hf h2);clear h2 hf))
    go_ret
    exact ⟨rfl,R.out.from_drew⟩
end
/-- A row just made, beside a world W. -/
structure Fresh (W V : World) (v1 : Value) (l : List UInt8) : Prop where
 own : OwnB V v1 l
 new : ∀ j,v1.ownBlock = some j→W.heap.size≤j
section
variable {W w1 w2 V : World} {g : Nat} {d : Dk} {v nx v1 : Value} {left left' : Int} {own : List Nat} {l m : List UInt8}
theorem Fresh.made {n : Nat} (ho : w1.ownsRow W.heap.size 5 1 v1 n (bcells l)) : Fresh W w1 v1 l:=⟨OwnB.of_own ho,own_block ho⟩
theorem Fresh.not_in (h : Fresh W V v1 l) (ho : ∀ i ∈ own,i < W.heap.size) : ∀ j,v1.ownBlock = some j→j ∉ own:=fun j hj e=>by have:=ho j e;have:=h.new j hj;omega
theorem Fresh.fr (h : Fresh W w1 v1 l) (hf : Fr w1 w2 own) (ho : ∀ i ∈ own,i < W.heap.size) : Fresh W w2 v1 l:=⟨h.own.fr hf (h.not_in ho),h.new⟩
theorem Fresh.set (h : Fresh W V v1 l) (hg : g < W.heap.size) (i : Nat) (u : Value) : Fresh W (V.setCell ⟨g,i,none⟩ u) v1 l:=⟨h.own.set (fun e=>by have:=h.new _ e;omega) _ _,h.new⟩
theorem DkP.setTorn (h : DkP V g d v nx left) (hF : Fresh W V v1 l) (hg : g < W.heap.size) (hv : ∀ j,v.ownBlock = some j→j < W.heap.size) : DkP ((V.setCell ⟨g,6,none⟩ (.bool true)).setCell ⟨g,7,none⟩ v1) g { d with torn:=true,half:=l } v v1 left:=by
 refine ⟨(h.box.set 6 (.bool true)).set 7 v1,(h.row.set h.far_box.1 _ _).set h.far_box.1 _ _,((hF.set hg _ _).set hg _ _).own,h.left,h.sz,fun j hj e=>?_⟩
 have:=hv j hj;have:=hF.new j e;omega
theorem DkP.setNew {n : Nat} (h : DkP V g d v nx left) (hF : Fresh W V v1 l) (hn : n = l.length) (hg : g < W.heap.size) (hv : ∀ j,nx.ownBlock = some j→j < W.heap.size) : DkP ((V.setCell ⟨g,1,none⟩ v1).setCell ⟨g,2,none⟩ (.int .i64 n)) g { d with la:=l,re:=[] } v1 nx left:=by
 subst hn
 refine ⟨(h.box.set 1 v1).set 2 _,?_,(h.nxt.set h.far_box.2 _ _).set h.far_box.2 _ _,h.left,h.sz,fun j hj e=>?_⟩
 ·show OwnB _ v1 (l ++ [])
  rw [List.append_nil]
  exact ((hF.set hg _ _).set hg _ _).own
 ·have:=hv j e;have:=hF.new j hj;omega
theorem replace_any {a : Option Addr} {n c : Nat} (h : PD W g d own) (hl : d.fuse < 9223372036854775808) (hb : BAt W W.heap.size a n l) (hn : n≤1099511627776) :
  Calls Tryz.prog 71 #[.pointer (some ⟨g,0,none⟩),.slice a n c] W fun e w'=>e = .returned (.int .i64 (repE d l))∧Stp (fun V own=>PD V g (repD d l) own) W w' own:=by
 have h0:=h
 have hlt:=h.lt
 obtain ⟨v,nx,left,hp,rfl⟩:=h
 have HS : Hid (Stp (fun V own=>PD V g d own) W W (g :: (bk v ++ bk nx))):=Stp.same h0 (Below.refl _ _)
 have cD:=down_any hp.box
 clear h0
 by_cases hd : d.down = true
 ·rw [hd] at cD
  have e1 : repE d l = 8:=by unfold repE;rw [if_pos hd]
  have e2 : repD d l = d:=by unfold repD;rw [if_pos hd]
  rw [e1,e2]
  clear hp e1 e2 hd hl hb hlt
  go_enter Tryz.func71,Tryz.ntmps71
  go_wp2_with (go_at_call 66;((with_reducible refine cD.mono ?_);rintro e w1 ⟨rfl,rfl⟩))
  go_ret
  exact ⟨rfl,HS.out⟩
 ·have hd0 : d.down = false:=by simpa using hd
  rw [hd0] at cD
  have hlen:=hb.len
  obtain ⟨y0,y1,y2,y3,y4,y5,y6,y7⟩:=hp.box.eight
  have fA : fullR d l = decide ((n : Int) > d.size):=by
   unfold fullR
   rw [← hlen]
  by_cases hf : fullR d l = true
  ·have e1 : repE d l = 7:=by unfold repE;rw [if_neg hd,if_pos hf]
   have e2 : repD d l = d:=by unfold repD;rw [if_neg hd,if_pos hf]
   rw [e1,e2]
   rw [hf] at fA
   have fA':=fA.symm
   generalize d.size = s at *
   clear hp e1 e2 hd hd0 hl hf hlen fA hb hlt
   go_enter Tryz.func71,Tryz.ntmps71
   go_wp2_with (go_at_call 66;((with_reducible refine cD.mono ?_);rintro e w1 ⟨rfl,rfl⟩))
   go_ret
   exact ⟨rfl,HS.out⟩
  ·have hf0 : fullR d l = false:=by simpa using hf
   rw [hf0] at fA
   have fA':=fA.symm
   have cC:=bclone_any a n c l W hb hn
   have HP:=hid hp
   have HG : Hid (∀ i ∈ g :: (bk v ++ bk nx),i < W.heap.size):=hlt
   have HV : Hid ((∀ j,v.ownBlock = some j→j < W.heap.size)∧∀ j,nx.ownBlock = some j→j < W.heap.size):=⟨hp.row.lt,hp.nxt.lt⟩
   have hB : ∀ V,Below W.heap.size W V→DkP V g d v nx left:=fun V hb=>hp.below hb
   have HB:=hid hB
   cases hz : goesB d with
   | true =>
    have e1 : repE d l = 8:=by unfold repE;rw [if_neg hd,if_neg hf,if_pos hz]
    have e2 : repD d l = { goesD d with torn:=true,half:=l }:=by unfold repD;rw [if_neg hd,if_neg hf,if_pos hz]
    rw [e1,e2]
    clear hp e1 e2 hd hd0 hf hf0 hlen fA hb hlt hB
    go_enter Tryz.func71,Tryz.ntmps71
    go_upto_region 7 with (first | (go_at_call 66;((with_reducible refine cD.mono ?_);rintro e w1 ⟨rfl,rfl⟩)) | (go_at_call 65;((with_reducible refine cC.mono ?_);rintro e w1 ⟨a1,n1,c1,rfl,ho,hb1⟩;have N1:=hid (Fresh.made ho);have B1:=hid hb1;have cB:=blows_any (HB.out _ hb1) hl;rw [hz] at cB;clear ho hb1)) | (go_at_call 67;((with_reducible refine cB.mono ?_);rintro e w2 ⟨rfl,⟨left',h2⟩,hf⟩;have H2:=hid h2;have F2:=hid hf;obtain ⟨x0,x1,x2,x3,x4,x5,x6,x7⟩:=h2.box.eight;have z6:=h2.box.frozen 6;have z7:=h2.box.frozen 7;clear h2 hf)))
    have N2 : Hid (Fresh W w2 (.slice a1 n1 c1) l):=N1.out.fr F2.out (fun i hi=>HG.out i (by simp at hi;simp [hi]))
    have hg0:=HG.out g (List.mem_cons_self ..)
    have HR : Hid (Stp (fun V own=>PD V g { goesD d with torn:=true,half:=l } own) W ((w2.setCell ⟨g,6,none⟩ (.bool true)).setCell ⟨g,7,none⟩ (.slice a1 n1 c1)) (g :: (bk v ++ bk nx))):=by
     refine ⟨_,⟨v,_,left',H2.out.setTorn N2.out hg0 HV.out.1,rfl⟩,?_,fun i hi=>?_⟩
     ·exact (((Fr.of_below B1.out).trans F2.out (fun i hi=>.inl (by simp at hi;simp [hi]))).trans (Fr.set _ g 6 _) (fun i hi=>.inl (by simp at hi;simp [hi]))).trans (Fr.set _ g 7 _) (fun i hi=>.inl (by simp at hi;simp [hi]))
     ·rcases List.mem_cons.1 hi with rfl | hi
      ·exact .inl (List.mem_cons_self ..)
      ·rcases List.mem_append.1 hi with hi | hi
       ·exact .inl (List.mem_cons_of_mem _ (List.mem_append_left _ hi))
       ·exact .inr (N2.out.new i (bk_mem.1 hi))
    clear cB cC cD
    go_wp2
    go_ret
    exact ⟨rfl,HR.out⟩
   | false =>
    have e1 : repE d l = 0:=by unfold repE;rw [if_neg hd,if_neg hf,if_neg (by rw [hz];exact Bool.false_ne_true)]
    have e2 : repD d l = { goesD d with la:=l,re:=[] }:=by unfold repD;rw [if_neg hd,if_neg hf,if_neg (by rw [hz];exact Bool.false_ne_true)]
    rw [e1,e2]
    have HL:=hid hlen
    clear hp e1 e2 hd hd0 hf hf0 hlen fA hb hlt hB
    go_enter Tryz.func71,Tryz.ntmps71
    go_upto_region 9 with (first | (go_at_call 66;((with_reducible refine cD.mono ?_);rintro e w1 ⟨rfl,rfl⟩)) | (go_at_call 65;((with_reducible refine cC.mono ?_);rintro e w1 ⟨a1,n1,c1,rfl,ho,hb1⟩;have N1:=hid (Fresh.made ho);have B1:=hid hb1;have L1:=hid (own_len ho);have cB:=blows_any (HB.out _ hb1) hl;rw [hz] at cB;clear ho hb1)) | (go_at_call 67;((with_reducible refine cB.mono ?_);rintro e w2 ⟨rfl,⟨left',h2⟩,hf⟩;have H2:=hid h2;have F2:=hid hf;obtain ⟨x0,x1,x2,x3,x4,x5,x6,x7⟩:=h2.box.eight;have z6:=h2.box.frozen 1;have z7:=h2.box.frozen 2;clear h2 hf)))
    have N2 : Hid (Fresh W w2 (.slice a1 n1 c1) l):=N1.out.fr F2.out (fun i hi=>HG.out i (by simp at hi;simp [hi]))
    have hg0:=HG.out g (List.mem_cons_self ..)
    have HR : Hid (Stp (fun V own=>PD V g { goesD d with la:=l,re:=[] } own) W ((w2.setCell ⟨g,1,none⟩ (.slice a1 n1 c1)).setCell ⟨g,2,none⟩ (.int .i64 n1)) (g :: (bk v ++ bk nx))):=by
     refine ⟨_,⟨_,nx,left',H2.out.setNew N2.out L1.out.symm hg0 HV.out.2,rfl⟩,?_,fun i hi=>?_⟩
     ·exact (((Fr.of_below B1.out).trans F2.out (fun i hi=>.inl (by simp at hi;simp [hi]))).trans (Fr.set _ g 1 _) (fun i hi=>.inl (by simp at hi;simp [hi]))).trans (Fr.set _ g 2 _) (fun i hi=>.inl (by simp at hi;simp [hi]))
     ·rcases List.mem_cons.1 hi with rfl | hi
      ·exact .inl (List.mem_cons_self ..)
      ·rcases List.mem_append.1 hi with hi | hi
       ·exact .inr (N2.out.new i (bk_mem.1 hi))
       ·exact .inl (List.mem_cons_of_mem _ (List.mem_append_right _ hi))
    clear cB cC cD
    go_wp2
    go_ret
    exact ⟨rfl,HR.out⟩
end
section
variable {W : World} {g : Nat} {d : Dk} {v nx : Value} {left : Int} {own : List Nat}
def BehR (W : World) (l : List UInt8) (e : Ending) (w' : World) : Prop := ∃ a n c q,e = .returned (.slice a n c)∧BAt W W.heap.size a n l∧w' = W.drewN q
theorem behind_any (k : Int) (h : DkP W g d v nx left) (hM : BndD d 1099511627776) (hk1 : -9223372036854775808≤k) (hk2 : k < 9223372036854775808) :
  Calls Tryz.prog 69 #[.pointer (some ⟨g,0,none⟩),.int .i64 k] W (BehR W (behD d k)):=by
 obtain ⟨a0,n0,c0,rfl,hn,ho,hb,hnc,hcm⟩:=h.row.parts
 obtain ⟨y0,y1,y2,y3,y4,y5,y6,y7⟩:=h.box.eight
 obtain ⟨hM1,hM2⟩:=hM
 have hn1 : n0 = d.la.length + d.re.length:=by rw [hn,List.length_append]
 cases ht : d.torn with
 | true =>
  rw [ht] at y6
  by_cases hk : 0 < k
  ·have hd : decide (k > 0) = true:=decide_eq_true hk
   have e : behD d k = d.half:=by unfold behD;rw [if_pos ht,if_pos hk]
   rw [e]
   obtain ⟨a1,n1,c1,rfl,hn',ho',hb',hnc',hcm'⟩:=h.nxt.parts
   have HB:=hid hb'
   clear h hn ho hb hn1 hn' ho' hb' e
   go_enter Tryz.func69,Tryz.ntmps69
   go_wp2
   go_ret
   exact ⟨_,_,_,0,rfl,HB.out,rfl⟩
  ·have hd : decide (k > 0) = false:=decide_eq_false hk
   have e : behD d k = d.la:=by unfold behD;rw [if_pos ht,if_neg hk]
   rw [e]
   obtain ⟨m,hm⟩ : ∃ m,m = d.la.length:=⟨_,rfl⟩
   rw [← hm] at y2
   have HB : Hid (BAt W W.heap.size a0 m d.la):=by
    have h1:=hb.take (k:=m) (by omega)
    have h2 : (d.la ++ d.re).take m = d.la:=by rw [hm];simp
    rw [h2] at h1;exact h1
   have hmn : m≤n0:=by omega
   clear h hn ho hb hn1 e hm
   go_enter Tryz.func69,Tryz.ntmps69
   go_upto_region 6 with (fail)
   go_quiet (fail)
   go_wp2
   go_ret
   exact ⟨_,_,_,_,rfl,HB.out,rfl⟩
 | false =>
  rw [ht] at y6
  have e : behD d k = (d.la ++ d.re).take (d.la.length + min k.toNat d.re.length):=beh_take d k ht
  rw [e]
  obtain ⟨m,hm⟩ : ∃ m,m = d.la.length:=⟨_,rfl⟩
  obtain ⟨p,hp⟩ : ∃ p,p = min k.toNat d.re.length:=⟨_,rfl⟩
  rw [← hm] at y2
  rw [← hm,← hp]
  have HB : Hid (BAt W W.heap.size a0 (m + p) ((d.la ++ d.re).take (m + p))):=hb.take (by omega)
  have hmn : m + p≤n0:=by omega
  have hpp : min (max k 0) ((n0 : Int) - (m : Int)) = (p : Int):=by omega
  have hq : (p : Int) = if ((n0 : Int) - (m : Int)) < (if k < 0 then 0 else k) then ((n0 : Int) - (m : Int)) else if k < 0 then 0 else k:=by
   split <;> split <;> omega
  have hw : wrap64 ((n0 : Int) - (m : Int)) = (n0 : Int) - (m : Int):=by unfold wrap64;omega
  have hnM : n0≤1099511627776:=by omega
  clear h hn ho hb hn1 e hm hp hM1 hM2
  go_enter Tryz.func69,Tryz.ntmps69
  go_upto_region 2 with (fail)
  go_region
  (try rw [hw])
  rw [← hq]
  generalize (if k < 0 then (0 : Int) else k) = z
  clear hq hpp hw
  go_upto_region 3 with (fail)
  go_quiet (fail)
  go_wp2
  go_ret
  exact ⟨_,_,_,_,rfl,HB.out,(World.drewN_drewN W 1 nq)⟩
/-- What Cut answers and leaves. -/
def CutR (K : World→Nat→Dk→List Nat→Prop) (W : World) (g : Nat) (own : List Nat) (d : Dk) (k : Int) (e : Ending) (w' : World) : Prop :=
 ∃ g' own',e = .returned (.pointer (some ⟨g',0,none⟩))∧K w' g (downD d) own∧K w' g' (cutD d k) own'∧Fr W w' [g]∧∀ i ∈ own',W.heap.size≤i
theorem DkP.made {V : World} {v : Value} {n : Nat} {l : List UInt8} {s : Int} (hv : OwnB V v l) (hn : n = l.length) (hs : 0≤s∧s < 9223372036854775808) :
  DkP (V.alloc (.cells #[.int .i64 s,v,.int .i64 n,.bool false,.int .i64 0,.bool false,.bool false,.slice none 0 0] 111)) V.heap.size ⟨s,l,[],-1,false,false,[]⟩ v (.slice none 0 0) 0:=by
 subst hn
 refine ⟨BoxC.new _ _ _,?_,OwnB.nil _,fun e=>absurd (show (0 : Int)≤-1 from e) (by decide),hs,Far.nil⟩
 show OwnB _ v (l ++ [])
 rw [List.append_nil]
 exact hv.below ((Below.refl _ _).alloc (Nat.le_refl _) _)
theorem cut_any (k : Int) (h : PD W g d own) (hM : BndD d 1099511627776) (hk1 : -9223372036854775808≤k) (hk2 : k < 9223372036854775808) :
  Calls Tryz.prog 28 #[.pointer (some ⟨g,0,none⟩),.int .i64 k] W (CutR PD W g own d k):=by
 obtain ⟨v,nx,left,hp,rfl⟩:=h
 have h1:=hp.setDown
 have H1:=hid h1
 have cB : Calls Tryz.prog 69 #[.pointer (some ⟨g,0,none⟩),.int .i64 k] (W.setCell ⟨g,5,none⟩ (.bool true)) (BehR (W.setCell ⟨g,5,none⟩ (.bool true)) (behD d k)):=behind_any (d:=downD d) k h1 hM hk1 hk2
 obtain ⟨y0,y1,y2,y3,y4,y5,y6,y7⟩:=hp.box.eight
 have z5:=hp.box.frozen 5
 have hsz:=hp.sz
 have HS:=hid hsz
 have HM : Hid ((behD d k).length≤1099511627776):=beh_len hM k
 clear hp h1 hM hsz
 go_enter Tryz.func28,Tryz.ntmps28
 go_upto_region 5 with (first | (go_at_call 69;((with_reducible refine cB.mono ?_);rintro e w1 ⟨a1,n1,c1,q,rfl,hb1,rfl⟩;have cC:=bclone_any a1 n1 c1 _ _ (hb1.drewN q) (by have:=hb1.len;have:=HM.out;omega);clear hb1)) | (go_at_call 65;((with_reducible refine cC.mono ?_);rintro e w2 ⟨a2,n2,c2,rfl,ho,hb2⟩;have N2:=hid (Fresh.made ho);have B2:=hid (show Below (W.setCell ⟨g,5,none⟩ (.bool true)).heap.size (W.setCell ⟨g,5,none⟩ (.bool true)) w2 from below_on q (Below.refl _ _) hb2);have L2:=hid (own_len ho);have hx:=(H1.out.below B2.out).box;obtain ⟨x0,x1,x2,x3,x4,x5,x6,x7⟩:=hx.eight;clear ho hb2 hx)))
 have HR : Hid (CutR PD W g (g :: (bk v ++ bk nx)) d k (.returned (.pointer (some ⟨w2.heap.size,0,none⟩))) (w2.alloc (.cells #[.int .i64 d.size,.slice a2 n2 c2,.int .i64 n2,.bool false,.int .i64 0,.bool false,.bool false,.slice none 0 0] 111))):=by
  have bA : Below w2.heap.size w2 (w2.alloc (.cells #[.int .i64 d.size,.slice a2 n2 c2,.int .i64 n2,.bool false,.int .i64 0,.bool false,.bool false,.slice none 0 0] 111)):=(Below.refl _ _).alloc (Nat.le_refl _) _
  have hsz : W.heap.size≤w2.heap.size:=by have:=B2.out.size;simpa [World.setCell] using this
  refine ⟨w2.heap.size,w2.heap.size :: (bk (.slice a2 n2 c2) ++ bk (.slice none 0 0)),rfl,⟨v,nx,left,(H1.out.below B2.out).below bA,rfl⟩,⟨_,_,0,DkP.made N2.out.own L2.out.symm HS.out,rfl⟩,?_,fun i hi=>?_⟩
  ·exact ((Fr.set W g 5 (.bool true)).trans (Fr.of_below B2.out (own:=[])) (fun i hi=>by cases hi)).trans (Fr.of_below bA (own:=[])) (fun i hi=>by cases hi)
  ·rcases List.mem_cons.1 hi with rfl | hi
   ·exact hsz
   ·rcases List.mem_append.1 hi with hi | hi
    ·have:=N2.out.new i (bk_mem.1 hi)
     simpa [World.setCell] using this
    ·rw [bk_nil] at hi;cases hi
 clear cB cC
 go_wp2
 go_ret
 exact HR.out
end
/-- Rows of bytes of the law's own: the slice, its bytes. -/
abbrev Rws:=List (Value×List UInt8)
/-- The law's disk, rows beside it, and nothing that was there at W has turned. -/
def LawD (W V : World) (g : Nat) (d : Dk) (R : Rws) : Prop := ∃ own,PD V g d own∧Below W.heap.size W V∧(∀ i ∈ own,W.heap.size≤i)∧∀ r ∈ R,OwnB V r.1 r.2∧∀ j,r.1.ownBlock = some j→W.heap.size≤j∧j ∉ own
section
variable {W V V' : World} {g : Nat} {d d' : Dk} {R : Rws}
end
def Quiet2 (W : World) (v : Value) (e : Ending) (w' : World) : Prop:=e = .returned v∧Below W.heap.size W w'
section
variable {W V : World} {g : Nat} {d d' : Dk} {R : Rws} {x : Int}
end
end Go.Proofs.YtcfmifongbapkaaGreatDoor
