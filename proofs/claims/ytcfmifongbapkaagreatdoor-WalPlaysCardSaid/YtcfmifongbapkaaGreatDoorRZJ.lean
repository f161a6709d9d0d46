/- Contract of the document's Replace. Conditions: the disk lies in memory, and what is laid. Contract of the document's Cut. Condition: the disk lies in memory. The program's disk and the document's, side by side, with boxes beside them. No condition. The program's log on the pair's disk: Add, Compact, Open. Conditions: the records lie in memory; the tables of utf8 lie there. -/
import Derived.Test.YtcfmifongbapkaaGreatDoorRZI
import Derived.Test.YtcfmifongbapkaaGreatDoorRZG
import Derived.Deep.RegionLaw
namespace Go.Proofs.YtcfmifongbapkaaGreatDoor
set_option maxHeartbeats 2000000
open Go.RowKit
open Go.Lib (hid)
set_option linter.unusedVariables false
set_option linter.unusedSimpArgs false
section
variable {W w1 w2 : World} {g : Nat} {d : Dk} {own : List Nat} {l : List UInt8} {v1 : Value}
theorem Fresh.grown {n : Nat} (ho : w1.ownsRow 0 5 1 v1 n (bcells l)) (hg : W.grownBy w1 none) (hat : v1.ownBlock = none∨v1.ownBlock = some W.heap.size) : Fresh W w1 v1 l∧Below W.heap.size W w1:=by
 refine ⟨⟨OwnB.of_own ho,fun j hj=>?_⟩,(Below.refl _ _).grown hg (Nat.le_refl _) (fun j hj=>by cases hj)⟩
 rcases hat with e | e
 ·rw [hj] at e;cases e
 ·rw [hj] at e;injection e with e;omega
theorem rreplace_any {a : Option Addr} {n c : Nat} (h : RD W g d own) (hl : d.fuse < 9223372036854775808) (hb : BAt W W.heap.size a n l) (hn : n≤1099511627776) :
  Calls Tryz.prog 98 #[.pointer (some ⟨g,0,none⟩),.slice a n c] W fun e w'=>e = .returned (.int .i64 (repE d l))∧Stp (fun V own=>RD V g (repD d l) own) W w' own:=by
 have h0:=h
 have hlt:=h.lt
 obtain ⟨vl,vr,vh,hp,rfl⟩:=h
 have HS : Hid (Stp (fun V own=>RD V g d own) W W (g :: (bk vl ++ bk vr ++ bk vh))):=Stp.same h0 (Below.refl _ _)
 obtain ⟨y0,y1,y2,y3,y4,y5,y6⟩:=hp.box.seven
 clear h0
 by_cases hd : d.down = true
 ·rw [hd] at y4
  have e1 : repE d l = 8:=by unfold repE;rw [if_pos hd]
  have e2 : repD d l = d:=by unfold repD;rw [if_pos hd]
  rw [e1,e2]
  clear hp e1 e2 hd hl hb hlt
  go_enter Tryz.func98,Tryz.ntmps98
  go_wp2
  go_ret
  exact ⟨rfl,HS.out⟩
 ·have hd0 : d.down = false:=by simpa using hd
  rw [hd0] at y4
  have hlen:=hb.len
  have fA : fullR d l = decide ((n : Int) > d.size):=by
   unfold fullR
   rw [← hlen]
  by_cases hf : fullR d l = true
  ·have e1 : repE d l = 7:=by unfold repE;rw [if_neg hd,if_pos hf]
   have e2 : repD d l = d:=by unfold repD;rw [if_neg hd,if_pos hf]
   rw [e1,e2]
   rw [hf] at fA
   have fA':=fA.symm
   generalize d.size = s at *
   clear hp e1 e2 hd hd0 hl hf hlen fA hb hlt
   go_enter Tryz.func98,Tryz.ntmps98
   go_wp2
   go_ret
   exact ⟨rfl,HS.out⟩
  ·have hf0 : fullR d l = false:=by simpa using hf
   rw [hf0] at fA
   have fA':=fA.symm
   obtain ⟨i0,hi,hz0,hz1,hz2⟩:=info_parts Tryz.info5
   have HG : Hid (∀ i ∈ g :: (bk vl ++ bk vr ++ bk vh),i < W.heap.size):=hlt
   have HV : Hid ((∀ j,vl.ownBlock = some j→j < W.heap.size)∧(∀ j,vr.ownBlock = some j→j < W.heap.size)∧∀ j,vh.ownBlock = some j→j < W.heap.size):=⟨hp.rl.lt,hp.rr.lt,hp.rh.lt⟩
   have HB:=hid hb
   have cG : ∀ V,Below W.heap.size W V→Calls Tryz.prog 97 #[.pointer (some ⟨g,0,none⟩)] V fun e w'=>e = .returned (.bool (goesB d))∧DkR w' g (goesD d) vl vr vh∧Fr V w' [g]:=fun V hb=>rgoes_any (hp.below hb) hl
   clear hb hlt hlen hp fA
   cases hz : goesB d with
   | true =>
    have e1 : repE d l = 8:=by unfold repE;rw [if_neg hd,if_neg hf,if_pos hz]
    have e2 : repD d l = { goesD d with torn:=true,half:=l }:=by unfold repD;rw [if_neg hd,if_neg hf,if_pos hz]
    rw [e1,e2]
    rw [hz] at cG
    clear e1 e2 hd hd0 hf hf0 hl
    go_enter Tryz.func98,Tryz.ntmps98
    go_upto_region 8 with (first
     | (at_builtin;(refine wpList_append_row _ rfl _ _ 34 rfl 0 5 i0 _ 1 Tryz.underlying34 hi hz0 hz1 hz2 rfl (.slice none 0 0) 0 (bcells []) rfl (World.ownsRow_nil _ _ _ _) a n c (bcells l) rfl HB.out.cells (bcells_one l) (by unfold maxLen;omega) (by omega) (Nat.zero_le _) ?_;intro v1 w1 ho1 hg1 hat1;rw [Nat.zero_add] at ho1;obtain ⟨a1,c1,rfl,_,_,_⟩:=own_form ho1;have N1:=hid (Fresh.grown (l:=l) ho1 hg1 hat1);clear ho1 hg1 hat1))
     | (go_at_call 97;((with_reducible refine (cG _ N1.out.2).mono ?_);rintro e w2 ⟨rfl,h2,hf2⟩;have H2:=hid h2;have F2:=hid hf2;obtain ⟨x0,x1,x2,x3,x4,x5,x6⟩:=h2.box.seven;have z1:=h2.box.frozen 5;have z2:=h2.box.frozen 6;clear h2 hf2)))
    have N2 : Hid (Fresh W w2 (.slice a1 n c1) l):=N1.out.1.fr F2.out (fun i hi=>HG.out i (by simp at hi;simp [hi]))
    have hg0:=HG.out g (List.mem_cons_self ..)
    have HR : Hid (Stp (fun V own=>RD V g { goesD d with torn:=true,half:=l } own) W ((w2.setCell ⟨g,5,none⟩ (.bool true)).setCell ⟨g,6,none⟩ (.slice a1 n c1)) (g :: (bk vl ++ bk vr ++ bk vh))):=by
     refine Stp.ref ?_ (H2.out.setTorn N2.out hg0 ⟨HV.out.1,HV.out.2.1⟩) (List.mem_cons_self ..) (fun j hj=>.inl (own_l j hj)) (fun j hj=>.inl (own_r j hj)) (fun j hj=>.inr (N2.out.new j hj))
     exact (((Fr.of_below N1.out.2).trans F2.out (fun i hi=>.inl (by simp at hi;simp [hi]))).trans (Fr.set _ g 5 _) (fun i hi=>.inl (by simp at hi;simp [hi]))).trans (Fr.set _ g 6 _) (fun i hi=>.inl (by simp at hi;simp [hi]))
    clear cG
    go_wp2
    go_ret
    have h:=HR.out
    simp only [List.append_assoc] at h
    exact ⟨rfl,h⟩
   | false =>
    have e1 : repE d l = 0:=by unfold repE;rw [if_neg hd,if_neg hf,if_neg (by rw [hz];exact Bool.false_ne_true)]
    have e2 : repD d l = { goesD d with la:=l,re:=[] }:=by unfold repD;rw [if_neg hd,if_neg hf,if_neg (by rw [hz];exact Bool.false_ne_true)]
    rw [e1,e2]
    rw [hz] at cG
    clear e1 e2 hd hd0 hf hf0 hl
    go_enter Tryz.func98,Tryz.ntmps98
    go_upto_region 11 with (first
     | (at_builtin;(refine wpList_append_row _ rfl _ _ 34 rfl 0 5 i0 _ 1 Tryz.underlying34 hi hz0 hz1 hz2 rfl (.slice none 0 0) 0 (bcells []) rfl (World.ownsRow_nil _ _ _ _) a n c (bcells l) rfl HB.out.cells (bcells_one l) (by unfold maxLen;omega) (by omega) (Nat.zero_le _) ?_;intro v1 w1 ho1 hg1 hat1;rw [Nat.zero_add] at ho1;obtain ⟨a1,c1,rfl,_,_,_⟩:=own_form ho1;have N1:=hid (Fresh.grown (l:=l) ho1 hg1 hat1);clear ho1 hg1 hat1))
     | (go_at_call 97;((with_reducible refine (cG _ N1.out.2).mono ?_);rintro e w2 ⟨rfl,h2,hf2⟩;have H2:=hid h2;have F2:=hid hf2;obtain ⟨x0,x1,x2,x3,x4,x5,x6⟩:=h2.box.seven;have z1:=h2.box.frozen 1;have z2:=h2.box.frozen 2;clear h2 hf2)))
    have N2 : Hid (Fresh W w2 (.slice a1 n c1) l):=N1.out.1.fr F2.out (fun i hi=>HG.out i (by simp at hi;simp [hi]))
    have hg0:=HG.out g (List.mem_cons_self ..)
    have HR : Hid (Stp (fun V own=>RD V g { goesD d with la:=l,re:=[] } own) W ((w2.setCell ⟨g,1,none⟩ (.slice a1 n c1)).setCell ⟨g,2,none⟩ (.slice none 0 0)) (g :: (bk vl ++ bk vr ++ bk vh))):=by
     refine Stp.ref ?_ (H2.out.setNew N2.out hg0 HV.out.2.2) (List.mem_cons_self ..) (fun j hj=>.inr (N2.out.new j hj)) (fun j hj=>by cases hj) (fun j hj=>.inl (own_h j hj))
     exact (((Fr.of_below N1.out.2).trans F2.out (fun i hi=>.inl (by simp at hi;simp [hi]))).trans (Fr.set _ g 1 _) (fun i hi=>.inl (by simp at hi;simp [hi]))).trans (Fr.set _ g 2 _) (fun i hi=>.inl (by simp at hi;simp [hi]))
    clear cG
    go_wp2
    go_ret
    have h:=HR.out
    simp only [List.append_assoc] at h
    exact ⟨rfl,h⟩
end
theorem beh_stop (d : Dk) (k : Int) (j : Nat) (hc : ¬ (d.torn = true∧0 < k)) (hj : j≤d.re.length) (hi : j = 0∨(j : Int)≤k) (hs : j = d.re.length∨k≤(j : Int)) : behD d k = d.la ++ d.re.take j:=by
 unfold behD
 cases ht : d.torn with
 | true =>
  rw [ht] at hc
  have hk : ¬ 0 < k:=fun h=>hc ⟨rfl,h⟩
  have h0 : j = 0:=by omega
  subst h0
  rw [if_pos rfl,if_neg hk];simp
 | false =>
  rw [if_neg Bool.false_ne_true]
  congr 1
  by_cases e : k.toNat = j
  ·rw [e]
  ·have hl : d.re.length≤k.toNat∧j = d.re.length:=by omega
   rw [List.take_of_length_le hl.1,List.take_of_length_le (by omega)]
/-- The disk that comes of a cut, while it is made. -/
def oD (d : Dk) (x : List UInt8) : Dk:=⟨d.size,x,[],-1,false,false,[]⟩
structure OutS (W V : World) (g go : Nat) (d : Dk) (vl vr vh v : Value) (x : List UInt8) : Prop where
 src : DkR V g (downD d) vl vr vh
 out : DkR V go (oD d x) v (.slice none 0 0) (.slice none 0 0)
 ge : W.heap.size≤go
 new : ∀ j,v.ownBlock = some j→W.heap.size≤j
 fr : Fr W V [g]
 old : g < W.heap.size
 ol : ∀ j ∈ bk vl ++ bk vr ++ bk vh,j < W.heap.size
section
variable {W V V' : World} {g go : Nat} {d : Dk} {vl vr vh v v1 : Value} {x y : List UInt8} {own : List Nat}
theorem OutS.below (h : OutS W V g go d vl vr vh v x) (hb : Below V.heap.size V V') : OutS W V' g go d vl vr vh v x :=
 ⟨h.src.below hb,h.out.below hb,h.ge,h.new,h.fr.trans (Fr.of_below hb (own:=[])) (fun i hi=>by cases hi),h.old,h.ol⟩
theorem OutS.box_grown (h : OutS W V g go d vl vr vh v x) (hg : V.grownBy V' v.ownBlock) : BoxC V' go #[.int .i64 (oD d x).size,v,.slice none 0 0,.int .i64 (oD d x).fuse,.bool (oD d x).down,.bool (oD d x).torn,.slice none 0 0] 73:=h.out.box_grown hg h.out.far_box.1
/-- Bytes are appended to what lasts. -/
theorem OutS.grow {m : Nat} (h : OutS W V g go d vl vr vh v x) (ho : V'.ownsRow 0 5 1 v1 m (bcells x ++ bcells y)) (hg : V.grownBy V' v.ownBlock) (hat : v1.ownBlock = v.ownBlock∨v1.ownBlock = some V.heap.size) :
  OutS W (V'.setCell ⟨go,1,none⟩ v1) g go d vl vr vh v1 (x ++ y):=by
 have hb:=h.box_grown hg
 have ho1 : OwnB V' v1 (x ++ y):=by
  rw [← bcells_app] at ho
  exact OwnB.of_own ho
 have hne : v1.ownBlock≠some go:=ho1.not_box hb (by decide)
 have hs:=h.fr.size
 have hgo : g≠go:=by have:=h.old;have:=h.ge;omega
 have hf : Fr V V' (bk v):=Fr.grown hg
 have hf2:=hf.wide (own':=go :: bk v) (fun i hi=>List.mem_cons_of_mem _ hi)
 have hF : Fr V (V'.setCell ⟨go,1,none⟩ v1) (go :: bk v):=hf2.trans (Fr.set V' go 1 v1) (fun i hi=>.inl (by simp at hi;simp [hi]))
 refine ⟨h.src.kept fun j hj hlt=>hF.block j hlt fun e=>?_,⟨hb.set 1 v1,ho1.set hne _ _,OwnB.nil _,OwnB.nil _,h.out.sz,Far.nil,Far.nil,Far.nil'⟩,h.ge,fun j hj=>?_,?_,h.old,h.ol⟩
 ·have hjl : j < W.heap.size:=by
   rcases List.mem_cons.1 hj with rfl | hj
   ·exact h.old
   ·exact h.ol j hj
  rcases List.mem_cons.1 e with rfl | e
  ·have:=h.ge;omega
  ·have:=h.new j (bk_mem.1 e);omega
 ·rcases hat with e | e
  ·exact h.new j (e ▸ hj)
  ·rw [hj] at e;injection e with e;omega
 ·refine h.fr.trans hF fun i hi=>?_
  rcases List.mem_cons.1 hi with rfl | hi
  ·exact .inr h.ge
  ·exact .inr (h.new i (bk_mem.1 hi))
theorem OutS.done {k : Int} (h : OutS W V g go d vl vr vh v x) (hx : behD d k = x) (ho : own = g :: (bk vl ++ bk vr ++ bk vh)) : CutR RD W g own d k (.returned (.pointer (some ⟨go,0,none⟩))) V:=by
 subst hx
 refine ⟨go,_,rfl,⟨vl,vr,vh,h.src,ho⟩,⟨v,_,_,h.out,rfl⟩,h.fr,fun i hi=>?_⟩
 rcases List.mem_cons.1 hi with rfl | hi
 ·exact h.ge
 ·rcases List.mem_append.1 hi with hi | hi
  ·rcases List.mem_append.1 hi with hi | hi
   ·exact h.new i (bk_mem.1 hi)
   ·rw [bk_nil] at hi;cases hi
  ·rw [bk_nil] at hi;cases hi
set_option maxRecDepth 100000 in
theorem rcut_any (k : Int) (h : RD W g d own) (hM : BndD d 1099511627776) (hk1 : -9223372036854775808≤k) (hk2 : k < 9223372036854775808) :
  Calls Tryz.prog 60 #[.pointer (some ⟨g,0,none⟩),.int .i64 k] W (CutR RD W g own d k):=by
 have hlt:=h.lt
 obtain ⟨vl,vr,vh,hp,hown⟩:=h
 have h1:=hp.setDown
 have H1:=hid h1
 have F1:=hid (Fr.set W g 4 (.bool true))
 obtain ⟨y0,y1,y2,y3,y4,y5,y6⟩:=hp.box.seven
 have z4:=hp.box.frozen 4
 have hsz:=hp.sz
 have cN:=rnew_any d.size hsz.2 (W.setCell ⟨g,4,none⟩ (.bool true))
 have hW : (W.setCell ⟨g,4,none⟩ (.bool true)).heap.size = W.heap.size:=by simp [World.setCell]
 have hnew : newD d.size = oD d []:=by unfold newD oD;rw [show max d.size 0 = d.size by have:=hsz.1;omega]
 rw [hnew] at cN
 have HW:=hid hW
 have HG : Hid (g < W.heap.size∧∀ j ∈ bk vl ++ bk vr ++ bk vh,j < W.heap.size):=⟨hlt _ (by rw [hown];exact List.mem_cons_self ..),fun j hj=>hlt j (by rw [hown];exact List.mem_cons_of_mem _ hj)⟩
 obtain ⟨hM1,hM2⟩:=hM
 obtain ⟨al,nl,cl,rfl,hnl,_,_,hcl,hml⟩:=hp.rl.parts
 obtain ⟨ar,nr,cr,rfl,hnr,_,_,hcr,hmr⟩:=hp.rr.parts
 obtain ⟨ah,nh,ch,rfl,hnh,_,_,hch,hmh⟩:=hp.rh.parts
 have HO:=hid hown
 have NL:=hid hnl
 have NR:=hid hnr
 have NH:=hid hnh
 have nlr : nl + nr≤1099511627776:=by omega
 have nhb : nh≤1099511627776:=by omega
 obtain ⟨i0,hi,hz0,hz1,hz2⟩:=info_parts Tryz.info5
 have mk : ∀ w1,Below (W.setCell ⟨g,4,none⟩ (.bool true)).heap.size (W.setCell ⟨g,4,none⟩ (.bool true)) w1→DkR w1 (W.setCell ⟨g,4,none⟩ (.bool true)).heap.size (oD d []) (.slice none 0 0) (.slice none 0 0) (.slice none 0 0)→Hid (OutS W w1 g (W.setCell ⟨g,4,none⟩ (.bool true)).heap.size d (.slice al nl cl) (.slice ar nr cr) (.slice ah nh ch) (.slice none 0 0) []) :=
  fun w1 hb hd=>⟨H1.out.below hb,hd,by rw [HW.out];exact Nat.le_refl _,(fun j hj=>by cases hj),F1.out.trans (Fr.of_below hb (own:=[])) (fun i hi=>by cases hi),HG.out.1,HG.out.2⟩
 clear hown hp h1 hlt hnl hnr hnh hM1 hM2 hnew
 obtain ⟨go,hgo⟩ : ∃ go,go = (W.setCell ⟨g,4,none⟩ (.bool true)).heap.size:=⟨_,rfl⟩
 rw [← hgo] at cN mk
 clear hgo hW
 by_cases hA : d.torn = true∧0 < k
 ·obtain ⟨ht,hk⟩:=hA
  have EB : Hid (behD d k = [] ++ d.half):=by unfold Hid behD;rw [if_pos ht,if_pos hk];rfl
  have hd : decide (k > 0) = true:=decide_eq_true hk
  rw [ht] at y5
  go_enter Tryz.func60,Tryz.ntmps60
  go_upto_region 4 with (go_at_call 21;((with_reducible refine cN.mono ?_);rintro e w1 ⟨rfl,hb1,hd1⟩;have S1:=mk _ hb1 hd1;have q5:=S1.out.src.box.seven.2.2.2.2.2.1;rw [show (downD d).torn = true from ht] at q5;clear hb1 hd1))
  have S2 : Hid (OutS W w1.drew g go d (.slice al nl cl) (.slice ar nr cr) (.slice ah nh ch) (.slice none 0 0) []):=S1.out.below (below_drewN 1 (Below.refl _ _))
  obtain ⟨x0,x1,x2,x3,x4,x5,x6⟩:=S2.out.src.box.seven
  obtain ⟨t0,t1,t2,t3,t4,t5,t6⟩:=S2.out.out.box.seven
  go_region_law (first | (refine step_append_row1 _ rfl _ _ 34 rfl 0 5 i0 _ 1 Tryz.underlying34 hi hz0 hz1 hz2 rfl (.slice none 0 0) 0 (bcells []) rfl (World.ownsRow_nil _ _ _ _) ah nh ch (bcells d.half) rfl (S2.out.src.rh.bat NH.out).cells (bcells_one _) (by unfold maxLen;omega) (by omega) (Nat.zero_le _) ?_;intro v2 w2 ho hg hat;rw [Nat.zero_add] at ho;have X2:=hid (S2.out.grow ho hg hat);obtain ⟨a2,c2,rfl,_,_,_⟩:=own_form ho;have bx:=S2.out.box_grown hg;have z1:=bx.frozen 1;obtain ⟨u0,u1,u2,u3,u4,u5,u6⟩:=bx.seven;clear bx ho hg hat))
  all_goals (try go_wp2)
  all_goals (go_ret;exact X2.out.done EB.out HO.out)
 ·have EA:=hid hA
  have hT : 0 < k→d.torn = false:=fun hk=>by
   cases ht : d.torn with
   | true=>exact absurd ⟨ht,hk⟩ hA
   | false=>rfl
  have HT:=hid hT
  have hcond : (d.torn = true∧decide (k > 0) = false)∨d.torn = false:=by
   cases ht : d.torn with
   | true=>exact .inl ⟨rfl,decide_eq_false fun hk=>hA ⟨ht,hk⟩⟩
   | false=>exact .inr rfl
  clear hA hT
  have key : ∀ b : Bool,b = d.torn→(b = true→decide (k > 0) = false)→Calls Tryz.prog 60 #[.pointer (some ⟨g,0,none⟩),.int .i64 k] W (CutR RD W g own d k):=by
   intro b hb hbk
   rw [← hb] at y5
   clear hcond
   go_enter Tryz.func60,Tryz.ntmps60
   go_upto_region 3 with (go_at_call 21;((with_reducible refine cN.mono ?_);rintro e w1 ⟨rfl,hb1,hd1⟩;have S1:=mk _ hb1 hd1;have q5:=S1.out.src.box.seven.2.2.2.2.2.1;rw [show (downD d).torn = b from hb.symm] at q5;clear hb1 hd1))
   have HB:=hid hb
   clear hb y0 y1 y2 y3 y4 y5 y6 z4 cN
   go_cut [22] (fun v wr=>v = .bool false∧wr = w1)
   case first =>
    cases b with
    | true =>
     have hk:=hbk rfl
     go_wp2
     go_meet
     case rel=>exact ⟨rfl,rfl⟩
    | false =>
     go_wp2
     go_meet
     case rel=>exact ⟨rfl,rfl⟩
   case rest =>
   obtain ⟨rfl,hwr⟩:=hcut
   obtain rfl:=hwr.symm
   go_upto_region 6 with (fail)
   have S2 : Hid (OutS W w1.drew g go d (.slice al nl cl) (.slice ar nr cr) (.slice ah nh ch) (.slice none 0 0) []):=S1.out.below (below_drewN 1 (Below.refl _ _))
   obtain ⟨x0,x1,x2,x3,x4,x5,x6⟩:=S2.out.src.box.seven
   obtain ⟨t0,t1,t2,t3,t4,t5,t6⟩:=S2.out.out.box.seven
   go_cut [47] (fun _ wr => ∃ v,OutS W wr g go d (.slice al nl cl) (.slice ar nr cr) (.slice ah nh ch) v d.la)
   case first =>
    go_region_law (first | (refine step_append_row1 _ rfl _ _ 34 rfl 0 5 i0 _ 1 Tryz.underlying34 hi hz0 hz1 hz2 rfl (.slice none 0 0) 0 (bcells []) rfl (World.ownsRow_nil _ _ _ _) al nl cl (bcells d.la) rfl (S2.out.src.rl.bat NL.out).cells (bcells_one _) (by unfold maxLen;omega) (by omega) (Nat.zero_le _) ?_;intro v2 w2 ho hg hat;rw [Nat.zero_add] at ho;have X2:=hid (S2.out.grow ho hg hat);obtain ⟨a2,c2,rfl,_,_,_⟩:=own_form ho;have bx:=S2.out.box_grown hg;have z1:=bx.frozen 1;obtain ⟨u0,u1,u2,u3,u4,u5,u6⟩:=bx.seven;clear bx ho hg hat))
    all_goals (go_wp2_with fail;go_meet)
    all_goals (case rel=>exact ⟨_,X2.out⟩)
   case rest =>
   obtain ⟨v0,hS0⟩:=hcut
   have S3:=hid hS0
   clear hS0 x0 x1 x2 x3 x4 x5 x6 t0 t1 t2 t3 t4 t5 t6 S2 S1 q5 mk
   go_wp2_with (fail)
   go_loopw [6] (fun i wr => ∃ (j : Nat) (v : Value),j≤nr∧i = .int .i64 j∧(j = 0∨(j : Int)≤k)∧OutS W wr g go d (.slice al nl cl) (.slice ar nr cr) (.slice ah nh ch) v (d.la ++ d.re.take j)) (fun i _=>nr - (intOf i).toNat)
   case atStart=>exact ⟨0,v0,by omega,rfl,.inl rfl,by have h:=S3.out;simpa using h⟩
   case round =>
    obtain ⟨j,v,hj,rfl,hjk,hS⟩:=hrel
    clear S3
    have S:=hid hS
    have J:=hid hjk
    obtain ⟨s0,s1,s2,s3,s4,s5,s6⟩:=hS.src.box.seven
    obtain ⟨t0,t1,t2,t3,t4,t5,t6⟩:=hS.out.box.seven
    clear hS hjk
    by_cases hlt : j < nr
    ·have q1 : decide ((j : Int) < (nr : Int)) = true:=decide_eq_true (by omega)
     by_cases hk : (j : Int) < k
     ·have q2 : decide ((j : Int) < k) = true:=decide_eq_true hk
      have ht : d.torn = false:=HT.out (by omega)
      have s5' : wr.cell? ⟨g,5,none⟩ = some (.bool false):=by rw [s5];show some (Value.bool d.torn) = _;rw [ht]
      clear s5
      obtain ⟨a5,n5,c5,rfl,hn5,_,_,hc5,hm5⟩:=S.out.out.rl.parts
      have N5 : Hid (n5 = (d.la ++ d.re.take j).length):=hn5
      have hj2 : Hid (j < d.re.length):=by unfold Hid;have:=NR.out;omega
      have n5b : n5≤1099511627776:=by have h1:=N5.out;have h2:=NL.out;have h3:=NR.out;rw [List.length_append,List.length_take] at h1;omega
      obtain ⟨b,off,rfl,hb0,hc⟩:=(S.out.src.rr.bat NR.out).at_ (i:=j) hj2.out
      have X : Hid (d.la ++ d.re.take (j + 1) = (d.la ++ d.re.take j) ++ [d.re[j]'hj2.out]):=by unfold Hid;rw [take_snoc _ _ hj2.out,List.append_assoc]
      have hc' : wr.cell? ⟨b,off + j,none⟩ = some (.int .u8 ((d.re[j]'hj2.out).toNat : Int)):=hc
      generalize (d.re[j]'hj2.out) = by1 at *
      clear hc hn5
      go_upto_region 10 with fail
      have Sd : Hid (OutS W wr.drew g go d (.slice al nl cl) (.slice (some ⟨b,off,none⟩) nr cr) (.slice ah nh ch) (.slice a5 n5 c5) (d.la ++ d.re.take j)):=S.out.below (below_drewN 1 (Below.refl _ _))
      have SA : Hid (OutS W ((wr.alloc (.cells #[.int .u8 (by1.toNat : Int)] 5)).drew) g go d (.slice al nl cl) (.slice (some ⟨b,off,none⟩) nr cr) (.slice ah nh ch) (.slice a5 n5 c5) (d.la ++ d.re.take j)):=S.out.below (below_drewN 1 ((Below.refl _ _).alloc (Nat.le_refl _) _))
      have z1 : wr.drew.cell? ⟨go,1,none⟩ = some (.slice a5 n5 c5):=Sd.out.out.box.seven.2.1
      have z2 : wr.drew.cell? ⟨g,2,none⟩ = some (.slice (some ⟨b,off,none⟩) nr cr):=Sd.out.src.box.seven.2.2.1
      have z3 : wr.drew.cell? ⟨b,off + j,none⟩ = some (.int .u8 (by1.toNat : Int)):=hc'
      have zA : ∀ o,(wr.alloc o).drew.cell? ⟨go,1,none⟩ = some (.slice a5 n5 c5):=fun o=>(S.out.below (below_drewN 1 ((Below.refl _ _).alloc (Nat.le_refl _) o))).out.box.seven.2.1
      have D2 : CellsAt ((wr.alloc (.cells #[.int .u8 (by1.toNat : Int)] 5)).drew) (some ⟨wr.heap.size,0,none⟩) 1 (bcells [by1]):=CellsAt.one wr _ _
      go_region_law (first | (refine step_append_row1 _ rfl _ _ 34 rfl 0 5 i0 _ 1 Tryz.underlying34 hi hz0 hz1 hz2 rfl (.slice a5 n5 c5) n5 (bcells (d.la ++ d.re.take j)) rfl (SA.out.out.rl.ats N5.out) (some ⟨wr.heap.size,0,none⟩) 1 1 (bcells [by1]) rfl D2 (bcells_one _) (by unfold maxLen;omega) (by omega) (Nat.zero_le _) ?_;intro v2 w2 ho hg hat;have X2:=hid (SA.out.grow ho hg hat);obtain ⟨a2,c2,rfl,_,_,_⟩:=own_form ho;have bx:=SA.out.box_grown hg;have f1:=bx.frozen 1;obtain ⟨u0,u1,u2,u3,u4,u5,u6⟩:=bx.seven;clear bx ho hg hat))
      all_goals
       go_wp2
       go_roundw
       case rel=>exact ⟨j + 1,_,by omega,by go_num,.inr (by omega),by rw [X.out];exact X2.out⟩
       case measure=>simp [intOf];omega
     ·have q2 : decide ((j : Int) < k) = false:=decide_eq_false hk
      have E : Hid (behD d k = d.la ++ d.re.take j):=beh_stop d k j EA.out (by have:=NR.out;omega) J.out (.inr (by omega))
      go_wp2
      go_ret
      exact S.out.done E.out HO.out
    ·have q1 : decide ((j : Int) < (nr : Int)) = false:=decide_eq_false (by omega)
     have E : Hid (behD d k = d.la ++ d.re.take j):=beh_stop d k j EA.out (by have:=NR.out;omega) J.out (.inl (by have:=NR.out;omega))
     go_wp2
     go_ret
     exact S.out.done E.out HO.out
  rcases hcond with ⟨h1,h2⟩ | h1
  ·exact key true h1.symm fun _=>h2
  ·exact key false h1.symm (fun e=>by cases e)
end
/-- Boxes beside them: where each lies, what it holds. -/
abbrev Bxd:=List (Nat×Array Value×TypeId)
def Duo (W V : World) (g h : Nat) (d e : Dk) (L : Bxd) : Prop := ∃ o1 o2,PD V g d o1∧RD V h e o2∧Below W.heap.size W V∧(∀ i ∈ o1,W.heap.size≤i)∧(∀ i ∈ o2,W.heap.size≤i∧i ∉ o1)∧∀ b ∈ L,BoxC V b.1 b.2.1 b.2.2∧W.heap.size≤b.1∧b.1 ∉ o1∧b.1 ∉ o2
section
variable {W V V' : World} {g h g' h' : Nat} {d e d' e' : Dk} {L : Bxd}
theorem Duo.bel (T : Duo W V g h d e L) : Below W.heap.size W V:=by obtain ⟨_,_,_,_,h,_⟩:=T;exact h
theorem Duo.box (T : Duo W V g h d e L) (i G : Nat) (cs : Array Value) (t : TypeId) (hi : L[i]? = some (G,cs,t)) : BoxC V G cs t:=by
 obtain ⟨_,_,_,_,_,_,_,h⟩:=T
 exact (h _ (List.mem_of_getElem? hi)).1
theorem Duo.later (T : Duo W V g h d e L) (hb : Below V.heap.size V V') : Duo W V' g h d e L:=by
 obtain ⟨o1,o2,h1,h2,h3,h4,h5,h6⟩:=T
 exact ⟨o1,o2,h1.below hb,h2.below hb,h3.trans (hb.mono h3.size),h4,h5,fun b hm=>⟨(h6 b hm).1.below hb,(h6 b hm).2⟩⟩
theorem Duo.drewN (T : Duo W V g h d e L) (q : Nat) : Duo W (V.drewN q) g h d e L:=T.later (below_drewN q (Below.refl _ _))
theorem Duo.drew (T : Duo W V g h d e L) : Duo W V.drew g h d e L:=T.drewN 1
theorem Duo.sub (T : Duo W V g h d e L) (L' : Bxd) (hs : ∀ b ∈ L',b ∈ L) : Duo W V g h d e L':=by
 obtain ⟨o1,o2,h1,h2,h3,h4,h5,h6⟩:=T
 exact ⟨o1,o2,h1,h2,h3,h4,h5,fun b hm=>h6 b (hs b hm)⟩
theorem Duo.more (T : Duo W V g h d e L) (cs : Array Value) (t : TypeId) : Duo W (V.alloc (.cells cs t)) g h d e ((V.heap.size,cs,t) :: L):=by
 obtain ⟨o1,o2,h1,h2,h3,h4,h5,h6⟩:=T
 have hb : Below V.heap.size V (V.alloc (.cells cs t)):=(Below.refl _ _).alloc (Nat.le_refl _) _
 refine ⟨o1,o2,h1.below hb,h2.below hb,h3.trans (hb.mono h3.size),h4,h5,fun b hm=>?_⟩
 rcases List.mem_cons.1 hm with rfl | hm
 ·exact ⟨BoxC.new V cs t,h3.size,fun e=>by have:=h1.lt _ e;simp at this,fun e=>by have:=h2.lt _ e;simp at this⟩
 ·exact ⟨(h6 b hm).1.below hb,(h6 b hm).2⟩
/-- The first box is written to. -/
theorem Duo.set {G : Nat} {cs : Array Value} {t : TypeId} (T : Duo W V g h d e ((G,cs,t) :: L)) (hl : ∀ b ∈ L,b.1≠G) (i : Nat) (u : Value) : Duo W (V.setCell ⟨G,i,none⟩ u) g h d e ((G,cs.setIfInBounds i u,t) :: L):=by
 obtain ⟨o1,o2,h1,h2,h3,h4,h5,h6⟩:=T
 obtain ⟨hb,hG,hn1,hn2⟩:=h6 _ (List.mem_cons_self ..)
 refine ⟨o1,o2,h1.kept fun j hj _=>Below.heap_setCell _ _ _ _ (fun e=>hn1 (by rw [show G = j from e.symm];exact hj)),h2.kept fun j hj _=>Below.heap_setCell _ _ _ _ (fun e=>hn2 (by rw [show G = j from e.symm];exact hj)),h3.setCell hG _,h4,h5,fun b hm=>?_⟩
 rcases List.mem_cons.1 hm with rfl | hm
 ·exact ⟨hb.set i u,hG,hn1,hn2⟩
 ·exact ⟨(h6 b (List.mem_cons_of_mem _ hm)).1.far i u (hl b hm),(h6 b (List.mem_cons_of_mem _ hm)).2⟩
theorem Duo.onP {o1 o2 o1' : List Nat} (h1 : PD V g d o1) (h2 : RD V h e o2) (h3 : Below W.heap.size W V) (h4 : ∀ i ∈ o1,W.heap.size≤i) (h5 : ∀ i ∈ o2,W.heap.size≤i∧i ∉ o1) (h6 : ∀ b ∈ L,BoxC V b.1 b.2.1 b.2.2∧W.heap.size≤b.1∧b.1 ∉ o1∧b.1 ∉ o2)
  (k1 : PD V' g' d' o1') (k2 : Fr V V' o1) (k3 : ∀ i ∈ o1',i ∈ o1∨V.heap.size≤i) : Duo W V' g' h d' e L:=by
 refine ⟨o1',o2,k1,h2.kept fun j hj hlt=>k2.block j hlt (h5 j hj).2,k2.below h3 h3.size h4,fun i hi=>(k3 i hi).elim (h4 i) fun h=>Nat.le_trans h3.size h,fun i hi=>⟨(h5 i hi).1,fun e=>?_⟩,fun b hm=>?_⟩
 ·rcases k3 i e with h | h
  ·exact (h5 i hi).2 h
  ·have:=h2.lt i hi;omega
 ·obtain ⟨m1,m2,m3,m4⟩:=h6 b hm
  refine ⟨box_fr m1 k2 m3,m2,fun e=>?_,m4⟩
  rcases k3 _ e with h | h
  ·exact m3 h
  ·have:=m1.lt;omega
theorem Duo.onR {o1 o2 o2' : List Nat} (h1 : PD V g d o1) (h2 : RD V h e o2) (h3 : Below W.heap.size W V) (h4 : ∀ i ∈ o1,W.heap.size≤i) (h5 : ∀ i ∈ o2,W.heap.size≤i∧i ∉ o1) (h6 : ∀ b ∈ L,BoxC V b.1 b.2.1 b.2.2∧W.heap.size≤b.1∧b.1 ∉ o1∧b.1 ∉ o2)
  (k1 : RD V' h' e' o2') (k2 : Fr V V' o2) (k3 : ∀ i ∈ o2',i ∈ o2∨V.heap.size≤i) : Duo W V' g h' d e' L:=by
 refine ⟨o1,o2',h1.kept fun j hj hlt=>k2.block j hlt (fun e=>(h5 j e).2 hj),k1,k2.below h3 h3.size (fun i hi=>(h5 i hi).1),h4,fun i hi=>?_,fun b hm=>?_⟩
 ·rcases k3 i hi with h | h
  ·exact h5 i h
  ·exact ⟨Nat.le_trans h3.size h,fun e=>by have:=h1.lt i e;omega⟩
 ·obtain ⟨m1,m2,m3,m4⟩:=h6 b hm
  refine ⟨box_fr m1 k2 m4,m2,m3,fun e=>?_⟩
  rcases k3 _ e with h | h
  ·exact m4 h
  ·have:=m1.lt;omega
/-- The document's box. -/
theorem Duo.rbox (T : Duo W V g h d e L) : ∃ vl vr vh,DkR V h e vl vr vh:=by
 obtain ⟨_,_,_,⟨vl,vr,vh,h2,_⟩,_⟩:=T
 exact ⟨vl,vr,vh,h2⟩
section
variable {a : Option Addr} {n c : Nat} {l : List UInt8} {k : Int}
theorem Duo.far (T : Duo W V g h d e L) (hb : BAt W W.heap.size a n l) : ∀ b off,a = some ⟨b,off,none⟩→0 < n→b≠h:=by
 obtain ⟨o1,o2,_,⟨vl,vr,vh,_,rfl⟩,_,_,h5,_⟩:=T
 intro b off ha hn e
 obtain ⟨b',off',e',hlt⟩:=hb.addr hn
 rw [ha] at e';injection e' with e';injection e' with e'
 have:=(h5 h (List.mem_cons_self ..)).1
 omega
theorem Duo.bat (T : Duo W V g h d e L) (hb : BAt W W.heap.size a n l) : BAt V V.heap.size a n l:=(hb.below T.bel (Nat.le_refl _)).more T.bel.size
theorem pAppend (T : Duo W V g h d e L) (hl : d.fuse < 9223372036854775808) (hM : BndD d 1099511627776) (hb : BAt W W.heap.size a n l) (hn : n≤1099511627776) :
  Calls Tryz.prog 63 #[.pointer (some ⟨g,0,none⟩),.slice a n c] V fun x w'=>x = .returned (.int .i64 (appE d l))∧Duo W w' g h (appD d l) e L:=by
 have hb':=T.bat hb
 obtain ⟨o1,o2,h1,h2,h3,h4,h5,h6⟩:=T
 exact (append_any h1 hl hM.1 hb' hn).mono fun x w' ⟨hx,o',k1,k2,k3⟩=>⟨hx,Duo.onP h1 h2 h3 h4 h5 h6 k1 k2 k3⟩
theorem dAppend (T : Duo W V g h d e L) (hl : e.fuse < 9223372036854775808) (hM : BndD e 1099511627776) (hb : BAt W W.heap.size a n l) (hn : n≤1099511627776) :
  Calls Tryz.prog 64 #[.pointer (some ⟨h,0,none⟩),.slice a n c] V fun x w'=>x = .returned (.int .i64 (appE e l))∧Duo W w' g h d (appD e l) L:=by
 have hb':=T.bat hb
 have hf:=T.far hb
 obtain ⟨o1,o2,h1,h2,h3,h4,h5,h6⟩:=T
 exact (rappend_any h2 hl hM.1 hb' hn hf).mono fun x w' ⟨hx,o',k1,k2,k3⟩=>⟨hx,Duo.onR h1 h2 h3 h4 h5 h6 k1 k2 k3⟩
end
theorem pSync (T : Duo W V g h d e L) (hl : d.fuse < 9223372036854775808) :
  Calls Tryz.prog 26 #[.pointer (some ⟨g,0,none⟩)] V fun x w'=>x = .returned (.int .i64 (synE d))∧Duo W w' g h (synD d) e L:=by
 obtain ⟨o1,o2,h1,h2,h3,h4,h5,h6⟩:=T
 have h1':=h1
 obtain ⟨v,nx,left,hp,rfl⟩:=h1'
 exact (sync_any hp hl).mono fun x w' ⟨hx,⟨left',hd⟩,hf⟩=>⟨hx,Duo.onP h1 h2 h3 h4 h5 h6 ⟨v,nx,_,hd,rfl⟩ (hf.wide fun i hi=>by simp at hi;simp [hi]) fun i hi=>.inl hi⟩
theorem dSync (T : Duo W V g h d e L) (hl : e.fuse < 9223372036854775808) (hM : BndD e 1099511627776) :
  Calls Tryz.prog 57 #[.pointer (some ⟨h,0,none⟩)] V fun x w'=>x = .returned (.int .i64 (synE e))∧Duo W w' g h d (synD e) L:=by
 obtain ⟨o1,o2,h1,h2,h3,h4,h5,h6⟩:=T
 exact (rsync_any h2 hl hM.1).mono fun x w' ⟨hx,o',k1,k2,k3⟩=>⟨hx,Duo.onR h1 h2 h3 h4 h5 h6 k1 k2 k3⟩
theorem pFuse (n : Int) (T : Duo W V g h d e L) : Calls Tryz.prog 31 #[.pointer (some ⟨g,0,none⟩),.int .i64 n] V fun x w'=>x = .returned (.tuple #[])∧Duo W w' g h (fusD d n) e L:=by
 obtain ⟨o1,o2,h1,h2,h3,h4,h5,h6⟩:=T
 have h1':=h1
 obtain ⟨v,nx,left,hp,rfl⟩:=h1'
 exact (fuse_any n hp).mono fun x w' ⟨hx,hd,hf⟩=>⟨hx,Duo.onP h1 h2 h3 h4 h5 h6 ⟨v,nx,_,hd,rfl⟩ (hf.wide fun i hi=>by simp at hi;simp [hi]) fun i hi=>.inl hi⟩
theorem Duo.dFuse (n : Int) (T : Duo W V g h d e L) : Duo W (V.setCell ⟨h,3,none⟩ (.int .i64 (max n (-1)))) g h d (fusD e n) L:=by
 obtain ⟨o1,o2,h1,h2,h3,h4,h5,h6⟩:=T
 have h2':=h2
 obtain ⟨vl,vr,vh,hp,rfl⟩:=h2'
 exact Duo.onR h1 h2 h3 h4 h5 h6 ⟨vl,vr,vh,hp.setFuse _,rfl⟩ ((Fr.set V h 3 _).wide fun i hi=>by simp at hi;simp [hi]) fun i hi=>.inl hi
theorem pCut (k : Int) (T : Duo W V g h d e L) (hM : BndD d 1099511627776) (hk1 : -9223372036854775808≤k) (hk2 : k < 9223372036854775808) :
  Calls Tryz.prog 28 #[.pointer (some ⟨g,0,none⟩),.int .i64 k] V fun x w' => ∃ g',x = .returned (.pointer (some ⟨g',0,none⟩))∧Duo W w' g' h (cutD d k) e L∧∃ own,PD w' g (downD d) own:=by
 obtain ⟨o1,o2,h1,h2,h3,h4,h5,h6⟩:=T
 refine (cut_any k h1 hM hk1 hk2).mono fun x w' ⟨g',o',hx,k1,k2,k3,k4⟩=>?_
 have hf : Fr V w' o1:=k3.wide fun i hi=>by
  obtain ⟨v,nx,left,_,rfl⟩:=h1
  simp at hi;simp [hi]
 exact ⟨g',hx,Duo.onP h1 h2 h3 h4 h5 h6 k2 hf fun i hi=>.inr (k4 i hi),_,k1⟩
theorem dCut (k : Int) (T : Duo W V g h d e L) (hM : BndD e 1099511627776) (hk1 : -9223372036854775808≤k) (hk2 : k < 9223372036854775808) :
  Calls Tryz.prog 60 #[.pointer (some ⟨h,0,none⟩),.int .i64 k] V fun x w' => ∃ h',x = .returned (.pointer (some ⟨h',0,none⟩))∧Duo W w' g h' d (cutD e k) L:=by
 obtain ⟨o1,o2,h1,h2,h3,h4,h5,h6⟩:=T
 refine (rcut_any k h2 hM hk1 hk2).mono fun x w' ⟨g',o',hx,k1,k2,k3,k4⟩=>?_
 have hf : Fr V w' o2:=k3.wide fun i hi=>by
  obtain ⟨vl,vr,vh,_,rfl⟩:=h2
  simp at hi;simp [hi]
 exact ⟨g',hx,Duo.onR h1 h2 h3 h4 h5 h6 k2 hf fun i hi=>.inr (k4 i hi)⟩
theorem pLasting (T : Duo W V g h d e L) : Calls Tryz.prog 23 #[.pointer (some ⟨g,0,none⟩)] V fun x w'=>x = .returned (.int .i64 d.la.length)∧V = w':=by
 obtain ⟨o1,_,⟨v,nx,left,hp,_⟩,_⟩:=T
 exact lasting_any hp
theorem pBytes (T : Duo W V g h d e L) (hM : BndD d 1099511627776) : Calls Tryz.prog 24 #[.pointer (some ⟨g,0,none⟩)] V fun x w' => ∃ a n c,x = .returned (.slice a n c)∧BAt w' w'.heap.size a n (d.la ++ d.re)∧n≤maxLen∧Duo W w' g h d e L∧Below V.heap.size V w':=by
 have T0:=T
 obtain ⟨o1,_,⟨v,nx,left,hp,_⟩,_⟩:=T
 refine (bytes_any hp hM.1).mono fun x w' ⟨a,n,c,hx,ho,hb⟩=>?_
 obtain ⟨hnc,hcm⟩:=own_caps ho
 exact ⟨a,n,c,hx,BAt.of_own ho,Nat.le_trans hnc hcm,T0.later hb,hb⟩
theorem dBytes (T : Duo W V g h d e L) (hM : BndD e 1099511627776) : Calls Tryz.prog 25 #[.pointer (some ⟨h,0,none⟩)] V fun x w' => ∃ a n c,x = .returned (.slice a n c)∧BAt w' w'.heap.size a n (e.la ++ e.re)∧n≤maxLen∧Duo W w' g h d e L∧Below V.heap.size V w':=by
 have T0:=T
 obtain ⟨_,o2,_,⟨vl,vr,vh,hp,_⟩,_⟩:=T
 refine (rbytes_any hp hM.1).mono fun x w' ⟨a,n,c,hx,ho,hb⟩=>?_
 obtain ⟨hnc,hcm⟩:=own_caps ho
 exact ⟨a,n,c,hx,BAt.of_own ho,Nat.le_trans hnc hcm,T0.later hb,hb⟩
/-- Both are made. -/
theorem Duo.made {n : Int} {w1 w2 : World} (hb : Below W.heap.size W V) (b1 : Below V.heap.size V w1) (h1 : DkP w1 V.heap.size (newD n) (.slice none 0 0) (.slice none 0 0) 0) (b2 : Below w1.heap.size w1 w2) (h2 : DkR w2 w1.heap.size (newD n) (.slice none 0 0) (.slice none 0 0) (.slice none 0 0)) :
  Duo W w2 V.heap.size w1.heap.size (newD n) (newD n) []:=by
 have hs:=hb.size
 have hs1:=b1.size
 have hlt:=h1.box.lt
 refine ⟨[V.heap.size],[w1.heap.size],⟨_,_,_,h1.below b2,rfl⟩,⟨_,_,_,h2,rfl⟩,(hb.trans (b1.mono hs)).trans (b2.mono (Nat.le_trans hs hs1)),fun i hi=>by simp at hi;omega,fun i hi=>?_,fun b hb=>by cases hb⟩
 simp at hi
 exact ⟨by omega,by simp;omega⟩
end
section
variable {W V w' : World} {g h : Nat} {d d' e : Dk} {own : List Nat} {L : Bxd}
/-- What a law's disk leaves alone. -/
theorem LawK.stp {P : World→Prop} (k : LawK W w' g d' (fun X=>Fr V X own∧P X)) : ∃ own',PD w' g d' own'∧Fr V w' own∧(∀ i ∈ own',i ∈ own∨V.heap.size≤i)∧P w':=by
 obtain ⟨own',k1,k2,k3,k4⟩:=k
 have F0:=(k4 w' (Fr.refl w' own'))
 refine ⟨own',k1,F0.1,fun i hi=>?_,F0.2⟩
 by_cases hV : V.heap.size≤i
 ·exact .inr hV
 ·refine .inl (Classical.byContradiction fun hn=>?_)
  have hlt : i < V.heap.size:=by omega
  have hlt' : i < w'.heap.size:=Nat.lt_of_lt_of_le hlt F0.1.size
  obtain ⟨o,ho⟩ : ∃ o : Obj,some o≠V.heap[i]?:=by
   by_cases e : V.heap[i]? = some (.pending #[] 0)
   ·exact ⟨.pending #[.bool true] 0,by rw [e];simp⟩
   ·exact ⟨.pending #[] 0,fun h=>e h.symm⟩
  have hF : Fr w' { w' with heap:=w'.heap.setIfInBounds i o } own':=⟨rfl,rfl,rfl,by simp,fun j hj hni=>by
   have hne : i≠j:=fun e=>hni (e ▸ hi)
   show (w'.heap.setIfInBounds i o)[j]? = w'.heap[j]?
   rw [Array.getElem?_setIfInBounds,if_neg hne]⟩
  have h1:=(k4 _ hF).1.block i hlt hn
  have h2 : (w'.heap.setIfInBounds i o)[i]? = V.heap[i]?:=h1
  rw [Array.getElem?_setIfInBounds,if_pos rfl,if_pos hlt'] at h2
  exact ho h2
theorem Duo.viaP {f : FuncId} {args : Array Value} {x : Ending} (T : Duo W V g h d e L) (K : ∀ P,LawK W V g d P→Calls Tryz.prog f args V fun y w'=>y = x∧LawK W w' g d' P) :
  Calls Tryz.prog f args V fun y w'=>y = x∧Duo W w' g h d' e L:=by
 obtain ⟨o1,o2,h1,h2,h3,h4,h5,h6⟩:=T
 refine (K (fun X=>Fr V X o1∧True) ⟨o1,h1,h3,h4,fun V' hf=>⟨hf,trivial⟩⟩).mono fun y w' ⟨hy,hk⟩=>?_
 obtain ⟨o1',k1,k2,k3,_⟩:=(hk : LawK W w' g d' (fun X=>Fr V X o1∧True)).stp
 exact ⟨hy,Duo.onP h1 h2 h3 h4 h5 h6 k1 k2 k3⟩
theorem pAdd {x : RcM} {Lx : RcL} (T : Duo W V g h d e L) (hl : d.fuse < 9223372036854775808) (hM : BndD d 1099511627776) (hX : RcAt V x Lx) (hF : RcF x) (hU : Tabs V) :
  Calls Tryz.prog 27 #[.pointer (some ⟨g,0,none⟩),.agg (rcV x)] V fun y w'=>y = .returned (.int .i64 (addE d (rcT x Lx)))∧Duo W w' g h (addD d (rcT x Lx)) e L :=
 T.viaP fun P k=>add_k k hl hM hX hF hU
/-- What Compact answers, and leaves. -/
noncomputable def allF (D : List RE) : Bool:=@decide (∀ z ∈ D,formR (rcT z.1 z.2) = true) (Classical.propDecidable _)
theorem allF_yes {D : List RE} (h : ∀ z ∈ D,formR (rcT z.1 z.2) = true) : allF D = true:=@decide_eq_true _ (Classical.propDecidable _) h
theorem allF_no {D : List RE} (h : ¬ ∀ z ∈ D,formR (rcT z.1 z.2) = true) : allF D = false:=@decide_eq_false _ (Classical.propDecidable _) h
noncomputable def cmpE (d : Dk) (D : List RE) : Int:=if allF D = true then repE d (catR (rcS D)) else 2
noncomputable def cmpD (d : Dk) (D : List RE) : Dk:=if allF D = true then repD d (catR (rcS D)) else d
theorem pCompact {a : Option Addr} {n c : Nat} {D : List RE} (T : Duo W V g h d e L) (hl : d.fuse < 9223372036854775808) (hD : RcsAt V a n D) (hn : n≤1000) (hnc : n≤c) (hcm : c≤maxLen) (hU : Tabs V) :
  Calls Tryz.prog 32 #[.pointer (some ⟨g,0,none⟩),.slice a n c] V fun y w'=>y = .returned (.int .i64 (cmpE d D))∧Duo W w' g h (cmpD d D) e L:=by
 by_cases hF : ∀ z ∈ D,formR (rcT z.1 z.2) = true
 ·unfold cmpE cmpD
  rw [allF_yes hF,if_pos rfl,if_pos rfl]
  exact T.viaP fun P k=>compact_yes _ V hD hF hn hnc hcm hU fun X b m q hX hb hm=>replace_k (k.later hX) hl hb hm
 ·unfold cmpE cmpD
  rw [allF_no hF,if_neg (by decide),if_neg (by decide)]
  obtain ⟨j,hj,h1,h2⟩:=first_bad D hF
  exact (compact_no j V hD hj h1 h2 hn hnc hcm hU).mono fun y w' ⟨hy,hb⟩=>⟨hy,T.later hb⟩
/-- Both disks, and a list that stays whatever the document's disk does. -/
def DuoL (W V : World) (g h : Nat) (d e : Dk) (L : Bxd) (P : World→Prop) : Prop := ∃ o1 o2,PD V g d o1∧RD V h e o2∧Below W.heap.size W V∧(∀ i ∈ o1,W.heap.size≤i)∧(∀ i ∈ o2,W.heap.size≤i∧i ∉ o1)∧(∀ b ∈ L,BoxC V b.1 b.2.1 b.2.2∧W.heap.size≤b.1∧b.1 ∉ o1∧b.1 ∉ o2)∧∀ X,Fr V X o2→P X
theorem DuoL.duo {P : World→Prop} (T : DuoL W V g h d e L P) : Duo W V g h d e L:=by
 obtain ⟨o1,o2,h1,h2,h3,h4,h5,h6,_⟩:=T
 exact ⟨o1,o2,h1,h2,h3,h4,h5,h6⟩
theorem DuoL.get {P : World→Prop} (T : DuoL W V g h d e L P) : P V:=by
 obtain ⟨o1,o2,h1,h2,h3,h4,h5,h6,h7⟩:=T
 exact h7 V (Fr.refl V o2)
theorem pOpen (T : Duo W V g h d e L) (hl : d.fuse < 9223372036854775808) (hM : BndD d 1099511627776) (hU : Tabs V) :
  Calls Tryz.prog 29 #[.pointer (some ⟨g,0,none⟩)] V fun y w' => ∃ a n c D,y = .returned (.tuple #[.slice a n c,.int .i64 (opnE d)])∧DuoL W w' g h (opnD d) e L (fun X=>RcsAt X a n D)∧rcS D = opnL d∧n≤c∧c≤maxLen:=by
 obtain ⟨o1,o2,h1,h2,h3,h4,h5,h6⟩:=T
 have k : LawK W V g d (fun X=>Fr V X o1):=⟨o1,h1,h3,h4,fun V' hf=>hf⟩
 refine (open_own k hl hM hU).mono fun y w' ⟨a,n,c,D,hy,hk,hD,hc,hm⟩=>?_
 obtain ⟨o1',k1,k2,k3,k4⟩:=hk.stp
 obtain ⟨p1,p2,q1,q2,q3,q4,q5,q6⟩:=Duo.onP h1 h2 h3 h4 h5 h6 k1 k2 k3
 refine ⟨a,n,c,D,hy,⟨o1',o2,k1,h2.kept fun j hj hlt=>k2.block j hlt (h5 j hj).2,k2.below h3 h3.size h4,fun i hi=>(k3 i hi).elim (h4 i) fun h=>Nat.le_trans h3.size h,fun i hi=>⟨(h5 i hi).1,fun e=>?_⟩,fun b hm=>?_,fun X hX=>(k4.keep hX.size fun b hb hlt=>hX.block b hlt fun e=>by have:=h2.lt b e;omega).at_⟩,hD,hc,hm⟩
 ·rcases k3 i e with h | h
  ·exact (h5 i hi).2 h
  ·have:=h2.lt i hi;omega
 ·obtain ⟨m1,m2,m3,m4⟩:=h6 b hm
  refine ⟨box_fr m1 k2 m3,m2,fun e=>?_,m4⟩
  rcases k3 _ e with h | h
  ·exact m3 h
  ·have:=m1.lt;omega
end
end Go.Proofs.YtcfmifongbapkaaGreatDoor
