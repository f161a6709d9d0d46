/- Contract of the document's Formed of commands. Conditions: the command's lists lie in memory, and are no longer than a million. Contract of the document's Put of commands. Conditions: what it is handed lies in memory. -/
import Derived.Test.YtigimmbdlhginaaGreatDoorGI
import Derived.Test.YtigimmbdlhginaaGreatDoorTxnRefFormed
import Derived.Deep.DeepCutAuto
import Derived.Test.YtigimmbdlhginaaGreatDoorHA
import Derived.Test.YtigimmbdlhginaaGreatDoorGO
namespace Go.Proofs.YtigimmbdlhginaaGreatDoor
set_option maxRecDepth 100000
set_option maxHeartbeats 4000000
open Go.RowKit
set_option linter.unusedVariables false
theorem doc_zero (x : CmM) (rs : List RdM) (ws : List WrM) (h : x.k = 0) : formCm (cmT x rs ws) = sameC x zeroM rs [] ws []:=by
 cases e : sameC x zeroM rs [] ws []
 ·refine form_clean ?_
  unfold cleanB namedM namedL
  rw [if_neg (by omega),if_neg (by omega),if_neg (by omega),if_neg (by omega),if_neg (by omega)];exact e
 ·rw [(sameC_iff _ _ _ _ _ _).1 e];rfl
theorem doc_begin (x : CmM) (rs : List RdM) (ws : List WrM) (h : x.k = 1) : formCm (cmT x rs ws) = (formT formedB (txT (x.s,x.q) rs ws) && (eqB (x.i,x.j) (0,0) && ((x.g == 0) && ((((x.st : Nat) : Int) == 0) && !x.y)))):=by
 unfold formCm
 have e : (cmT x rs ws).k = 1:=h
 rw [if_neg (by omega),if_pos e,eqB_dec]
 show (formT formedB (txT (x.s,x.q) rs ws) && ((decide ((x.i,x.j) = (0,0)) && decide (x.g = 0)) && (decide (x.st = 0) && !x.y))) = _
 have e1 : decide (x.g = 0) = (x.g == 0):=rfl
 have e2 : decide (x.st = 0) = (((x.st : Nat) : Int) == 0):=by
  by_cases h : x.st = 0
  ·rw [decide_eq_true h,h];rfl
  ·rw [decide_eq_false h];symm;simpa using h
 rw [e1,e2]
 generalize (x.g == 0) = B1
 generalize (((x.st : Nat) : Int) == 0) = B2
 cases B1 <;> cases B2 <;> simp
theorem doc_stamp (x : CmM) (rs : List RdM) (ws : List WrM) (h : x.k = 2) : formCm (cmT x rs ws) = ((zeroTB (txT (x.s,x.q) rs ws) && srcB x) && (!x.y && (decide ((0 : Int) < ((x.st : Nat) : Int)) && decide (((x.st : Nat) : Int)≤9223372036854775807)))):=by
 unfold formCm
 have e : (cmT x rs ws).k = 2:=h
 rw [if_neg (by omega),if_neg (by omega),if_pos e]
 have e1 : decide ((0 : Int) < ((x.st : Nat) : Int)) = decide (0 < x.st):=by rw [decide_eq_decide];omega
 have e2 : decide (((x.st : Nat) : Int)≤9223372036854775807) = decide (x.st≤9223372036854775807):=by rw [decide_eq_decide];omega
 rw [e1,e2];rfl
theorem doc_vote (x : CmM) (rs : List RdM) (ws : List WrM) (h : x.k = 3) : formCm (cmT x rs ws) = ((zeroTB (txT (x.s,x.q) rs ws) && srcB x) && (((x.st : Nat) : Int) == 0)):=by
 unfold formCm
 have e : (cmT x rs ws).k = 3:=h
 rw [if_neg (by omega),if_neg (by omega),if_neg (by omega),if_pos e]
 have e2 : (((x.st : Nat) : Int) == 0) = decide (x.st = 0):=by
  by_cases h : x.st = 0
  ·rw [decide_eq_true h,h];rfl
  ·rw [decide_eq_false h];simpa using h
 rw [e2];rfl
theorem doc_none (x : CmM) (rs : List RdM) (ws : List WrM) (h0 : ¬ x.k = 0) (h1 : ¬ x.k = 1) (h2 : ¬ x.k = 2) (h3 : ¬ x.k = 3) : formCm (cmT x rs ws) = false:=by
 unfold formCm cmT
 simp only []
 rw [if_neg h0,if_neg h1,if_neg h2,if_neg h3]
theorem dFormed_any (x : CmM) (rs : List RdM) (ws : List WrM) (w : World) (h : CmAt w x rs ws) (hn : x.n≤1000000) (hm : x.m≤1000000) :
  Calls Tryz.prog 76 #[.agg (cmV x)] w (Says w (formCm (cmT x rs ws))):=by
 have H0:=Lib.hid ((Boxs.start w).more (cmV x) 44)
 have cZ : ∀ W,Below w.heap.size w W→Calls Tryz.prog 24 #[.agg (txV x.s x.q x.a x.n x.c x.b x.m x.d),.agg (txV 0 0 none 0 0 none 0 0)] W (Says W (zeroTB (txT (x.s,x.q) rs ws))):=fun W hW=>by
  have h1:=rSame_any x.s x.q x.a x.n x.c x.b x.m x.d rs ws 0 0 none 0 0 none 0 0 [] [] W (h.tx.later hW) TxAt.nil hn hm
  rw [sameM_zero] at h1;exact h1
 have cI:=fun W=>rId_any x.i x.j W
 have cF:=fun W (hW : Below w.heap.size w W)=>rFormedT_any x.s x.q x.a x.n x.c x.b x.m x.d rs ws W (h.tx.later hW)
 have cS : ∀ W,Below w.heap.size w W→Calls Tryz.prog 23 #[.agg (cmV x),.agg zeroV] W (Says W (sameC x zeroM rs [] ws [])):=fun W hW=>dSame_any x zeroM rs [] ws [] W (h.later hW) CmAt.zero hn hm
 have Q0:=Lib.hid (doc_zero x rs ws)
 have Q1:=Lib.hid (doc_begin x rs ws)
 have Q2:=Lib.hid (doc_stamp x rs ws)
 have Q3:=Lib.hid (doc_vote x rs ws)
 have Q4:=Lib.hid (doc_none x rs ws)
 generalize formT formedB (txT (x.s,x.q) rs ws) = FB at *
 generalize zeroTB (txT (x.s,x.q) rs ws) = Z at *
 generalize sameC x zeroM rs [] ws [] = SB at *
 generalize formCm (cmT x rs ws) = B at *
 obtain ⟨x0,x1,x2,x3,x4,x5,x6,x7,x8,x9⟩:=(H0.g 0 rfl).ten
 clear h
 go_enter Tryz.func76,Tryz.ntmps76
 go_upto_region 2 with (go_at_call 24;((with_reducible refine (cZ _ H0.out.bel).mono ?_);rintro e w1 ⟨rfl,hb1⟩;have H1:=Lib.hid (H0.out.below hb1);(clear x0 x1 x2 x3 x4 x5 x6 x7 x8 x9);obtain ⟨x0,x1,x2,x3,x4,x5,x6,x7,x8,x9⟩:=(H1.g 0 rfl).ten))
 go_cut [4] (fun c wr=>c = .bool (Z && srcB x)∧Boxs w wr [(w.heap.size,cmV x,44)])
 case first =>
  clear Q0 Q1 Q2 Q3 Q4 cF cS cZ
  cases Z
  ·go_wp2
   go_meet
   case rel=>exact ⟨rfl,H1.out⟩
  ·cases hI : idB (x.i,x.j)
   ·rw [hI] at cI
    go_wp2_with (go_at_call 45;((with_reducible refine (cI _).mono ?_);rintro e w2 ⟨rfl,hb2⟩;have H2:=Lib.hid (H1.out.below hb2)))
    go_meet
    case rel=>exact ⟨by unfold srcB;rw [hI];rfl,H2.out⟩
   ·rw [hI] at cI
    by_cases h1 : 0≤x.g
    ·go_wp2_with (go_at_call 45;((with_reducible refine (cI _).mono ?_);rintro e w2 ⟨rfl,hb2⟩;have H2:=Lib.hid (H1.out.below hb2);(clear x0 x1 x2 x3 x4 x5 x6 x7 x8 x9);obtain ⟨x0,x1,x2,x3,x4,x5,x6,x7,x8,x9⟩:=(H2.g 0 rfl).ten))
     go_meet
     case rel=>exact ⟨by unfold srcB;rw [hI,decide_eq_true (p:=0≤x.g) (by omega)];rfl,H2.out⟩
    ·go_wp2_with (go_at_call 45;((with_reducible refine (cI _).mono ?_);rintro e w2 ⟨rfl,hb2⟩;have H2:=Lib.hid (H1.out.below hb2);(clear x0 x1 x2 x3 x4 x5 x6 x7 x8 x9);obtain ⟨x0,x1,x2,x3,x4,x5,x6,x7,x8,x9⟩:=(H2.g 0 rfl).ten))
     go_meet
     case rel=>exact ⟨by unfold srcB;rw [hI,decide_eq_false (p:=0≤x.g) (by omega)];rfl,H2.out⟩
 case rest =>
 obtain ⟨rfl,hX⟩:=hcut
 have X:=Lib.hid hX
 (clear x0 x1 x2 x3 x4 x5 x6 x7 x8 x9)
 obtain ⟨x0,x1,x2,x3,x4,x5,x6,x7,x8,x9⟩:=(X.g 0 rfl).ten
 clear hX cZ cI H0 H1 hb1
 generalize (Z && srcB x) = A at *
 by_cases h0 : x.k = 0
 ·have Q:=Lib.hid (Q0.out h0)
  clear Q0 Q1 Q2 Q3 Q4 cF
  have q0 : (x.k == 0) = true:=by simp;omega
  clear h0
  go_wp2_with (go_at_call 23;((with_reducible refine (cS _ X.out.bel).mono ?_);rintro e w3 ⟨rfl,hb3⟩;have X3:=Lib.hid (X.out.below hb3)))
  go_ret
  exact ⟨by rw [Q.out];rfl,X3.out.bel⟩
 by_cases h1 : x.k = 1
 ·have Q:=Lib.hid (Q1.out h1)
  clear Q0 Q1 Q2 Q3 Q4 cS
  have q0 : (x.k == 0) = false:=by simp;omega
  have q1 : (x.k == 1) = true:=by simp;omega
  clear h1
  cases FB
  ·go_wp2_with (go_at_call 77;((with_reducible refine (cF _ X.out.bel).mono ?_);rintro e w3 ⟨rfl,hb3⟩;have X3:=Lib.hid (X.out.below hb3)))
   go_ret
   exact ⟨by rw [Q.out];rfl,X3.out.bel⟩
  rcases id_cases x.i x.j 0 0 with ⟨e,r2,r3⟩ | ⟨e,r2⟩ | ⟨e,r2,r3⟩
  ·rw [e] at Q
   cases q4 : (x.g == 0)
   ·rw [q4] at Q
    go_wp2_with (go_at_call 77;((with_reducible refine (cF _ X.out.bel).mono ?_);rintro e w3 ⟨rfl,hb3⟩;have X3:=Lib.hid (X.out.below hb3);(clear x0 x1 x2 x3 x4 x5 x6 x7 x8 x9);obtain ⟨x0,x1,x2,x3,x4,x5,x6,x7,x8,x9⟩:=(X3.g 0 rfl).ten))
    go_ret
    exact ⟨by rw [Q.out];rfl,X3.out.bel⟩
   cases q5 : (((x.st : Nat) : Int) == 0)
   ·rw [q4,q5] at Q
    go_wp2_with (go_at_call 77;((with_reducible refine (cF _ X.out.bel).mono ?_);rintro e w3 ⟨rfl,hb3⟩;have X3:=Lib.hid (X.out.below hb3);(clear x0 x1 x2 x3 x4 x5 x6 x7 x8 x9);obtain ⟨x0,x1,x2,x3,x4,x5,x6,x7,x8,x9⟩:=(X3.g 0 rfl).ten))
    go_ret
    exact ⟨by rw [Q.out];rfl,X3.out.bel⟩
   rw [q4,q5] at Q
   go_wp2_with (go_at_call 77;((with_reducible refine (cF _ X.out.bel).mono ?_);rintro e w3 ⟨rfl,hb3⟩;have X3:=Lib.hid (X.out.below hb3);(clear x0 x1 x2 x3 x4 x5 x6 x7 x8 x9);obtain ⟨x0,x1,x2,x3,x4,x5,x6,x7,x8,x9⟩:=(X3.g 0 rfl).ten))
   go_ret
   exact ⟨by rw [Q.out];rfl,X3.out.bel⟩
  ·rw [e] at Q
   go_wp2_with (go_at_call 77;((with_reducible refine (cF _ X.out.bel).mono ?_);rintro e w3 ⟨rfl,hb3⟩;have X3:=Lib.hid (X.out.below hb3);(clear x0 x1 x2 x3 x4 x5 x6 x7 x8 x9);obtain ⟨x0,x1,x2,x3,x4,x5,x6,x7,x8,x9⟩:=(X3.g 0 rfl).ten))
   go_ret
   exact ⟨by rw [Q.out];rfl,X3.out.bel⟩
  ·rw [e] at Q
   go_wp2_with (go_at_call 77;((with_reducible refine (cF _ X.out.bel).mono ?_);rintro e w3 ⟨rfl,hb3⟩;have X3:=Lib.hid (X.out.below hb3);(clear x0 x1 x2 x3 x4 x5 x6 x7 x8 x9);obtain ⟨x0,x1,x2,x3,x4,x5,x6,x7,x8,x9⟩:=(X3.g 0 rfl).ten))
   go_ret
   exact ⟨by rw [Q.out];rfl,X3.out.bel⟩
 by_cases h2 : x.k = 2
 ·have Q:=Lib.hid (Q2.out h2)
  clear Q0 Q1 Q2 Q3 Q4 cS cF
  have q0 : (x.k == 0) = false:=by simp;omega
  have q1 : (x.k == 1) = false:=by simp;omega
  have q2 : (x.k == 2) = true:=by simp;omega
  clear h2
  cases A
  ·go_wp2
   go_ret
   exact ⟨by rw [Q.out];rfl,X.out.bel⟩
  cases q4 : x.y
  ·rw [q4] at Q
   by_cases h4 : (0 : Int) < ((x.st : Nat) : Int)
   ·rw [decide_eq_true h4] at Q
    go_wp2
    go_ret
    exact ⟨by rw [Q.out];rfl,X.out.bel⟩
   ·rw [decide_eq_false h4] at Q
    go_wp2
    go_ret
    exact ⟨by rw [Q.out];rfl,X.out.bel⟩
  ·rw [q4] at Q
   go_wp2
   go_ret
   exact ⟨by rw [Q.out];rfl,X.out.bel⟩
 by_cases h3 : x.k = 3
 ·have Q:=Lib.hid (Q3.out h3)
  clear Q0 Q1 Q2 Q3 Q4 cS cF
  have q0 : (x.k == 0) = false:=by simp;omega
  have q1 : (x.k == 1) = false:=by simp;omega
  have q2 : (x.k == 2) = false:=by simp;omega
  have q3 : (x.k == 3) = true:=by simp;omega
  clear h3
  cases A
  ·go_wp2
   go_ret
   exact ⟨by rw [Q.out];rfl,X.out.bel⟩
  ·go_wp2
   go_ret
   exact ⟨by rw [Q.out];rfl,X.out.bel⟩
 have Q:=Lib.hid (Q4.out h0 h1 h2 h3)
 clear Q0 Q1 Q2 Q3 Q4 cS cF
 have q0 : (x.k == 0) = false:=by simp;omega
 have q1 : (x.k == 1) = false:=by simp;omega
 have q2 : (x.k == 2) = false:=by simp;omega
 have q3 : (x.k == 3) = false:=by simp;omega
 go_wp2
 go_ret
 exact ⟨by rw [Q.out];rfl,X.out.bel⟩
theorem dPut_any (pa : Option Addr) (pk pc : Nat) (l : List UInt8) (x : CmM) (rs : List RdM) (ws : List WrM) (w : World) (hl : BAt w w.heap.size pa pk l) (hpk : pk≤1099490000000) (h : CmAt w x rs ws) (hn : x.n≤1000000) (hm : x.m≤1000000) :
  Calls Tryz.prog 51 #[.slice pa pk pc,.agg (cmV x)] w (NewB w (putC l (cmT x rs ws))):=by
 obtain ⟨i0,hi,hz0,hz1,hz2⟩:=info_parts Tryz.info5
 have H0:=Lib.hid ((Boxs.start w).more (cmV x) 44)
 have hl1:=(hl.below H0.out.bel (Nat.le_refl _)).more H0.out.bel.size
 have cF:=fun W (hW : Below w.heap.size w W)=>dFormed_any x rs ws W (h.later hW) hn hm
 have hll:=hl.len
 clear hl
 unfold putC
 cases hf : formCm (cmT x rs ws)
 ·rw [hf] at cF
  rw [if_neg (by decide)]
  clear hf h
  go_enter Tryz.func51,Tryz.ntmps51
  go_upto_region 2 with (fail)
  generalize w.alloc (.cells (cmV x) 44) = w0 at *
  obtain ⟨x0,x1,x2,x3,x4,x5,x6,x7,x8,x9⟩:=(H0.g 0 rfl).ten
  go_wp2_with (first | (at_builtin;(refine wpList_append_bytes _ rfl _ _ 22 rfl w0.heap.size 5 i0 Tryz.underlying22 hi hz0 hz1 hz2 _ 0 [] rfl (World.ownsRow_nil _ _ _ _) w0.heap.size pa pk l pc rfl hl1 (by omega) (Nat.le_refl _) ?_;intro v1 w1 ho1 hg1;rw [Nat.zero_add,List.nil_append] at ho1;have P1 : Hid (PutIn w0 w1 v1 pk l):=⟨ho1,(Below.refl _ _).grown hg1 (Nat.le_refl _) (by intro j hj;cases hj)⟩;clear ho1 hg1;have H1:=Lib.hid (H0.out.below P1.out.bel);(clear x0 x1 x2 x3 x4 x5 x6 x7 x8 x9);obtain ⟨x0,x1,x2,x3,x4,x5,x6,x7,x8,x9⟩:=(H1.g 0 rfl).ten)) | (go_at_call 76;((with_reducible refine (cF _ H1.out.bel).mono ?_);rintro e w2 ⟨rfl,hb2⟩;have P2:=Lib.hid (P1.out.below hb2))))
  go_ret
  exact P2.out.out.on H0.out.bel
 rw [hf] at cF
 rw [if_pos rfl]
 have hst:=h.st
 have hX:=h.tx
 rcases form_M hf with ⟨hk,e⟩ | ⟨hk,ht,e⟩ | ⟨hk,⟨hid,hg,hg4⟩,e⟩ | ⟨hk,⟨hid,hg,hg4⟩,e⟩
 ·rw [e]
  clear e hf h
  obtain ⟨k,s,q,a,n,c,b,m,d,i,j,g,st,y⟩:=x
  simp only at hk
  subst hk
  show Calls _ _ _ _ (NewB w (l ++ putB 0 1))
  have HE : Hid (l ++ putB 0 1 = l ++ [UInt8.ofNat 0]):=by unfold Hid;rw [put_one]
  rw [HE.out]
  clear hX
  go_enter Tryz.func51,Tryz.ntmps51
  go_upto_region 2 with (fail)
  generalize w.alloc (.cells (cmV ⟨0,s,q,a,n,c,b,m,d,i,j,g,st,y⟩) 44) = w0 at *
  obtain ⟨x0,x1,x2,x3,x4,x5,x6,x7,x8,x9⟩:=(H0.g 0 rfl).ten
  go_upto_region 5 with (first | (at_builtin;(refine wpList_append_bytes _ rfl _ _ 22 rfl w0.heap.size 5 i0 Tryz.underlying22 hi hz0 hz1 hz2 _ 0 [] rfl (World.ownsRow_nil _ _ _ _) w0.heap.size pa pk l pc rfl hl1 (by omega) (Nat.le_refl _) ?_;intro v1 w1 ho1 hg1;rw [Nat.zero_add,List.nil_append] at ho1;have P1 : Hid (PutIn w0 w1 v1 pk l):=⟨ho1,(Below.refl _ _).grown hg1 (Nat.le_refl _) (by intro j hj;cases hj)⟩;clear ho1 hg1;have H1:=Lib.hid (H0.out.below P1.out.bel);(clear x0 x1 x2 x3 x4 x5 x6 x7 x8 x9);obtain ⟨x0,x1,x2,x3,x4,x5,x6,x7,x8,x9⟩:=(H1.g 0 rfl).ten)) | (go_at_call 76;((with_reducible refine (cF _ H1.out.bel).mono ?_);rintro e w2 ⟨rfl,hb2⟩;have P2:=Lib.hid (P1.out.below hb2))))
  have H2:=Lib.hid (H0.out.below P2.out.bel)
  (clear x0 x1 x2 x3 x4 x5 x6 x7 x8 x9)
  obtain ⟨x0,x1,x2,x3,x4,x5,x6,x7,x8,x9⟩:=(H2.g 0 rfl).ten
  have hsz2:=P2.out.bel.size
  go_upto_region 6 with (at_builtin;(refine wpList_append_bytes _ rfl _ _ 22 rfl w0.heap.size 5 i0 Tryz.underlying22 hi hz0 hz1 hz2 _ pk l rfl (P2.out.own.alloc _) (w2.heap.size + 1) (some ⟨w2.heap.size,0,none⟩) 1 [UInt8.ofNat 0] 1 rfl (BAt.one _ _ _ _ (by first | rfl | decide)) (by omega) (by simp;omega) ?_;intro v3 w3 ho3 hg3;have P3:=Lib.hid (P2.out.next ho3 hg3);clear ho3 hg3))
  obtain ⟨a3,c3,rfl⟩:=P3.out.form
  have H3:=Lib.hid (H0.out.below P3.out.bel)
  (clear x0 x1 x2 x3 x4 x5 x6 x7 x8 x9)
  obtain ⟨x0,x1,x2,x3,x4,x5,x6,x7,x8,x9⟩:=(H3.g 0 rfl).ten
  have hl3:=P3.out.len
  (clear P1 P2 H1 H2 cF)
  generalize l ++ [UInt8.ofNat 0] = l3 at *
  go_wp2
  go_ret
  exact P3.out.out.on H0.out.bel
 ·rw [e]
  clear e hf h
  obtain ⟨k,s,q,a,n,c,b,m,d,i,j,g,st,y⟩:=x
  simp only at hk
  subst hk
  show Calls _ _ _ _ (NewB w (l ++ (putB 1 1 ++ txnB bytesV (txT (s,q) rs ws))))
  have HE : Hid (l ++ (putB 1 1 ++ txnB bytesV (txT (s,q) rs ws)) = (l ++ [UInt8.ofNat 1]) ++ txnB bytesV (txT (s,q) rs ws)):=by unfold Hid;rw [put_one,List.append_assoc]
  have cT : ∀ a1 n1 c1 L W,Below w.heap.size w W→BAt W W.heap.size a1 n1 L→n1≤1099500000000→Calls Tryz.prog 52 #[.slice a1 n1 c1,.agg (txV s q a n c b m d)] W (NewB W (L ++ txnB bytesV (txT (s,q) rs ws))):=fun a1 n1 c1 L W hW h1 h2=>(rPutT_any a1 n1 c1 L s q a n c b m d rs ws W h1 h2 (hX.later hW)).mono fun e w' h=>h.cast (by unfold putT;rw [if_pos ht])
  rw [HE.out]
  generalize txnB bytesV (txT (s,q) rs ws) = K2 at *
  clear hX
  go_enter Tryz.func51,Tryz.ntmps51
  go_upto_region 2 with (fail)
  generalize w.alloc (.cells (cmV ⟨1,s,q,a,n,c,b,m,d,i,j,g,st,y⟩) 44) = w0 at *
  obtain ⟨x0,x1,x2,x3,x4,x5,x6,x7,x8,x9⟩:=(H0.g 0 rfl).ten
  go_upto_region 5 with (first | (at_builtin;(refine wpList_append_bytes _ rfl _ _ 22 rfl w0.heap.size 5 i0 Tryz.underlying22 hi hz0 hz1 hz2 _ 0 [] rfl (World.ownsRow_nil _ _ _ _) w0.heap.size pa pk l pc rfl hl1 (by omega) (Nat.le_refl _) ?_;intro v1 w1 ho1 hg1;rw [Nat.zero_add,List.nil_append] at ho1;have P1 : Hid (PutIn w0 w1 v1 pk l):=⟨ho1,(Below.refl _ _).grown hg1 (Nat.le_refl _) (by intro j hj;cases hj)⟩;clear ho1 hg1;have H1:=Lib.hid (H0.out.below P1.out.bel);(clear x0 x1 x2 x3 x4 x5 x6 x7 x8 x9);obtain ⟨x0,x1,x2,x3,x4,x5,x6,x7,x8,x9⟩:=(H1.g 0 rfl).ten)) | (go_at_call 76;((with_reducible refine (cF _ H1.out.bel).mono ?_);rintro e w2 ⟨rfl,hb2⟩;have P2:=Lib.hid (P1.out.below hb2))))
  have H2:=Lib.hid (H0.out.below P2.out.bel)
  (clear x0 x1 x2 x3 x4 x5 x6 x7 x8 x9)
  obtain ⟨x0,x1,x2,x3,x4,x5,x6,x7,x8,x9⟩:=(H2.g 0 rfl).ten
  have hsz2:=P2.out.bel.size
  go_upto_region 6 with (at_builtin;(refine wpList_append_bytes _ rfl _ _ 22 rfl w0.heap.size 5 i0 Tryz.underlying22 hi hz0 hz1 hz2 _ pk l rfl (P2.out.own.alloc _) (w2.heap.size + 1) (some ⟨w2.heap.size,0,none⟩) 1 [UInt8.ofNat 1] 1 rfl (BAt.one _ _ _ _ (by first | rfl | decide)) (by omega) (by simp;omega) ?_;intro v3 w3 ho3 hg3;have P3:=Lib.hid (P2.out.next ho3 hg3);clear ho3 hg3))
  obtain ⟨a3,c3,rfl⟩:=P3.out.form
  have H3:=Lib.hid (H0.out.below P3.out.bel)
  (clear x0 x1 x2 x3 x4 x5 x6 x7 x8 x9)
  obtain ⟨x0,x1,x2,x3,x4,x5,x6,x7,x8,x9⟩:=(H3.g 0 rfl).ten
  have hl3:=P3.out.len
  (clear P1 P2 H1 H2 cF)
  generalize l ++ [UInt8.ofNat 1] = l3 at *
  go_wp2_with (go_at_call 52;((with_reducible refine (cT a3 _ c3 _ _ H3.out.bel P3.out.bat (by omega)).mono ?_);intro e w4 h4;have N4:=Lib.hid (NewB.on h4 H3.out.bel);obtain ⟨a4,n4,c4,rfl,ho4,hb4⟩:=h4))
  go_ret
  exact N4.out
 ·rw [e]
  clear e hf h
  obtain ⟨k,s,q,a,n,c,b,m,d,i,j,g,st,y⟩:=x
  simp only at hk
  subst hk
  simp only at hid hg hg4
  obtain ⟨D,rfl⟩ : ∃ D : Nat,g = (D : Int):=⟨g.toNat,by omega⟩
  show Calls _ _ _ _ (NewB w (l ++ (putB 2 1 ++ (idBytes (i,j) ++ (putB D 1 ++ putB st 8)))))
  have HE : Hid (l ++ (putB 2 1 ++ (idBytes (i,j) ++ (putB D 1 ++ putB st 8))) = (((l ++ [UInt8.ofNat 2]) ++ idBytes (i,j)) ++ [UInt8.ofNat D]) ++ putB st 8):=by unfold Hid;rw [put_one 2,put_one D];simp only [List.append_assoc]
  have cI : ∀ a1 n1 c1 L W,BAt W W.heap.size a1 n1 L→n1≤1099511600000→Calls Tryz.prog 53 #[.slice a1 n1 c1,.agg #[.int .i64 i,.int .i64 j]] W (NewB W (L ++ idBytes (i,j))):=fun a1 n1 c1 L W h1 h2=>(rPutId_any a1 n1 c1 i j L W h1 h2).mono fun e w' h=>h.cast (by unfold putId;rw [if_pos hid])
  have hI5:=idBytes_len (i,j)
  rw [HE.out]
  generalize idBytes (i,j) = I at *
  clear hX
  go_enter Tryz.func51,Tryz.ntmps51
  go_upto_region 2 with (fail)
  generalize w.alloc (.cells (cmV ⟨2,s,q,a,n,c,b,m,d,i,j,((D : Nat) : Int),st,y⟩) 44) = w0 at *
  obtain ⟨x0,x1,x2,x3,x4,x5,x6,x7,x8,x9⟩:=(H0.g 0 rfl).ten
  go_upto_region 5 with (first | (at_builtin;(refine wpList_append_bytes _ rfl _ _ 22 rfl w0.heap.size 5 i0 Tryz.underlying22 hi hz0 hz1 hz2 _ 0 [] rfl (World.ownsRow_nil _ _ _ _) w0.heap.size pa pk l pc rfl hl1 (by omega) (Nat.le_refl _) ?_;intro v1 w1 ho1 hg1;rw [Nat.zero_add,List.nil_append] at ho1;have P1 : Hid (PutIn w0 w1 v1 pk l):=⟨ho1,(Below.refl _ _).grown hg1 (Nat.le_refl _) (by intro j hj;cases hj)⟩;clear ho1 hg1;have H1:=Lib.hid (H0.out.below P1.out.bel);(clear x0 x1 x2 x3 x4 x5 x6 x7 x8 x9);obtain ⟨x0,x1,x2,x3,x4,x5,x6,x7,x8,x9⟩:=(H1.g 0 rfl).ten)) | (go_at_call 76;((with_reducible refine (cF _ H1.out.bel).mono ?_);rintro e w2 ⟨rfl,hb2⟩;have P2:=Lib.hid (P1.out.below hb2))))
  have H2:=Lib.hid (H0.out.below P2.out.bel)
  (clear x0 x1 x2 x3 x4 x5 x6 x7 x8 x9)
  obtain ⟨x0,x1,x2,x3,x4,x5,x6,x7,x8,x9⟩:=(H2.g 0 rfl).ten
  have hsz2:=P2.out.bel.size
  go_upto_region 6 with (at_builtin;(refine wpList_append_bytes _ rfl _ _ 22 rfl w0.heap.size 5 i0 Tryz.underlying22 hi hz0 hz1 hz2 _ pk l rfl (P2.out.own.alloc _) (w2.heap.size + 1) (some ⟨w2.heap.size,0,none⟩) 1 [UInt8.ofNat 2] 1 rfl (BAt.one _ _ _ _ (by first | rfl | decide)) (by omega) (by simp;omega) ?_;intro v3 w3 ho3 hg3;have P3:=Lib.hid (P2.out.next ho3 hg3);clear ho3 hg3))
  obtain ⟨a3,c3,rfl⟩:=P3.out.form
  have H3:=Lib.hid (H0.out.below P3.out.bel)
  (clear x0 x1 x2 x3 x4 x5 x6 x7 x8 x9)
  obtain ⟨x0,x1,x2,x3,x4,x5,x6,x7,x8,x9⟩:=(H3.g 0 rfl).ten
  have hl3:=P3.out.len
  (clear P1 P2 H1 H2 cF)
  generalize l ++ [UInt8.ofNat 2] = l3 at *
  go_upto_region 11 with (go_at_call 53;((with_reducible refine (cI a3 _ c3 _ _ P3.out.bat (by omega)).mono ?_);rintro e w4 ⟨a4,n4,c4,rfl,ho4,hb4⟩;have P4:=Lib.hid (PutIn.call P3.out.bel ho4 hb4)))
  have hn4 : n4 = pk + 6:=by have:=P4.out.len;rw [List.length_append] at this;omega
  have H4:=Lib.hid (H0.out.below P4.out.bel)
  (clear x0 x1 x2 x3 x4 x5 x6 x7 x8 x9)
  obtain ⟨x0,x1,x2,x3,x4,x5,x6,x7,x8,x9⟩:=(H4.g 0 rfl).ten
  have hsz4:=P4.out.bel.size
  (clear P3 H3 cI ho4 hb4)
  generalize l3 ++ I = l4 at *
  have hn4' : n4≤1099490000006:=by omega
  clear hn4
  go_upto_region 12 with (at_builtin;(refine wpList_append_bytes _ rfl _ _ 22 rfl w0.heap.size 5 i0 Tryz.underlying22 hi hz0 hz1 hz2 _ n4 l4 rfl (P4.out.own.alloc _) (w4.heap.size + 1) (some ⟨w4.heap.size,0,none⟩) 1 [UInt8.ofNat D] 1 rfl (BAt.one _ _ _ _ (by first | exact byte_nat D (by omega) | exact byte_mod D)) (by omega) (by simp;omega) ?_;intro v5 w5 ho5 hg5;have P5:=Lib.hid (P4.out.next ho5 hg5);clear ho5 hg5))
  obtain ⟨a5,c5,rfl⟩:=P5.out.form
  have H5:=Lib.hid (H0.out.below P5.out.bel)
  (clear x0 x1 x2 x3 x4 x5 x6 x7 x8 x9)
  obtain ⟨x0,x1,x2,x3,x4,x5,x6,x7,x8,x9⟩:=(H5.g 0 rfl).ten
  have hsz5:=P5.out.bel.size
  (clear P4 H4)
  generalize l4 ++ [UInt8.ofNat D] = l5 at *
  have cP : ∀ a1 n1 c1 L W,BAt W W.heap.size a1 n1 L→n1≤1099511627776→Calls Tryz.prog 49 #[.slice a1 n1 c1,.int .u64 ((st : Nat) : Int),.int .i64 8] W (NewB W (L ++ putB st 8)):=fun a1 n1 c1 L W h1 h2=>refPut_any a1 n1 c1 st 8 L W h1 h2 hst (by omega) (by omega)
  go_wp2_with (go_at_call 49;((with_reducible refine (cP a5 _ c5 _ _ P5.out.bat (by omega)).mono ?_);intro e w6 h6;have N6:=Lib.hid (NewB.on h6 H5.out.bel);obtain ⟨a6,n6,c6,rfl,ho6,hb6⟩:=h6))
  go_ret
  exact N6.out
 ·rw [e]
  clear e hf h
  obtain ⟨k,s,q,a,n,c,b,m,d,i,j,g,st,y⟩:=x
  simp only at hk
  subst hk
  simp only at hid hg hg4
  obtain ⟨D,rfl⟩ : ∃ D : Nat,g = (D : Int):=⟨g.toNat,by omega⟩
  show Calls _ _ _ _ (NewB w (l ++ (putB 3 1 ++ (idBytes (i,j) ++ (putB D 1 ++ putB (yesN y) 1)))))
  have HE : Hid (l ++ (putB 3 1 ++ (idBytes (i,j) ++ (putB D 1 ++ putB (yesN y) 1))) = (((l ++ [UInt8.ofNat 3]) ++ idBytes (i,j)) ++ [UInt8.ofNat D]) ++ putB (yesN y) 1):=by unfold Hid;rw [put_one 3,put_one D];simp only [List.append_assoc]
  have cI : ∀ a1 n1 c1 L W,BAt W W.heap.size a1 n1 L→n1≤1099511600000→Calls Tryz.prog 53 #[.slice a1 n1 c1,.agg #[.int .i64 i,.int .i64 j]] W (NewB W (L ++ idBytes (i,j))):=fun a1 n1 c1 L W h1 h2=>(rPutId_any a1 n1 c1 i j L W h1 h2).mono fun e w' h=>h.cast (by unfold putId;rw [if_pos hid])
  have hI5:=idBytes_len (i,j)
  rw [HE.out]
  generalize idBytes (i,j) = I at *
  clear hX
  go_enter Tryz.func51,Tryz.ntmps51
  go_upto_region 2 with (fail)
  generalize w.alloc (.cells (cmV ⟨3,s,q,a,n,c,b,m,d,i,j,((D : Nat) : Int),st,y⟩) 44) = w0 at *
  obtain ⟨x0,x1,x2,x3,x4,x5,x6,x7,x8,x9⟩:=(H0.g 0 rfl).ten
  go_upto_region 5 with (first | (at_builtin;(refine wpList_append_bytes _ rfl _ _ 22 rfl w0.heap.size 5 i0 Tryz.underlying22 hi hz0 hz1 hz2 _ 0 [] rfl (World.ownsRow_nil _ _ _ _) w0.heap.size pa pk l pc rfl hl1 (by omega) (Nat.le_refl _) ?_;intro v1 w1 ho1 hg1;rw [Nat.zero_add,List.nil_append] at ho1;have P1 : Hid (PutIn w0 w1 v1 pk l):=⟨ho1,(Below.refl _ _).grown hg1 (Nat.le_refl _) (by intro j hj;cases hj)⟩;clear ho1 hg1;have H1:=Lib.hid (H0.out.below P1.out.bel);(clear x0 x1 x2 x3 x4 x5 x6 x7 x8 x9);obtain ⟨x0,x1,x2,x3,x4,x5,x6,x7,x8,x9⟩:=(H1.g 0 rfl).ten)) | (go_at_call 76;((with_reducible refine (cF _ H1.out.bel).mono ?_);rintro e w2 ⟨rfl,hb2⟩;have P2:=Lib.hid (P1.out.below hb2))))
  have H2:=Lib.hid (H0.out.below P2.out.bel)
  (clear x0 x1 x2 x3 x4 x5 x6 x7 x8 x9)
  obtain ⟨x0,x1,x2,x3,x4,x5,x6,x7,x8,x9⟩:=(H2.g 0 rfl).ten
  have hsz2:=P2.out.bel.size
  go_upto_region 6 with (at_builtin;(refine wpList_append_bytes _ rfl _ _ 22 rfl w0.heap.size 5 i0 Tryz.underlying22 hi hz0 hz1 hz2 _ pk l rfl (P2.out.own.alloc _) (w2.heap.size + 1) (some ⟨w2.heap.size,0,none⟩) 1 [UInt8.ofNat 3] 1 rfl (BAt.one _ _ _ _ (by first | rfl | decide)) (by omega) (by simp;omega) ?_;intro v3 w3 ho3 hg3;have P3:=Lib.hid (P2.out.next ho3 hg3);clear ho3 hg3))
  obtain ⟨a3,c3,rfl⟩:=P3.out.form
  have H3:=Lib.hid (H0.out.below P3.out.bel)
  (clear x0 x1 x2 x3 x4 x5 x6 x7 x8 x9)
  obtain ⟨x0,x1,x2,x3,x4,x5,x6,x7,x8,x9⟩:=(H3.g 0 rfl).ten
  have hl3:=P3.out.len
  (clear P1 P2 H1 H2 cF)
  generalize l ++ [UInt8.ofNat 3] = l3 at *
  go_upto_region 11 with (go_at_call 53;((with_reducible refine (cI a3 _ c3 _ _ P3.out.bat (by omega)).mono ?_);rintro e w4 ⟨a4,n4,c4,rfl,ho4,hb4⟩;have P4:=Lib.hid (PutIn.call P3.out.bel ho4 hb4)))
  have hn4 : n4 = pk + 6:=by have:=P4.out.len;rw [List.length_append] at this;omega
  have H4:=Lib.hid (H0.out.below P4.out.bel)
  (clear x0 x1 x2 x3 x4 x5 x6 x7 x8 x9)
  obtain ⟨x0,x1,x2,x3,x4,x5,x6,x7,x8,x9⟩:=(H4.g 0 rfl).ten
  have hsz4:=P4.out.bel.size
  (clear P3 H3 cI ho4 hb4)
  generalize l3 ++ I = l4 at *
  have hn4' : n4≤1099490000006:=by omega
  clear hn4
  go_upto_region 12 with (at_builtin;(refine wpList_append_bytes _ rfl _ _ 22 rfl w0.heap.size 5 i0 Tryz.underlying22 hi hz0 hz1 hz2 _ n4 l4 rfl (P4.out.own.alloc _) (w4.heap.size + 1) (some ⟨w4.heap.size,0,none⟩) 1 [UInt8.ofNat D] 1 rfl (BAt.one _ _ _ _ (by first | exact byte_nat D (by omega) | exact byte_mod D)) (by omega) (by simp;omega) ?_;intro v5 w5 ho5 hg5;have P5:=Lib.hid (P4.out.next ho5 hg5);clear ho5 hg5))
  obtain ⟨a5,c5,rfl⟩:=P5.out.form
  have H5:=Lib.hid (H0.out.below P5.out.bel)
  (clear x0 x1 x2 x3 x4 x5 x6 x7 x8 x9)
  obtain ⟨x0,x1,x2,x3,x4,x5,x6,x7,x8,x9⟩:=(H5.g 0 rfl).ten
  have hsz5:=P5.out.bel.size
  (clear P4 H4)
  generalize l4 ++ [UInt8.ofNat D] = l5 at *
  cases y
  ·show _
   go_wp2_with (at_builtin;(refine wpList_append_bytes _ rfl _ _ 22 rfl w0.heap.size 5 i0 Tryz.underlying22 hi hz0 hz1 hz2 _ (n4 + 1) l5 rfl (P5.out.own.alloc _) (w5.heap.size + 1) (some ⟨w5.heap.size,0,none⟩) 1 [UInt8.ofNat 0] 1 rfl (BAt.one _ _ _ _ (by first | rfl | decide)) (by omega) (by simp;omega) ?_;intro v6 w6 ho6 hg6;have P6:=Lib.hid (P5.out.next ho6 hg6);clear ho6 hg6))
   go_ret
   exact (P6.out.out.on H0.out.bel).cast (by rw [← put_one];rfl)
  ·show _
   go_wp2_with (at_builtin;(refine wpList_append_bytes _ rfl _ _ 22 rfl w0.heap.size 5 i0 Tryz.underlying22 hi hz0 hz1 hz2 _ (n4 + 1) l5 rfl (P5.out.own.alloc _) (w5.heap.size + 1) (some ⟨w5.heap.size,0,none⟩) 1 [UInt8.ofNat 1] 1 rfl (BAt.one _ _ _ _ (by first | rfl | decide)) (by omega) (by simp;omega) ?_;intro v6 w6 ho6 hg6;have P6:=Lib.hid (P5.out.next ho6 hg6);clear ho6 hg6))
   go_ret
   exact (P6.out.out.on H0.out.bel).cast (by rw [← put_one];rfl)
end Go.Proofs.YtigimmbdlhginaaGreatDoor
