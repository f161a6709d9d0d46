/- Contract of the document's Formed of commands. Conditions: the command's lists lie in memory, and are no longer than a million. Contracts of ballot.Formed, Less and Next, of the document's own, and of the statements' awake. No condition. Contract of the document's Formed (layer 13). Conditions: the record's lists lie in memory, and are no longer than a million. -/
import Derived.Test.YtcfmifongbapkaaGreatDoorRL
import Derived.Test.YtcfmifongbapkaaGreatDoorTxnRefFormed
import Derived.Deep.DeepCutAuto
import Derived.Test.YtcfmifongbapkaaGreatDoorRI
import Derived.Test.YtcfmifongbapkaaGreatDoorRD
import Derived.Test.YtcfmifongbapkaaGreatDoorRM
namespace Go.Proofs.YtcfmifongbapkaaGreatDoor
set_option maxRecDepth 100000
set_option maxHeartbeats 8000000
open Go.RowKit
open Go.Lib (hid)
set_option linter.unusedVariables false
theorem doc_zero (x : CmM) (rs : List RdM) (ws : List WrM) (h : x.k = 0) : formCm (cmT x rs ws) = sameC x zeroM rs [] ws []:=by
 cases e : sameC x zeroM rs [] ws []
 ·refine form_clean ?_
  unfold cleanB namedM namedL
  rw [if_neg (by omega),if_neg (by omega),if_neg (by omega),if_neg (by omega),if_neg (by omega)];exact e
 ·rw [(sameC_iff _ _ _ _ _ _).1 e];rfl
theorem doc_begin (x : CmM) (rs : List RdM) (ws : List WrM) (h : x.k = 1) : formCm (cmT x rs ws) = (formT formedB (txT (x.s,x.q) rs ws) && (eqB (x.i,x.j) (0,0) && ((x.g == 0) && ((((x.st : Nat) : Int) == 0) && !x.y)))):=by
 unfold formCm
 have e : (cmT x rs ws).k = 1:=h
 rw [if_neg (by omega),if_pos e,eqB_dec]
 show (formT formedB (txT (x.s,x.q) rs ws) && ((decide ((x.i,x.j) = (0,0)) && decide (x.g = 0)) && (decide (x.st = 0) && !x.y))) = _
 have e1 : decide (x.g = 0) = (x.g == 0):=rfl
 have e2 : decide (x.st = 0) = (((x.st : Nat) : Int) == 0):=by
  by_cases h : x.st = 0
  ·rw [decide_eq_true h,h];rfl
  ·rw [decide_eq_false h];symm;simpa using h
 rw [e1,e2]
 generalize (x.g == 0) = B1
 generalize (((x.st : Nat) : Int) == 0) = B2
 cases B1 <;> cases B2 <;> simp
theorem doc_stamp (x : CmM) (rs : List RdM) (ws : List WrM) (h : x.k = 2) : formCm (cmT x rs ws) = ((zeroTB (txT (x.s,x.q) rs ws) && srcB x) && (!x.y && (decide ((0 : Int) < ((x.st : Nat) : Int)) && decide (((x.st : Nat) : Int)≤9223372036854775807)))):=by
 unfold formCm
 have e : (cmT x rs ws).k = 2:=h
 rw [if_neg (by omega),if_neg (by omega),if_pos e]
 have e1 : decide ((0 : Int) < ((x.st : Nat) : Int)) = decide (0 < x.st):=by rw [decide_eq_decide];omega
 have e2 : decide (((x.st : Nat) : Int)≤9223372036854775807) = decide (x.st≤9223372036854775807):=by rw [decide_eq_decide];omega
 rw [e1,e2];rfl
theorem doc_vote (x : CmM) (rs : List RdM) (ws : List WrM) (h : x.k = 3) : formCm (cmT x rs ws) = ((zeroTB (txT (x.s,x.q) rs ws) && srcB x) && (((x.st : Nat) : Int) == 0)):=by
 unfold formCm
 have e : (cmT x rs ws).k = 3:=h
 rw [if_neg (by omega),if_neg (by omega),if_neg (by omega),if_pos e]
 have e2 : (((x.st : Nat) : Int) == 0) = decide (x.st = 0):=by
  by_cases h : x.st = 0
  ·rw [decide_eq_true h,h];rfl
  ·rw [decide_eq_false h];simpa using h
 rw [e2];rfl
theorem doc_none (x : CmM) (rs : List RdM) (ws : List WrM) (h0 : ¬ x.k = 0) (h1 : ¬ x.k = 1) (h2 : ¬ x.k = 2) (h3 : ¬ x.k = 3) : formCm (cmT x rs ws) = false:=by
 unfold formCm cmT
 simp only []
 rw [if_neg h0,if_neg h1,if_neg h2,if_neg h3]
theorem dFormed_any (x : CmM) (rs : List RdM) (ws : List WrM) (w : World) (h : CmAt w x rs ws) (hn : x.n≤1000000) (hm : x.m≤1000000) :
  Calls Tryz.prog 53 #[.agg (cmV x)] w (Says w (formCm (cmT x rs ws))):=by
 have H0:=hid ((Boxs.start w).more (cmV x) 45)
 have cZ : ∀ W,Below w.heap.size w W→Calls Tryz.prog 92 #[.agg (txV x.s x.q x.a x.n x.c x.b x.m x.d),.agg (txV 0 0 none 0 0 none 0 0)] W (Says W (zeroTB (txT (x.s,x.q) rs ws))):=fun W hW=>by
  have h1:=rSame_any x.s x.q x.a x.n x.c x.b x.m x.d rs ws 0 0 none 0 0 none 0 0 [] [] W (h.tx.later hW) TxAt.nil hn hm
  rw [sameM_zero] at h1;exact h1
 have cI:=fun W=>rId_any x.i x.j W
 have cF:=fun W (hW : Below w.heap.size w W)=>rFormedT_any x.s x.q x.a x.n x.c x.b x.m x.d rs ws W (h.tx.later hW)
 have cS : ∀ W,Below w.heap.size w W→Calls Tryz.prog 51 #[.agg (cmV x),.agg zeroV] W (Says W (sameC x zeroM rs [] ws [])):=fun W hW=>dSame_any x zeroM rs [] ws [] W (h.later hW) CmAt.zero hn hm
 have Q0:=hid (doc_zero x rs ws)
 have Q1:=hid (doc_begin x rs ws)
 have Q2:=hid (doc_stamp x rs ws)
 have Q3:=hid (doc_vote x rs ws)
 have Q4:=hid (doc_none x rs ws)
 generalize formT formedB (txT (x.s,x.q) rs ws) = FB at *
 generalize zeroTB (txT (x.s,x.q) rs ws) = Z at *
 generalize sameC x zeroM rs [] ws [] = SB at *
 generalize formCm (cmT x rs ws) = B at *
 obtain ⟨x0,x1,x2,x3,x4,x5,x6,x7,x8,x9⟩:=(H0.out.get 0 _ _ _ rfl).ten
 clear h
 go_enter Tryz.func53,Tryz.ntmps53
 go_upto_region 2 with (go_at_call 92;((with_reducible refine (cZ _ H0.out.bel).mono ?_);rintro e w1 ⟨rfl,hb1⟩;have H1:=hid (H0.out.below hb1);(clear x0 x1 x2 x3 x4 x5 x6 x7 x8 x9);obtain ⟨x0,x1,x2,x3,x4,x5,x6,x7,x8,x9⟩:=(H1.out.get 0 _ _ _ rfl).ten))
 go_cut [4] (fun c wr=>c = .bool (Z && srcB x)∧Boxs w wr [(w.heap.size,cmV x,45)])
 case first =>
  clear Q0 Q1 Q2 Q3 Q4 cF cS cZ
  cases Z
  ·go_wp2
   go_meet
   case rel=>exact ⟨rfl,H1.out⟩
  ·cases hI : idB (x.i,x.j)
   ·rw [hI] at cI
    go_wp2_with (go_at_call 93;((with_reducible refine (cI _).mono ?_);rintro e w2 ⟨rfl,hb2⟩;have H2:=hid (H1.out.below hb2)))
    go_meet
    case rel=>exact ⟨by unfold srcB;rw [hI];rfl,H2.out⟩
   ·rw [hI] at cI
    by_cases h1 : 0≤x.g
    ·go_wp2_with (go_at_call 93;((with_reducible refine (cI _).mono ?_);rintro e w2 ⟨rfl,hb2⟩;have H2:=hid (H1.out.below hb2);(clear x0 x1 x2 x3 x4 x5 x6 x7 x8 x9);obtain ⟨x0,x1,x2,x3,x4,x5,x6,x7,x8,x9⟩:=(H2.out.get 0 _ _ _ rfl).ten))
     go_meet
     case rel=>exact ⟨by unfold srcB;rw [hI,decide_eq_true (p:=0≤x.g) (by omega)];rfl,H2.out⟩
    ·go_wp2_with (go_at_call 93;((with_reducible refine (cI _).mono ?_);rintro e w2 ⟨rfl,hb2⟩;have H2:=hid (H1.out.below hb2);(clear x0 x1 x2 x3 x4 x5 x6 x7 x8 x9);obtain ⟨x0,x1,x2,x3,x4,x5,x6,x7,x8,x9⟩:=(H2.out.get 0 _ _ _ rfl).ten))
     go_meet
     case rel=>exact ⟨by unfold srcB;rw [hI,decide_eq_false (p:=0≤x.g) (by omega)];rfl,H2.out⟩
 case rest =>
 obtain ⟨rfl,hX⟩:=hcut
 have X:=hid hX
 (clear x0 x1 x2 x3 x4 x5 x6 x7 x8 x9)
 obtain ⟨x0,x1,x2,x3,x4,x5,x6,x7,x8,x9⟩:=(X.out.get 0 _ _ _ rfl).ten
 clear hX cZ cI H0 H1 hb1
 generalize (Z && srcB x) = A at *
 by_cases h0 : x.k = 0
 ·have Q:=hid (Q0.out h0)
  clear Q0 Q1 Q2 Q3 Q4 cF
  have q0 : (x.k == 0) = true:=by simp;omega
  clear h0
  go_wp2_with (go_at_call 51;((with_reducible refine (cS _ X.out.bel).mono ?_);rintro e w3 ⟨rfl,hb3⟩;have X3:=hid (X.out.below hb3)))
  go_ret
  exact ⟨by rw [Q.out];rfl,X3.out.bel⟩
 by_cases h1 : x.k = 1
 ·have Q:=hid (Q1.out h1)
  clear Q0 Q1 Q2 Q3 Q4 cS
  have q0 : (x.k == 0) = false:=by simp;omega
  have q1 : (x.k == 1) = true:=by simp;omega
  clear h1
  cases FB
  ·go_wp2_with (go_at_call 94;((with_reducible refine (cF _ X.out.bel).mono ?_);rintro e w3 ⟨rfl,hb3⟩;have X3:=hid (X.out.below hb3)))
   go_ret
   exact ⟨by rw [Q.out];rfl,X3.out.bel⟩
  rcases id_cases x.i x.j 0 0 with ⟨e,r2,r3⟩ | ⟨e,r2⟩ | ⟨e,r2,r3⟩
  ·rw [e] at Q
   cases q4 : (x.g == 0)
   ·rw [q4] at Q
    go_wp2_with (go_at_call 94;((with_reducible refine (cF _ X.out.bel).mono ?_);rintro e w3 ⟨rfl,hb3⟩;have X3:=hid (X.out.below hb3);(clear x0 x1 x2 x3 x4 x5 x6 x7 x8 x9);obtain ⟨x0,x1,x2,x3,x4,x5,x6,x7,x8,x9⟩:=(X3.out.get 0 _ _ _ rfl).ten))
    go_ret
    exact ⟨by rw [Q.out];rfl,X3.out.bel⟩
   cases q5 : (((x.st : Nat) : Int) == 0)
   ·rw [q4,q5] at Q
    go_wp2_with (go_at_call 94;((with_reducible refine (cF _ X.out.bel).mono ?_);rintro e w3 ⟨rfl,hb3⟩;have X3:=hid (X.out.below hb3);(clear x0 x1 x2 x3 x4 x5 x6 x7 x8 x9);obtain ⟨x0,x1,x2,x3,x4,x5,x6,x7,x8,x9⟩:=(X3.out.get 0 _ _ _ rfl).ten))
    go_ret
    exact ⟨by rw [Q.out];rfl,X3.out.bel⟩
   rw [q4,q5] at Q
   go_wp2_with (go_at_call 94;((with_reducible refine (cF _ X.out.bel).mono ?_);rintro e w3 ⟨rfl,hb3⟩;have X3:=hid (X.out.below hb3);(clear x0 x1 x2 x3 x4 x5 x6 x7 x8 x9);obtain ⟨x0,x1,x2,x3,x4,x5,x6,x7,x8,x9⟩:=(X3.out.get 0 _ _ _ rfl).ten))
   go_ret
   exact ⟨by rw [Q.out];rfl,X3.out.bel⟩
  ·rw [e] at Q
   go_wp2_with (go_at_call 94;((with_reducible refine (cF _ X.out.bel).mono ?_);rintro e w3 ⟨rfl,hb3⟩;have X3:=hid (X.out.below hb3);(clear x0 x1 x2 x3 x4 x5 x6 x7 x8 x9);obtain ⟨x0,x1,x2,x3,x4,x5,x6,x7,x8,x9⟩:=(X3.out.get 0 _ _ _ rfl).ten))
   go_ret
   exact ⟨by rw [Q.out];rfl,X3.out.bel⟩
  ·rw [e] at Q
   go_wp2_with (go_at_call 94;((with_reducible refine (cF _ X.out.bel).mono ?_);rintro e w3 ⟨rfl,hb3⟩;have X3:=hid (X.out.below hb3);(clear x0 x1 x2 x3 x4 x5 x6 x7 x8 x9);obtain ⟨x0,x1,x2,x3,x4,x5,x6,x7,x8,x9⟩:=(X3.out.get 0 _ _ _ rfl).ten))
   go_ret
   exact ⟨by rw [Q.out];rfl,X3.out.bel⟩
 by_cases h2 : x.k = 2
 ·have Q:=hid (Q2.out h2)
  clear Q0 Q1 Q2 Q3 Q4 cS cF
  have q0 : (x.k == 0) = false:=by simp;omega
  have q1 : (x.k == 1) = false:=by simp;omega
  have q2 : (x.k == 2) = true:=by simp;omega
  clear h2
  cases A
  ·go_wp2
   go_ret
   exact ⟨by rw [Q.out];rfl,X.out.bel⟩
  cases q4 : x.y
  ·rw [q4] at Q
   by_cases h4 : (0 : Int) < ((x.st : Nat) : Int)
   ·rw [decide_eq_true h4] at Q
    go_wp2
    go_ret
    exact ⟨by rw [Q.out];rfl,X.out.bel⟩
   ·rw [decide_eq_false h4] at Q
    go_wp2
    go_ret
    exact ⟨by rw [Q.out];rfl,X.out.bel⟩
  ·rw [q4] at Q
   go_wp2
   go_ret
   exact ⟨by rw [Q.out];rfl,X.out.bel⟩
 by_cases h3 : x.k = 3
 ·have Q:=hid (Q3.out h3)
  clear Q0 Q1 Q2 Q3 Q4 cS cF
  have q0 : (x.k == 0) = false:=by simp;omega
  have q1 : (x.k == 1) = false:=by simp;omega
  have q2 : (x.k == 2) = false:=by simp;omega
  have q3 : (x.k == 3) = true:=by simp;omega
  clear h3
  cases A
  ·go_wp2
   go_ret
   exact ⟨by rw [Q.out];rfl,X.out.bel⟩
  ·go_wp2
   go_ret
   exact ⟨by rw [Q.out];rfl,X.out.bel⟩
 have Q:=hid (Q4.out h0 h1 h2 h3)
 clear Q0 Q1 Q2 Q3 Q4 cS cF
 have q0 : (x.k == 0) = false:=by simp;omega
 have q1 : (x.k == 1) = false:=by simp;omega
 have q2 : (x.k == 2) = false:=by simp;omega
 have q3 : (x.k == 3) = false:=by simp;omega
 go_wp2
 go_ret
 exact ⟨by rw [Q.out];rfl,X.out.bel⟩
theorem bFormed_any (r n : Int) (w : World) : Calls Tryz.prog 49 #[.agg #[.int .u32 r,.int .i64 n]] w (Says w (formB n)):=by
 have hB:=one_box w #[.int .u32 r,.int .i64 n] 24
 unfold formB
 by_cases h : 0≤n
 ·have q : decide (n < 0) = false:=by simp;omega
  rw [decide_eq_true h,Bool.true_and]
  go_enter Tryz.func49,Tryz.ntmps49
  go_wp2
  go_ret
  exact ⟨rfl,hB⟩
 ·have q : decide (n < 0) = true:=by simp;omega
  rw [decide_eq_false h,Bool.false_and]
  go_enter Tryz.func49,Tryz.ntmps49
  go_wp2
  go_ret
  exact ⟨rfl,hB⟩
theorem rFormed_any (r n : Int) (w : World) : Calls Tryz.prog 52 #[.agg #[.int .u32 r,.int .i64 n]] w (Says w (formB n)):=by
 have hB:=one_box w #[.int .u32 r,.int .i64 n] 44
 unfold formB
 by_cases h : 0≤n
 ·have e : decide (n < 5) = decide (n≤4):=by simp;omega
  rw [e,decide_eq_true h,Bool.true_and]
  go_enter Tryz.func52,Tryz.ntmps52
  go_wp2
  go_ret
  exact ⟨rfl,hB⟩
 ·rw [decide_eq_false h,Bool.false_and]
  go_enter Tryz.func52,Tryz.ntmps52
  go_wp2
  go_ret
  exact ⟨rfl,hB⟩
set_option linter.unusedSimpArgs false
noncomputable def kindD (x : RcM) (L : RcL) : Bool :=
 if x.k = 1 then formB x.bn && (decide (x.sl = 0) && (sameC x.cm zeroM L.rs [] L.ws [] && decide (x.dn = 0)))
 else if x.k = 2 then formB x.bn && (formCm (cmT x.cm L.rs L.ws) && decide (x.dn = 0))
 else if x.k = 3 then eqB (((x.br : Nat) : Int),x.bn) ((0 : Int),(0 : Int)) && (formCm (cmT x.cm L.rs L.ws) && decide (x.dn = 0))
 else if x.k = 4 then eqB (((x.br : Nat) : Int),x.bn) ((0 : Int),(0 : Int)) && sameC x.cm zeroM L.rs [] L.ws [] else false
noncomputable def formD13 (x : RcM) (L : RcL) : Bool:=decide (0≤x.sl) && (decide (x.sl≤1000000) && (decide (x.dn≤59900) && kindD x L))
theorem same_zero (x : RcM) (L : RcL) : sameC x.cm zeroM L.rs [] L.ws [] = true↔cmT x.cm L.rs L.ws = zeroC:=by
 rw [sameC_eqB,eqB_iff];rfl
theorem formD13_eq {w : World} {x : RcM} {L : RcL} (h : RcAt w x L) : formR (rcT x L) = formD13 x L:=by
 have hl:=h.da.len
 have e0 : L.dl = []↔x.dn = 0:=by rw [← hl];exact List.length_eq_zero_iff.symm
 rw [Bool.eq_iff_iff,formR_iff]
 unfold formD13 kindD FormR slotP rcT
 simp only [Bool.and_eq_true,decide_eq_true_eq]
 by_cases h1 : x.k = 1
 ·rw [if_pos h1]
  simp only [Bool.and_eq_true,decide_eq_true_eq,same_zero,e0]
  constructor
  ·rintro (⟨_,a,b,c,d⟩ | ⟨e,_⟩ | ⟨e,_⟩ | ⟨e,_⟩)
   ·exact ⟨by omega,by omega,by omega,a,b,c,d⟩
   all_goals omega
  ·rintro ⟨_,_,_,a,b,c,d⟩
   exact .inl ⟨h1,a,b,c,d⟩
 ·rw [if_neg h1]
  by_cases h2 : x.k = 2
  ·rw [if_pos h2]
   simp only [Bool.and_eq_true,decide_eq_true_eq,e0]
   constructor
   ·rintro (⟨e,_⟩ | ⟨_,a,b,c,d⟩ | ⟨e,_⟩ | ⟨e,_⟩)
    ·omega
    ·exact ⟨b.1,b.2,by omega,a,c,d⟩
    all_goals omega
   ·rintro ⟨a,b,_,c,d,e⟩
    exact .inr (.inl ⟨h2,c,⟨a,b⟩,d,e⟩)
  ·rw [if_neg h2]
   by_cases h3 : x.k = 3
   ·rw [if_pos h3]
    simp only [Bool.and_eq_true,decide_eq_true_eq,eqB_iff,e0]
    constructor
    ·rintro (⟨e,_⟩ | ⟨e,_⟩ | ⟨_,a,b,c,d⟩ | ⟨e,_⟩)
     ·omega
     ·omega
     ·exact ⟨b.1,b.2,by omega,a,c,d⟩
     ·omega
    ·rintro ⟨a,b,_,c,d,e⟩
     exact .inr (.inr (.inl ⟨h3,c,⟨a,b⟩,d,e⟩))
   ·rw [if_neg h3]
    by_cases h4 : x.k = 4
    ·rw [if_pos h4]
     simp only [Bool.and_eq_true,eqB_iff,same_zero]
     constructor
     ·rintro (⟨e,_⟩ | ⟨e,_⟩ | ⟨e,_⟩ | ⟨_,a,b,c,d⟩)
      ·omega
      ·omega
      ·omega
      ·exact ⟨b.1,b.2,by rw [← hl];exact d,a,c⟩
     ·rintro ⟨a,b,c,d,e⟩
      exact .inr (.inr (.inr ⟨h4,d,⟨a,b⟩,e,by rw [hl];exact c⟩))
    ·rw [if_neg h4]
     constructor
     ·rintro (⟨e,_⟩ | ⟨e,_⟩ | ⟨e,_⟩ | ⟨e,_⟩) <;> omega
     ·rintro ⟨_,_,_,e⟩;cases e
theorem rFormed13_any (x : RcM) (L : RcL) (w : World) (h : RcAt w x L) (hf : RcF x) :
  Calls Tryz.prog 16 #[.agg (rcV x)] w (Says w (formR (rcT x L))):=by
 rw [formD13_eq h]
 have H0:=hid ((Boxs.start w).more (rcV x) 47)
 have cZ : ∀ W,Below w.heap.size w W→Calls Tryz.prog 51 #[.agg (cmV x.cm),.agg zeroV] W (Says W (sameC x.cm zeroM L.rs [] L.ws [])):=fun W hW=>dSame_any x.cm zeroM L.rs [] L.ws [] W (h.cm.later hW) CmAt.zero hf.n hf.m
 have cB : ∀ W,Below w.heap.size w W→Calls Tryz.prog 52 #[.agg #[.int .u32 ((x.br : Nat) : Int),.int .i64 x.bn]] W (Says W (formB x.bn)):=fun W _=>rFormed_any ((x.br : Nat) : Int) x.bn W
 have cF : ∀ W,Below w.heap.size w W→Calls Tryz.prog 53 #[.agg (cmV x.cm)] W (Says W (formCm (cmT x.cm L.rs L.ws))):=fun W hW=>dFormed_any x.cm L.rs L.ws W (h.cm.later hW) hf.n hf.m
 have hdl : x.dn≤1000000:=hf.dn
 clear h hf
 obtain ⟨D,hD⟩ : ∃ D,D = formD13 x L:=⟨_,rfl⟩
 rw [← hD]
 unfold formD13 kindD at hD
 obtain ⟨SB,hSB⟩ : ∃ S,S = eqB (((x.br : Nat) : Int),x.bn) ((0 : Int),(0 : Int)):=⟨_,rfl⟩
 rw [← hSB] at hD
 generalize sameC x.cm zeroM L.rs [] L.ws [] = NB at *
 generalize formCm (cmT x.cm L.rs L.ws) = CB at *
 generalize formB x.bn = FB at *
 have HD:=hid hD
 have HS:=hid hSB
 clear hD hSB
 have x0:=(H0.out.get 0 _ _ _ rfl).cell 0 _ rfl;have x1:=(H0.out.get 0 _ _ _ rfl).cell 1 _ rfl;have x2:=(H0.out.get 0 _ _ _ rfl).cell 2 _ rfl;have x3:=(H0.out.get 0 _ _ _ rfl).cell 3 _ rfl;have x4:=(H0.out.get 0 _ _ _ rfl).cell 4 _ rfl;have x5:=(H0.out.get 0 _ _ _ rfl).cell 5 _ rfl;have x6:=(H0.out.get 0 _ _ _ rfl).cell 6 _ rfl;have x7:=(H0.out.get 0 _ _ _ rfl).cell 7 _ rfl;have x8:=(H0.out.get 0 _ _ _ rfl).cell 8 _ rfl;have x9:=(H0.out.get 0 _ _ _ rfl).cell 9 _ rfl;have x10:=(H0.out.get 0 _ _ _ rfl).cell 10 _ rfl;have x11:=(H0.out.get 0 _ _ _ rfl).cell 11 _ rfl;have x12:=(H0.out.get 0 _ _ _ rfl).cell 12 _ rfl;have x13:=(H0.out.get 0 _ _ _ rfl).cell 13 _ rfl;have x14:=(H0.out.get 0 _ _ _ rfl).cell 14 _ rfl
 go_enter Tryz.func16,Tryz.ntmps16
 go_upto_region 2 with (go_at_call 51;((with_reducible refine (cZ _ H0.out.bel).mono ?_);rintro e w1 ⟨rfl,hbw1⟩;have H1:=hid (H0.out.below hbw1);(clear x0 x1 x2 x3 x4 x5 x6 x7 x8 x9 x10 x11 x12 x13 x14);have x0:=(H1.out.get 0 _ _ _ rfl).cell 0 _ rfl;have x1:=(H1.out.get 0 _ _ _ rfl).cell 1 _ rfl;have x2:=(H1.out.get 0 _ _ _ rfl).cell 2 _ rfl;have x3:=(H1.out.get 0 _ _ _ rfl).cell 3 _ rfl;have x4:=(H1.out.get 0 _ _ _ rfl).cell 4 _ rfl;have x5:=(H1.out.get 0 _ _ _ rfl).cell 5 _ rfl;have x6:=(H1.out.get 0 _ _ _ rfl).cell 6 _ rfl;have x7:=(H1.out.get 0 _ _ _ rfl).cell 7 _ rfl;have x8:=(H1.out.get 0 _ _ _ rfl).cell 8 _ rfl;have x9:=(H1.out.get 0 _ _ _ rfl).cell 9 _ rfl;have x10:=(H1.out.get 0 _ _ _ rfl).cell 10 _ rfl;have x11:=(H1.out.get 0 _ _ _ rfl).cell 11 _ rfl;have x12:=(H1.out.get 0 _ _ _ rfl).cell 12 _ rfl;have x13:=(H1.out.get 0 _ _ _ rfl).cell 13 _ rfl;have x14:=(H1.out.get 0 _ _ _ rfl).cell 14 _ rfl))
 go_cut [4] (fun c wr=>c = .bool SB∧Boxs w wr [(w.heap.size,rcV x,47)])
 case first =>
  clear HD cB cF
  rcases id_cases ((x.br : Nat) : Int) x.bn (0 : Int) (0 : Int) with ⟨e,q1,q2⟩ | ⟨e,q1⟩ | ⟨e,q1,q2⟩
  ·have HE:=hid e
   clear e
   go_wp2
   go_meet
   case rel=>exact ⟨by rw [HS.out,HE.out],H1.out⟩
  ·have HE:=hid e
   clear e
   go_wp2
   go_meet
   case rel=>exact ⟨by rw [HS.out,HE.out],H1.out⟩
  ·have HE:=hid e
   clear e
   go_wp2
   go_meet
   case rel=>exact ⟨by rw [HS.out,HE.out],H1.out⟩
 case rest =>
 obtain ⟨rfl,hX⟩:=hcut
 have X:=hid hX
 (clear x0 x1 x2 x3 x4 x5 x6 x7 x8 x9 x10 x11 x12 x13 x14)
 have x0:=(X.out.get 0 _ _ _ rfl).cell 0 _ rfl;have x1:=(X.out.get 0 _ _ _ rfl).cell 1 _ rfl;have x2:=(X.out.get 0 _ _ _ rfl).cell 2 _ rfl;have x3:=(X.out.get 0 _ _ _ rfl).cell 3 _ rfl;have x4:=(X.out.get 0 _ _ _ rfl).cell 4 _ rfl;have x5:=(X.out.get 0 _ _ _ rfl).cell 5 _ rfl;have x6:=(X.out.get 0 _ _ _ rfl).cell 6 _ rfl;have x7:=(X.out.get 0 _ _ _ rfl).cell 7 _ rfl;have x8:=(X.out.get 0 _ _ _ rfl).cell 8 _ rfl;have x9:=(X.out.get 0 _ _ _ rfl).cell 9 _ rfl;have x10:=(X.out.get 0 _ _ _ rfl).cell 10 _ rfl;have x11:=(X.out.get 0 _ _ _ rfl).cell 11 _ rfl;have x12:=(X.out.get 0 _ _ _ rfl).cell 12 _ rfl;have x13:=(X.out.get 0 _ _ _ rfl).cell 13 _ rfl;have x14:=(X.out.get 0 _ _ _ rfl).cell 14 _ rfl
 clear hX cZ H0 H1 hbw1 HS
 by_cases s0 : 0≤x.sl
 rotate_left
 ·have i0 : x.sl < 0:=by omega
  have g0:=hid s0
  clear cB cF s0
  go_wp2
  go_ret
  exact ⟨by rw [HD.out,decide_eq_false (p:=0≤x.sl) (by have:=g0.out;omega)];rfl,X.out.bel⟩
 have i0 : ¬ x.sl < 0:=by omega
 have g0:=hid s0
 by_cases s1 : x.sl≤1000000
 rotate_left
 ·have i1 : 1000000 < x.sl:=by omega
  have g1:=hid s1
  clear cB cF s0 s1
  go_wp2
  go_ret
  exact ⟨by rw [HD.out,decide_eq_true g0.out,decide_eq_false (p:=x.sl≤1000000) (by have:=g1.out;omega)];rfl,X.out.bel⟩
 have i1 : ¬ 1000000 < x.sl:=by omega
 have g1:=hid s1
 by_cases s2 : x.dn≤59900
 rotate_left
 ·have i2 : (59900 : Int) < ((x.dn : Nat) : Int):=by omega
  have g2:=hid s2
  clear cB cF s0 s1 s2
  go_wp2
  go_ret
  exact ⟨by rw [HD.out,decide_eq_true g0.out,decide_eq_true g1.out,decide_eq_false (p:=x.dn≤59900) (by have:=g2.out;omega)];rfl,X.out.bel⟩
 have i2 : ¬ (59900 : Int) < ((x.dn : Nat) : Int):=by omega
 have g2:=hid s2
 clear s0 s1 s2
 by_cases h1 : x.k = 1
 ·have k1' : (x.k == 1) = true:=by simpa using h1
  have gk1:=hid h1
  clear h1
  clear cF
  cases FB
  ·
   go_wp2_with ((go_at_call 52;((with_reducible refine (cB _ X.out.bel).mono ?_);rintro e w2 ⟨rfl,hbw2⟩;have H2:=hid (X.out.below hbw2);(clear x0 x1 x2 x3 x4 x5 x6 x7 x8 x9 x10 x11 x12 x13 x14);have x0:=(H2.out.get 0 _ _ _ rfl).cell 0 _ rfl;have x1:=(H2.out.get 0 _ _ _ rfl).cell 1 _ rfl;have x2:=(H2.out.get 0 _ _ _ rfl).cell 2 _ rfl;have x3:=(H2.out.get 0 _ _ _ rfl).cell 3 _ rfl;have x4:=(H2.out.get 0 _ _ _ rfl).cell 4 _ rfl;have x5:=(H2.out.get 0 _ _ _ rfl).cell 5 _ rfl;have x6:=(H2.out.get 0 _ _ _ rfl).cell 6 _ rfl;have x7:=(H2.out.get 0 _ _ _ rfl).cell 7 _ rfl;have x8:=(H2.out.get 0 _ _ _ rfl).cell 8 _ rfl;have x9:=(H2.out.get 0 _ _ _ rfl).cell 9 _ rfl;have x10:=(H2.out.get 0 _ _ _ rfl).cell 10 _ rfl;have x11:=(H2.out.get 0 _ _ _ rfl).cell 11 _ rfl;have x12:=(H2.out.get 0 _ _ _ rfl).cell 12 _ rfl;have x13:=(H2.out.get 0 _ _ _ rfl).cell 13 _ rfl;have x14:=(H2.out.get 0 _ _ _ rfl).cell 14 _ rfl)))
   go_ret
   exact ⟨by rw [HD.out];simp [g0.out,g1.out,g2.out,gk1.out],H2.out.bel⟩
  by_cases z0 : x.sl = 0
  rotate_left
  ·have z1 : (x.sl == 0) = false:=by simpa using z0
   have gz:=hid z0
   clear z0
   go_wp2_with ((go_at_call 52;((with_reducible refine (cB _ X.out.bel).mono ?_);rintro e w2 ⟨rfl,hbw2⟩;have H2:=hid (X.out.below hbw2);(clear x0 x1 x2 x3 x4 x5 x6 x7 x8 x9 x10 x11 x12 x13 x14);have x0:=(H2.out.get 0 _ _ _ rfl).cell 0 _ rfl;have x1:=(H2.out.get 0 _ _ _ rfl).cell 1 _ rfl;have x2:=(H2.out.get 0 _ _ _ rfl).cell 2 _ rfl;have x3:=(H2.out.get 0 _ _ _ rfl).cell 3 _ rfl;have x4:=(H2.out.get 0 _ _ _ rfl).cell 4 _ rfl;have x5:=(H2.out.get 0 _ _ _ rfl).cell 5 _ rfl;have x6:=(H2.out.get 0 _ _ _ rfl).cell 6 _ rfl;have x7:=(H2.out.get 0 _ _ _ rfl).cell 7 _ rfl;have x8:=(H2.out.get 0 _ _ _ rfl).cell 8 _ rfl;have x9:=(H2.out.get 0 _ _ _ rfl).cell 9 _ rfl;have x10:=(H2.out.get 0 _ _ _ rfl).cell 10 _ rfl;have x11:=(H2.out.get 0 _ _ _ rfl).cell 11 _ rfl;have x12:=(H2.out.get 0 _ _ _ rfl).cell 12 _ rfl;have x13:=(H2.out.get 0 _ _ _ rfl).cell 13 _ rfl;have x14:=(H2.out.get 0 _ _ _ rfl).cell 14 _ rfl)))
   go_ret
   exact ⟨by rw [HD.out];simp [g0.out,g1.out,g2.out,gk1.out,gz.out],H2.out.bel⟩
  have z1 : (x.sl == 0) = true:=by simpa using z0
  have gz:=hid z0
  clear z0
  cases NB
  ·
   go_wp2_with ((go_at_call 52;((with_reducible refine (cB _ X.out.bel).mono ?_);rintro e w2 ⟨rfl,hbw2⟩;have H2:=hid (X.out.below hbw2);(clear x0 x1 x2 x3 x4 x5 x6 x7 x8 x9 x10 x11 x12 x13 x14);have x0:=(H2.out.get 0 _ _ _ rfl).cell 0 _ rfl;have x1:=(H2.out.get 0 _ _ _ rfl).cell 1 _ rfl;have x2:=(H2.out.get 0 _ _ _ rfl).cell 2 _ rfl;have x3:=(H2.out.get 0 _ _ _ rfl).cell 3 _ rfl;have x4:=(H2.out.get 0 _ _ _ rfl).cell 4 _ rfl;have x5:=(H2.out.get 0 _ _ _ rfl).cell 5 _ rfl;have x6:=(H2.out.get 0 _ _ _ rfl).cell 6 _ rfl;have x7:=(H2.out.get 0 _ _ _ rfl).cell 7 _ rfl;have x8:=(H2.out.get 0 _ _ _ rfl).cell 8 _ rfl;have x9:=(H2.out.get 0 _ _ _ rfl).cell 9 _ rfl;have x10:=(H2.out.get 0 _ _ _ rfl).cell 10 _ rfl;have x11:=(H2.out.get 0 _ _ _ rfl).cell 11 _ rfl;have x12:=(H2.out.get 0 _ _ _ rfl).cell 12 _ rfl;have x13:=(H2.out.get 0 _ _ _ rfl).cell 13 _ rfl;have x14:=(H2.out.get 0 _ _ _ rfl).cell 14 _ rfl)))
   go_ret
   exact ⟨by rw [HD.out];simp [g0.out,g1.out,g2.out,gk1.out,gz.out],H2.out.bel⟩
  by_cases d0 : x.dn = 0
  ·have d1 : (((x.dn : Nat) : Int) == 0) = true:=by simp [d0]
   have gd:=hid d0
   clear d0
   go_wp2_with ((go_at_call 52;((with_reducible refine (cB _ X.out.bel).mono ?_);rintro e w2 ⟨rfl,hbw2⟩;have H2:=hid (X.out.below hbw2);(clear x0 x1 x2 x3 x4 x5 x6 x7 x8 x9 x10 x11 x12 x13 x14);have x0:=(H2.out.get 0 _ _ _ rfl).cell 0 _ rfl;have x1:=(H2.out.get 0 _ _ _ rfl).cell 1 _ rfl;have x2:=(H2.out.get 0 _ _ _ rfl).cell 2 _ rfl;have x3:=(H2.out.get 0 _ _ _ rfl).cell 3 _ rfl;have x4:=(H2.out.get 0 _ _ _ rfl).cell 4 _ rfl;have x5:=(H2.out.get 0 _ _ _ rfl).cell 5 _ rfl;have x6:=(H2.out.get 0 _ _ _ rfl).cell 6 _ rfl;have x7:=(H2.out.get 0 _ _ _ rfl).cell 7 _ rfl;have x8:=(H2.out.get 0 _ _ _ rfl).cell 8 _ rfl;have x9:=(H2.out.get 0 _ _ _ rfl).cell 9 _ rfl;have x10:=(H2.out.get 0 _ _ _ rfl).cell 10 _ rfl;have x11:=(H2.out.get 0 _ _ _ rfl).cell 11 _ rfl;have x12:=(H2.out.get 0 _ _ _ rfl).cell 12 _ rfl;have x13:=(H2.out.get 0 _ _ _ rfl).cell 13 _ rfl;have x14:=(H2.out.get 0 _ _ _ rfl).cell 14 _ rfl)))
   go_ret
   exact ⟨by rw [HD.out];simp [g0.out,g1.out,g2.out,gk1.out,gz.out,gd.out],H2.out.bel⟩
  ·have d1 : (((x.dn : Nat) : Int) == 0) = false:=by simp [d0]
   have gd:=hid d0
   clear d0
   go_wp2_with ((go_at_call 52;((with_reducible refine (cB _ X.out.bel).mono ?_);rintro e w2 ⟨rfl,hbw2⟩;have H2:=hid (X.out.below hbw2);(clear x0 x1 x2 x3 x4 x5 x6 x7 x8 x9 x10 x11 x12 x13 x14);have x0:=(H2.out.get 0 _ _ _ rfl).cell 0 _ rfl;have x1:=(H2.out.get 0 _ _ _ rfl).cell 1 _ rfl;have x2:=(H2.out.get 0 _ _ _ rfl).cell 2 _ rfl;have x3:=(H2.out.get 0 _ _ _ rfl).cell 3 _ rfl;have x4:=(H2.out.get 0 _ _ _ rfl).cell 4 _ rfl;have x5:=(H2.out.get 0 _ _ _ rfl).cell 5 _ rfl;have x6:=(H2.out.get 0 _ _ _ rfl).cell 6 _ rfl;have x7:=(H2.out.get 0 _ _ _ rfl).cell 7 _ rfl;have x8:=(H2.out.get 0 _ _ _ rfl).cell 8 _ rfl;have x9:=(H2.out.get 0 _ _ _ rfl).cell 9 _ rfl;have x10:=(H2.out.get 0 _ _ _ rfl).cell 10 _ rfl;have x11:=(H2.out.get 0 _ _ _ rfl).cell 11 _ rfl;have x12:=(H2.out.get 0 _ _ _ rfl).cell 12 _ rfl;have x13:=(H2.out.get 0 _ _ _ rfl).cell 13 _ rfl;have x14:=(H2.out.get 0 _ _ _ rfl).cell 14 _ rfl)))
   go_ret
   exact ⟨by rw [HD.out];simp [g0.out,g1.out,g2.out,gk1.out,gz.out,gd.out],H2.out.bel⟩
 have k1 : (x.k == 1) = false:=by simpa using h1
 have gk1:=hid h1
 clear h1
 by_cases h2 : x.k = 2
 ·have k2' : (x.k == 2) = true:=by simpa using h2
  have gk2:=hid h2
  clear h2
  cases FB
  ·clear cF
   go_wp2_with ((go_at_call 52;((with_reducible refine (cB _ X.out.bel).mono ?_);rintro e w2 ⟨rfl,hbw2⟩;have H2:=hid (X.out.below hbw2);(clear x0 x1 x2 x3 x4 x5 x6 x7 x8 x9 x10 x11 x12 x13 x14);have x0:=(H2.out.get 0 _ _ _ rfl).cell 0 _ rfl;have x1:=(H2.out.get 0 _ _ _ rfl).cell 1 _ rfl;have x2:=(H2.out.get 0 _ _ _ rfl).cell 2 _ rfl;have x3:=(H2.out.get 0 _ _ _ rfl).cell 3 _ rfl;have x4:=(H2.out.get 0 _ _ _ rfl).cell 4 _ rfl;have x5:=(H2.out.get 0 _ _ _ rfl).cell 5 _ rfl;have x6:=(H2.out.get 0 _ _ _ rfl).cell 6 _ rfl;have x7:=(H2.out.get 0 _ _ _ rfl).cell 7 _ rfl;have x8:=(H2.out.get 0 _ _ _ rfl).cell 8 _ rfl;have x9:=(H2.out.get 0 _ _ _ rfl).cell 9 _ rfl;have x10:=(H2.out.get 0 _ _ _ rfl).cell 10 _ rfl;have x11:=(H2.out.get 0 _ _ _ rfl).cell 11 _ rfl;have x12:=(H2.out.get 0 _ _ _ rfl).cell 12 _ rfl;have x13:=(H2.out.get 0 _ _ _ rfl).cell 13 _ rfl;have x14:=(H2.out.get 0 _ _ _ rfl).cell 14 _ rfl)))
   go_ret
   exact ⟨by rw [HD.out];simp [g0.out,g1.out,g2.out,gk2.out],H2.out.bel⟩
  cases CB
  ·
   go_wp2_with (first | (go_at_call 52;((with_reducible refine (cB _ X.out.bel).mono ?_);rintro e w2 ⟨rfl,hbw2⟩;have H2:=hid (X.out.below hbw2);(clear x0 x1 x2 x3 x4 x5 x6 x7 x8 x9 x10 x11 x12 x13 x14);have x0:=(H2.out.get 0 _ _ _ rfl).cell 0 _ rfl;have x1:=(H2.out.get 0 _ _ _ rfl).cell 1 _ rfl;have x2:=(H2.out.get 0 _ _ _ rfl).cell 2 _ rfl;have x3:=(H2.out.get 0 _ _ _ rfl).cell 3 _ rfl;have x4:=(H2.out.get 0 _ _ _ rfl).cell 4 _ rfl;have x5:=(H2.out.get 0 _ _ _ rfl).cell 5 _ rfl;have x6:=(H2.out.get 0 _ _ _ rfl).cell 6 _ rfl;have x7:=(H2.out.get 0 _ _ _ rfl).cell 7 _ rfl;have x8:=(H2.out.get 0 _ _ _ rfl).cell 8 _ rfl;have x9:=(H2.out.get 0 _ _ _ rfl).cell 9 _ rfl;have x10:=(H2.out.get 0 _ _ _ rfl).cell 10 _ rfl;have x11:=(H2.out.get 0 _ _ _ rfl).cell 11 _ rfl;have x12:=(H2.out.get 0 _ _ _ rfl).cell 12 _ rfl;have x13:=(H2.out.get 0 _ _ _ rfl).cell 13 _ rfl;have x14:=(H2.out.get 0 _ _ _ rfl).cell 14 _ rfl)) | (go_at_call 53;((with_reducible refine (cF _ H2.out.bel).mono ?_);rintro e w3 ⟨rfl,hbw3⟩;have H3:=hid (H2.out.below hbw3);(clear x0 x1 x2 x3 x4 x5 x6 x7 x8 x9 x10 x11 x12 x13 x14);have x0:=(H3.out.get 0 _ _ _ rfl).cell 0 _ rfl;have x1:=(H3.out.get 0 _ _ _ rfl).cell 1 _ rfl;have x2:=(H3.out.get 0 _ _ _ rfl).cell 2 _ rfl;have x3:=(H3.out.get 0 _ _ _ rfl).cell 3 _ rfl;have x4:=(H3.out.get 0 _ _ _ rfl).cell 4 _ rfl;have x5:=(H3.out.get 0 _ _ _ rfl).cell 5 _ rfl;have x6:=(H3.out.get 0 _ _ _ rfl).cell 6 _ rfl;have x7:=(H3.out.get 0 _ _ _ rfl).cell 7 _ rfl;have x8:=(H3.out.get 0 _ _ _ rfl).cell 8 _ rfl;have x9:=(H3.out.get 0 _ _ _ rfl).cell 9 _ rfl;have x10:=(H3.out.get 0 _ _ _ rfl).cell 10 _ rfl;have x11:=(H3.out.get 0 _ _ _ rfl).cell 11 _ rfl;have x12:=(H3.out.get 0 _ _ _ rfl).cell 12 _ rfl;have x13:=(H3.out.get 0 _ _ _ rfl).cell 13 _ rfl;have x14:=(H3.out.get 0 _ _ _ rfl).cell 14 _ rfl)))
   go_ret
   exact ⟨by rw [HD.out];simp [g0.out,g1.out,g2.out,gk2.out],H3.out.bel⟩
  by_cases d0 : x.dn = 0
  ·have d1 : (((x.dn : Nat) : Int) == 0) = true:=by simp [d0]
   have gd:=hid d0
   clear d0
   go_wp2_with (first | (go_at_call 52;((with_reducible refine (cB _ X.out.bel).mono ?_);rintro e w2 ⟨rfl,hbw2⟩;have H2:=hid (X.out.below hbw2);(clear x0 x1 x2 x3 x4 x5 x6 x7 x8 x9 x10 x11 x12 x13 x14);have x0:=(H2.out.get 0 _ _ _ rfl).cell 0 _ rfl;have x1:=(H2.out.get 0 _ _ _ rfl).cell 1 _ rfl;have x2:=(H2.out.get 0 _ _ _ rfl).cell 2 _ rfl;have x3:=(H2.out.get 0 _ _ _ rfl).cell 3 _ rfl;have x4:=(H2.out.get 0 _ _ _ rfl).cell 4 _ rfl;have x5:=(H2.out.get 0 _ _ _ rfl).cell 5 _ rfl;have x6:=(H2.out.get 0 _ _ _ rfl).cell 6 _ rfl;have x7:=(H2.out.get 0 _ _ _ rfl).cell 7 _ rfl;have x8:=(H2.out.get 0 _ _ _ rfl).cell 8 _ rfl;have x9:=(H2.out.get 0 _ _ _ rfl).cell 9 _ rfl;have x10:=(H2.out.get 0 _ _ _ rfl).cell 10 _ rfl;have x11:=(H2.out.get 0 _ _ _ rfl).cell 11 _ rfl;have x12:=(H2.out.get 0 _ _ _ rfl).cell 12 _ rfl;have x13:=(H2.out.get 0 _ _ _ rfl).cell 13 _ rfl;have x14:=(H2.out.get 0 _ _ _ rfl).cell 14 _ rfl)) | (go_at_call 53;((with_reducible refine (cF _ H2.out.bel).mono ?_);rintro e w3 ⟨rfl,hbw3⟩;have H3:=hid (H2.out.below hbw3);(clear x0 x1 x2 x3 x4 x5 x6 x7 x8 x9 x10 x11 x12 x13 x14);have x0:=(H3.out.get 0 _ _ _ rfl).cell 0 _ rfl;have x1:=(H3.out.get 0 _ _ _ rfl).cell 1 _ rfl;have x2:=(H3.out.get 0 _ _ _ rfl).cell 2 _ rfl;have x3:=(H3.out.get 0 _ _ _ rfl).cell 3 _ rfl;have x4:=(H3.out.get 0 _ _ _ rfl).cell 4 _ rfl;have x5:=(H3.out.get 0 _ _ _ rfl).cell 5 _ rfl;have x6:=(H3.out.get 0 _ _ _ rfl).cell 6 _ rfl;have x7:=(H3.out.get 0 _ _ _ rfl).cell 7 _ rfl;have x8:=(H3.out.get 0 _ _ _ rfl).cell 8 _ rfl;have x9:=(H3.out.get 0 _ _ _ rfl).cell 9 _ rfl;have x10:=(H3.out.get 0 _ _ _ rfl).cell 10 _ rfl;have x11:=(H3.out.get 0 _ _ _ rfl).cell 11 _ rfl;have x12:=(H3.out.get 0 _ _ _ rfl).cell 12 _ rfl;have x13:=(H3.out.get 0 _ _ _ rfl).cell 13 _ rfl;have x14:=(H3.out.get 0 _ _ _ rfl).cell 14 _ rfl)))
   go_ret
   exact ⟨by rw [HD.out];simp [g0.out,g1.out,g2.out,gk2.out,gd.out],H3.out.bel⟩
  ·have d1 : (((x.dn : Nat) : Int) == 0) = false:=by simp [d0]
   have gd:=hid d0
   clear d0
   go_wp2_with (first | (go_at_call 52;((with_reducible refine (cB _ X.out.bel).mono ?_);rintro e w2 ⟨rfl,hbw2⟩;have H2:=hid (X.out.below hbw2);(clear x0 x1 x2 x3 x4 x5 x6 x7 x8 x9 x10 x11 x12 x13 x14);have x0:=(H2.out.get 0 _ _ _ rfl).cell 0 _ rfl;have x1:=(H2.out.get 0 _ _ _ rfl).cell 1 _ rfl;have x2:=(H2.out.get 0 _ _ _ rfl).cell 2 _ rfl;have x3:=(H2.out.get 0 _ _ _ rfl).cell 3 _ rfl;have x4:=(H2.out.get 0 _ _ _ rfl).cell 4 _ rfl;have x5:=(H2.out.get 0 _ _ _ rfl).cell 5 _ rfl;have x6:=(H2.out.get 0 _ _ _ rfl).cell 6 _ rfl;have x7:=(H2.out.get 0 _ _ _ rfl).cell 7 _ rfl;have x8:=(H2.out.get 0 _ _ _ rfl).cell 8 _ rfl;have x9:=(H2.out.get 0 _ _ _ rfl).cell 9 _ rfl;have x10:=(H2.out.get 0 _ _ _ rfl).cell 10 _ rfl;have x11:=(H2.out.get 0 _ _ _ rfl).cell 11 _ rfl;have x12:=(H2.out.get 0 _ _ _ rfl).cell 12 _ rfl;have x13:=(H2.out.get 0 _ _ _ rfl).cell 13 _ rfl;have x14:=(H2.out.get 0 _ _ _ rfl).cell 14 _ rfl)) | (go_at_call 53;((with_reducible refine (cF _ H2.out.bel).mono ?_);rintro e w3 ⟨rfl,hbw3⟩;have H3:=hid (H2.out.below hbw3);(clear x0 x1 x2 x3 x4 x5 x6 x7 x8 x9 x10 x11 x12 x13 x14);have x0:=(H3.out.get 0 _ _ _ rfl).cell 0 _ rfl;have x1:=(H3.out.get 0 _ _ _ rfl).cell 1 _ rfl;have x2:=(H3.out.get 0 _ _ _ rfl).cell 2 _ rfl;have x3:=(H3.out.get 0 _ _ _ rfl).cell 3 _ rfl;have x4:=(H3.out.get 0 _ _ _ rfl).cell 4 _ rfl;have x5:=(H3.out.get 0 _ _ _ rfl).cell 5 _ rfl;have x6:=(H3.out.get 0 _ _ _ rfl).cell 6 _ rfl;have x7:=(H3.out.get 0 _ _ _ rfl).cell 7 _ rfl;have x8:=(H3.out.get 0 _ _ _ rfl).cell 8 _ rfl;have x9:=(H3.out.get 0 _ _ _ rfl).cell 9 _ rfl;have x10:=(H3.out.get 0 _ _ _ rfl).cell 10 _ rfl;have x11:=(H3.out.get 0 _ _ _ rfl).cell 11 _ rfl;have x12:=(H3.out.get 0 _ _ _ rfl).cell 12 _ rfl;have x13:=(H3.out.get 0 _ _ _ rfl).cell 13 _ rfl;have x14:=(H3.out.get 0 _ _ _ rfl).cell 14 _ rfl)))
   go_ret
   exact ⟨by rw [HD.out];simp [g0.out,g1.out,g2.out,gk2.out,gd.out],H3.out.bel⟩
 have k2 : (x.k == 2) = false:=by simpa using h2
 have gk2:=hid h2
 clear h2
 clear cB
 by_cases h3 : x.k = 3
 ·have k3' : (x.k == 3) = true:=by simpa using h3
  have gk3:=hid h3
  clear h3
  cases SB
  ·clear cF
   go_wp2
   go_ret
   exact ⟨by rw [HD.out];simp [g0.out,g1.out,g2.out,gk3.out],X.out.bel⟩
  cases CB
  ·
   go_wp2_with ((go_at_call 53;((with_reducible refine (cF _ X.out.bel).mono ?_);rintro e w3 ⟨rfl,hbw3⟩;have H3:=hid (X.out.below hbw3);(clear x0 x1 x2 x3 x4 x5 x6 x7 x8 x9 x10 x11 x12 x13 x14);have x0:=(H3.out.get 0 _ _ _ rfl).cell 0 _ rfl;have x1:=(H3.out.get 0 _ _ _ rfl).cell 1 _ rfl;have x2:=(H3.out.get 0 _ _ _ rfl).cell 2 _ rfl;have x3:=(H3.out.get 0 _ _ _ rfl).cell 3 _ rfl;have x4:=(H3.out.get 0 _ _ _ rfl).cell 4 _ rfl;have x5:=(H3.out.get 0 _ _ _ rfl).cell 5 _ rfl;have x6:=(H3.out.get 0 _ _ _ rfl).cell 6 _ rfl;have x7:=(H3.out.get 0 _ _ _ rfl).cell 7 _ rfl;have x8:=(H3.out.get 0 _ _ _ rfl).cell 8 _ rfl;have x9:=(H3.out.get 0 _ _ _ rfl).cell 9 _ rfl;have x10:=(H3.out.get 0 _ _ _ rfl).cell 10 _ rfl;have x11:=(H3.out.get 0 _ _ _ rfl).cell 11 _ rfl;have x12:=(H3.out.get 0 _ _ _ rfl).cell 12 _ rfl;have x13:=(H3.out.get 0 _ _ _ rfl).cell 13 _ rfl;have x14:=(H3.out.get 0 _ _ _ rfl).cell 14 _ rfl)))
   go_ret
   exact ⟨by rw [HD.out];simp [g0.out,g1.out,g2.out,gk3.out],H3.out.bel⟩
  by_cases d0 : x.dn = 0
  ·have d1 : (((x.dn : Nat) : Int) == 0) = true:=by simp [d0]
   have gd:=hid d0
   clear d0
   go_wp2_with ((go_at_call 53;((with_reducible refine (cF _ X.out.bel).mono ?_);rintro e w3 ⟨rfl,hbw3⟩;have H3:=hid (X.out.below hbw3);(clear x0 x1 x2 x3 x4 x5 x6 x7 x8 x9 x10 x11 x12 x13 x14);have x0:=(H3.out.get 0 _ _ _ rfl).cell 0 _ rfl;have x1:=(H3.out.get 0 _ _ _ rfl).cell 1 _ rfl;have x2:=(H3.out.get 0 _ _ _ rfl).cell 2 _ rfl;have x3:=(H3.out.get 0 _ _ _ rfl).cell 3 _ rfl;have x4:=(H3.out.get 0 _ _ _ rfl).cell 4 _ rfl;have x5:=(H3.out.get 0 _ _ _ rfl).cell 5 _ rfl;have x6:=(H3.out.get 0 _ _ _ rfl).cell 6 _ rfl;have x7:=(H3.out.get 0 _ _ _ rfl).cell 7 _ rfl;have x8:=(H3.out.get 0 _ _ _ rfl).cell 8 _ rfl;have x9:=(H3.out.get 0 _ _ _ rfl).cell 9 _ rfl;have x10:=(H3.out.get 0 _ _ _ rfl).cell 10 _ rfl;have x11:=(H3.out.get 0 _ _ _ rfl).cell 11 _ rfl;have x12:=(H3.out.get 0 _ _ _ rfl).cell 12 _ rfl;have x13:=(H3.out.get 0 _ _ _ rfl).cell 13 _ rfl;have x14:=(H3.out.get 0 _ _ _ rfl).cell 14 _ rfl)))
   go_ret
   exact ⟨by rw [HD.out];simp [g0.out,g1.out,g2.out,gk3.out,gd.out],H3.out.bel⟩
  ·have d1 : (((x.dn : Nat) : Int) == 0) = false:=by simp [d0]
   have gd:=hid d0
   clear d0
   go_wp2_with ((go_at_call 53;((with_reducible refine (cF _ X.out.bel).mono ?_);rintro e w3 ⟨rfl,hbw3⟩;have H3:=hid (X.out.below hbw3);(clear x0 x1 x2 x3 x4 x5 x6 x7 x8 x9 x10 x11 x12 x13 x14);have x0:=(H3.out.get 0 _ _ _ rfl).cell 0 _ rfl;have x1:=(H3.out.get 0 _ _ _ rfl).cell 1 _ rfl;have x2:=(H3.out.get 0 _ _ _ rfl).cell 2 _ rfl;have x3:=(H3.out.get 0 _ _ _ rfl).cell 3 _ rfl;have x4:=(H3.out.get 0 _ _ _ rfl).cell 4 _ rfl;have x5:=(H3.out.get 0 _ _ _ rfl).cell 5 _ rfl;have x6:=(H3.out.get 0 _ _ _ rfl).cell 6 _ rfl;have x7:=(H3.out.get 0 _ _ _ rfl).cell 7 _ rfl;have x8:=(H3.out.get 0 _ _ _ rfl).cell 8 _ rfl;have x9:=(H3.out.get 0 _ _ _ rfl).cell 9 _ rfl;have x10:=(H3.out.get 0 _ _ _ rfl).cell 10 _ rfl;have x11:=(H3.out.get 0 _ _ _ rfl).cell 11 _ rfl;have x12:=(H3.out.get 0 _ _ _ rfl).cell 12 _ rfl;have x13:=(H3.out.get 0 _ _ _ rfl).cell 13 _ rfl;have x14:=(H3.out.get 0 _ _ _ rfl).cell 14 _ rfl)))
   go_ret
   exact ⟨by rw [HD.out];simp [g0.out,g1.out,g2.out,gk3.out,gd.out],H3.out.bel⟩
 have k3 : (x.k == 3) = false:=by simpa using h3
 have gk3:=hid h3
 clear h3
 clear cF
 by_cases h4 : x.k = 4
 ·have k4' : (x.k == 4) = true:=by simpa using h4
  have gk4:=hid h4
  clear h4
  cases SB
  ·
   go_wp2
   go_ret
   exact ⟨by rw [HD.out];simp [g0.out,g1.out,g2.out,gk4.out],X.out.bel⟩
  cases NB
  ·
   go_wp2
   go_ret
   exact ⟨by rw [HD.out];simp [g0.out,g1.out,g2.out,gk4.out],X.out.bel⟩
  ·
   go_wp2
   go_ret
   exact ⟨by rw [HD.out];simp [g0.out,g1.out,g2.out,gk4.out],X.out.bel⟩
 have k4 : (x.k == 4) = false:=by simpa using h4
 have gk4:=hid h4
 clear h4
 go_wp2
 go_ret
 exact ⟨by rw [HD.out];simp [g0.out,g1.out,g2.out,gk1.out,gk2.out,gk3.out,gk4.out],X.out.bel⟩
end Go.Proofs.YtcfmifongbapkaaGreatDoor
