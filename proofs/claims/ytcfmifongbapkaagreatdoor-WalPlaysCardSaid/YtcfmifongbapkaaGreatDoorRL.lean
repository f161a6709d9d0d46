/- Contracts of command.Same, Label, named, formedSource, of the document's Same, Label, Few, and of the statements' few. Conditions: the commands' lists lie in memory, and are no longer than a million (Same). Contract of the document's own Same of bytes, for any two rows of bytes. Conditions: what it is handed lies in memory. -/
import Derived.Test.YtcfmifongbapkaaGreatDoorRF
import Derived.Test.YtcfmifongbapkaaGreatDoorRK
import Derived.Test.YtcfmifongbapkaaGreatDoorRB
namespace Go.Proofs.YtcfmifongbapkaaGreatDoor
set_option maxRecDepth 100000
set_option maxHeartbeats 2000000
open Go.RowKit
open Go.Lib (hid)
set_option linter.unusedVariables false
theorem kSame_any (x y : CmM) (rs rs' : List RdM) (ws ws' : List WrM) (w : World) (h : CmAt w x rs ws) (h' : CmAt w y rs' ws') (hn : x.n≤1000000) (hm : x.m≤1000000) :
  Calls Tryz.prog 54 #[.agg (cmV x),.agg (cmV y)] w (Says w (sameC x y rs rs' ws ws')):=by
 have H0:=hid (((Boxs.start w).more (cmV x) 33).more (cmV y) 33)
 have hs : (w.alloc (.cells (cmV x) 33)).heap.size = w.heap.size + 1:=by simp
 rw [hs] at H0
 have cS:=tSame_any x.s x.q x.a x.n x.c x.b x.m x.d rs ws y.s y.q y.a y.n y.c y.b y.m y.d rs' ws' _ (h.tx.later H0.out.bel) (h'.tx.later H0.out.bel) hn hm
 obtain ⟨x0,x1,x2,x3,x4,x5,x6,x7,x8,x9⟩:=(H0.out.get 1 _ _ _ rfl).ten
 obtain ⟨y0,y1,y2,y3,y4,y5,y6,y7,y8,y9⟩:=(H0.out.get 0 _ _ _ rfl).ten
 clear h h'
 unfold sameC
 cases q1 : (x.k == y.k)
 ·clear cS
  go_enter Tryz.func54,Tryz.ntmps54
  go_wp2
  go_ret
  exact ⟨rfl,H0.out.bel⟩
 cases hS : sameM (x.s,x.q) (y.s,y.q) rs rs' ws ws'
 ·rw [hS] at cS
  go_enter Tryz.func54,Tryz.ntmps54
  go_wp2_with (go_at_call 95;((with_reducible refine cS.mono ?_);rintro e w1 ⟨rfl,hb1⟩;have H1:=hid (H0.out.below hb1)))
  go_ret
  exact ⟨rfl,H1.out.bel⟩
 rw [hS] at cS
 rcases id_cases x.i x.j y.i y.j with ⟨e,q2,q3⟩ | ⟨e,q2⟩ | ⟨e,q2,q3⟩
 ·rw [e]
  cases q4 : (x.g == y.g)
  ·go_enter Tryz.func54,Tryz.ntmps54
   go_wp2_with (go_at_call 95;((with_reducible refine cS.mono ?_);rintro e w1 ⟨rfl,hb1⟩;have H1:=hid (H0.out.below hb1);(clear x0 x1 x2 x3 x4 x5 x6 x7 x8 x9 y0 y1 y2 y3 y4 y5 y6 y7 y8 y9);obtain ⟨x0,x1,x2,x3,x4,x5,x6,x7,x8,x9⟩:=(H1.out.get 1 _ _ _ rfl).ten;obtain ⟨y0,y1,y2,y3,y4,y5,y6,y7,y8,y9⟩:=(H1.out.get 0 _ _ _ rfl).ten))
   go_ret
   exact ⟨rfl,H1.out.bel⟩
  cases q5 : (((x.st : Nat) : Int) == ((y.st : Nat) : Int))
  ·go_enter Tryz.func54,Tryz.ntmps54
   go_wp2_with (go_at_call 95;((with_reducible refine cS.mono ?_);rintro e w1 ⟨rfl,hb1⟩;have H1:=hid (H0.out.below hb1);(clear x0 x1 x2 x3 x4 x5 x6 x7 x8 x9 y0 y1 y2 y3 y4 y5 y6 y7 y8 y9);obtain ⟨x0,x1,x2,x3,x4,x5,x6,x7,x8,x9⟩:=(H1.out.get 1 _ _ _ rfl).ten;obtain ⟨y0,y1,y2,y3,y4,y5,y6,y7,y8,y9⟩:=(H1.out.get 0 _ _ _ rfl).ten))
   go_ret
   exact ⟨rfl,H1.out.bel⟩
  go_enter Tryz.func54,Tryz.ntmps54
  go_wp2_with (go_at_call 95;((with_reducible refine cS.mono ?_);rintro e w1 ⟨rfl,hb1⟩;have H1:=hid (H0.out.below hb1);(clear x0 x1 x2 x3 x4 x5 x6 x7 x8 x9 y0 y1 y2 y3 y4 y5 y6 y7 y8 y9);obtain ⟨x0,x1,x2,x3,x4,x5,x6,x7,x8,x9⟩:=(H1.out.get 1 _ _ _ rfl).ten;obtain ⟨y0,y1,y2,y3,y4,y5,y6,y7,y8,y9⟩:=(H1.out.get 0 _ _ _ rfl).ten))
  go_ret
  exact ⟨rfl,H1.out.bel⟩
 ·rw [e]
  go_enter Tryz.func54,Tryz.ntmps54
  go_wp2_with (go_at_call 95;((with_reducible refine cS.mono ?_);rintro e w1 ⟨rfl,hb1⟩;have H1:=hid (H0.out.below hb1);(clear x0 x1 x2 x3 x4 x5 x6 x7 x8 x9 y0 y1 y2 y3 y4 y5 y6 y7 y8 y9);obtain ⟨x0,x1,x2,x3,x4,x5,x6,x7,x8,x9⟩:=(H1.out.get 1 _ _ _ rfl).ten;obtain ⟨y0,y1,y2,y3,y4,y5,y6,y7,y8,y9⟩:=(H1.out.get 0 _ _ _ rfl).ten))
  go_ret
  exact ⟨rfl,H1.out.bel⟩
 ·rw [e]
  go_enter Tryz.func54,Tryz.ntmps54
  go_wp2_with (go_at_call 95;((with_reducible refine cS.mono ?_);rintro e w1 ⟨rfl,hb1⟩;have H1:=hid (H0.out.below hb1);(clear x0 x1 x2 x3 x4 x5 x6 x7 x8 x9 y0 y1 y2 y3 y4 y5 y6 y7 y8 y9);obtain ⟨x0,x1,x2,x3,x4,x5,x6,x7,x8,x9⟩:=(H1.out.get 1 _ _ _ rfl).ten;obtain ⟨y0,y1,y2,y3,y4,y5,y6,y7,y8,y9⟩:=(H1.out.get 0 _ _ _ rfl).ten))
  go_ret
  exact ⟨rfl,H1.out.bel⟩
theorem dSame_any (x y : CmM) (rs rs' : List RdM) (ws ws' : List WrM) (w : World) (h : CmAt w x rs ws) (h' : CmAt w y rs' ws') (hn : x.n≤1000000) (hm : x.m≤1000000) :
  Calls Tryz.prog 51 #[.agg (cmV x),.agg (cmV y)] w (Says w (sameC x y rs rs' ws ws')):=by
 have H0:=hid (((Boxs.start w).more (cmV x) 45).more (cmV y) 45)
 have hs : (w.alloc (.cells (cmV x) 45)).heap.size = w.heap.size + 1:=by simp
 rw [hs] at H0
 have cS:=rSame_any x.s x.q x.a x.n x.c x.b x.m x.d rs ws y.s y.q y.a y.n y.c y.b y.m y.d rs' ws' _ (h.tx.later H0.out.bel) (h'.tx.later H0.out.bel) hn hm
 obtain ⟨x0,x1,x2,x3,x4,x5,x6,x7,x8,x9⟩:=(H0.out.get 1 _ _ _ rfl).ten
 obtain ⟨y0,y1,y2,y3,y4,y5,y6,y7,y8,y9⟩:=(H0.out.get 0 _ _ _ rfl).ten
 clear h h'
 rw [sameC_doc]
 cases q1 : (x.k == y.k)
 ·clear cS
  go_enter Tryz.func51,Tryz.ntmps51
  go_wp2
  go_ret
  exact ⟨rfl,H0.out.bel⟩
 rcases id_cases x.i x.j y.i y.j with ⟨e,q2,q3⟩ | ⟨e,q2⟩ | ⟨e,q2,q3⟩
 ·rw [e]
  cases q4 : (x.g == y.g)
  ·clear cS
   go_enter Tryz.func51,Tryz.ntmps51
   go_wp2
   go_ret
   exact ⟨rfl,H0.out.bel⟩
  cases q5 : (((x.st : Nat) : Int) == ((y.st : Nat) : Int))
  ·clear cS
   go_enter Tryz.func51,Tryz.ntmps51
   go_wp2
   go_ret
   exact ⟨rfl,H0.out.bel⟩
  cases q6 : (x.y == y.y)
  ·clear cS
   go_enter Tryz.func51,Tryz.ntmps51
   go_wp2
   go_ret
   exact ⟨rfl,H0.out.bel⟩
  go_enter Tryz.func51,Tryz.ntmps51
  go_wp2_with (go_at_call 92;((with_reducible refine cS.mono ?_);rintro e w1 ⟨rfl,hb1⟩;have H1:=hid (H0.out.below hb1)))
  go_ret
  exact ⟨rfl,H1.out.bel⟩
 ·rw [e]
  clear cS
  go_enter Tryz.func51,Tryz.ntmps51
  go_wp2
  go_ret
  exact ⟨rfl,H0.out.bel⟩
 ·rw [e]
  clear cS
  go_enter Tryz.func51,Tryz.ntmps51
  go_wp2
  go_ret
  exact ⟨rfl,H0.out.bel⟩
theorem kNamed_any (x : CmM) (w : World) : Calls Tryz.prog 89 #[.agg (cmV x)] w fun e w'=>e = .returned (.agg (cmV (namedM x)))∧Below w.heap.size w w':=by
 have H0:=hid (((Boxs.start w).more (cmV x) 33).more (cmV zeroM) 33)
 have hs : (w.alloc (.cells (cmV x) 33)).heap.size = w.heap.size + 1:=by simp
 rw [hs] at H0
 unfold namedM
 by_cases h1 : x.k = 1
 ·rw [if_pos h1]
  have q1 : (x.k == 1) = true:=by simp;omega
  go_enter Tryz.func89,Tryz.ntmps89
  go_upto_region 1 with (fail)
  generalize (w.alloc (.cells (cmV x) 33)).alloc (.cells (cmV zeroM) 33) = W0 at *
  obtain ⟨x0,x1,x2,x3,x4,x5,x6,x7,x8,x9⟩:=(H0.out.get 1 _ _ _ rfl).ten
  obtain ⟨z0,z1,z2,z3,z4,z5,z6,z7,z8,z9⟩:=(H0.out.get 0 _ _ _ rfl).ten
  have f0:=(H0.out.get 0 _ _ _ rfl).frozen 0;have f1:=(H0.out.get 0 _ _ _ rfl).frozen 1;have f2:=(H0.out.get 0 _ _ _ rfl).frozen 2;have f3:=(H0.out.get 0 _ _ _ rfl).frozen 3;have f4:=(H0.out.get 0 _ _ _ rfl).frozen 4;have f5:=(H0.out.get 0 _ _ _ rfl).frozen 5;have f6:=(H0.out.get 0 _ _ _ rfl).frozen 6;have f7:=(H0.out.get 0 _ _ _ rfl).frozen 7;have f8:=(H0.out.get 0 _ _ _ rfl).frozen 8;have f9:=(H0.out.get 0 _ _ _ rfl).frozen 9
  go_wp2
  exact bodyPost_ret (v:=.agg (cmV ⟨1,x.s,x.q,x.a,x.n,x.c,x.b,x.m,x.d,0,0,0,0,false⟩)) (by simp [results,Tryz.results89,go_sem,z0,z1,z2,z3,z4,z5,z6,z7,z8,z9]) rfl ⟨rfl,((((((((((H0.out.bel.setCell (by simp) _).setCell (by simp) _).setCell (by simp) _).setCell (by simp) _).setCell (by simp) _).setCell (by simp) _).setCell (by simp) _).setCell (by simp) _).setCell (by simp) _).setCell (by simp) _)⟩
 by_cases h2 : x.k = 2
 ·rw [if_neg h1,if_pos h2]
  have q1 : (x.k == 1) = false:=by simp;omega
  have q2 : (x.k == 2) = true:=by simp;omega
  go_enter Tryz.func89,Tryz.ntmps89
  go_upto_region 1 with (fail)
  generalize (w.alloc (.cells (cmV x) 33)).alloc (.cells (cmV zeroM) 33) = W0 at *
  obtain ⟨x0,x1,x2,x3,x4,x5,x6,x7,x8,x9⟩:=(H0.out.get 1 _ _ _ rfl).ten
  obtain ⟨z0,z1,z2,z3,z4,z5,z6,z7,z8,z9⟩:=(H0.out.get 0 _ _ _ rfl).ten
  have f0:=(H0.out.get 0 _ _ _ rfl).frozen 0;have f1:=(H0.out.get 0 _ _ _ rfl).frozen 1;have f2:=(H0.out.get 0 _ _ _ rfl).frozen 2;have f3:=(H0.out.get 0 _ _ _ rfl).frozen 3;have f4:=(H0.out.get 0 _ _ _ rfl).frozen 4;have f5:=(H0.out.get 0 _ _ _ rfl).frozen 5;have f6:=(H0.out.get 0 _ _ _ rfl).frozen 6;have f7:=(H0.out.get 0 _ _ _ rfl).frozen 7;have f8:=(H0.out.get 0 _ _ _ rfl).frozen 8;have f9:=(H0.out.get 0 _ _ _ rfl).frozen 9
  go_wp2
  exact bodyPost_ret (v:=.agg (cmV ⟨2,0,0,none,0,0,none,0,0,x.i,x.j,x.g,x.st,false⟩)) (by simp [results,Tryz.results89,go_sem,z0,z1,z2,z3,z4,z5,z6,z7,z8,z9]) rfl ⟨rfl,((((((((((H0.out.bel.setCell (by simp) _).setCell (by simp) _).setCell (by simp) _).setCell (by simp) _).setCell (by simp) _).setCell (by simp) _).setCell (by simp) _).setCell (by simp) _).setCell (by simp) _).setCell (by simp) _)⟩
 by_cases h3 : x.k = 3
 ·rw [if_neg h1,if_neg h2,if_pos h3]
  have q1 : (x.k == 1) = false:=by simp;omega
  have q2 : (x.k == 2) = false:=by simp;omega
  have q3 : (x.k == 3) = true:=by simp;omega
  go_enter Tryz.func89,Tryz.ntmps89
  go_upto_region 1 with (fail)
  generalize (w.alloc (.cells (cmV x) 33)).alloc (.cells (cmV zeroM) 33) = W0 at *
  obtain ⟨x0,x1,x2,x3,x4,x5,x6,x7,x8,x9⟩:=(H0.out.get 1 _ _ _ rfl).ten
  obtain ⟨z0,z1,z2,z3,z4,z5,z6,z7,z8,z9⟩:=(H0.out.get 0 _ _ _ rfl).ten
  have f0:=(H0.out.get 0 _ _ _ rfl).frozen 0;have f1:=(H0.out.get 0 _ _ _ rfl).frozen 1;have f2:=(H0.out.get 0 _ _ _ rfl).frozen 2;have f3:=(H0.out.get 0 _ _ _ rfl).frozen 3;have f4:=(H0.out.get 0 _ _ _ rfl).frozen 4;have f5:=(H0.out.get 0 _ _ _ rfl).frozen 5;have f6:=(H0.out.get 0 _ _ _ rfl).frozen 6;have f7:=(H0.out.get 0 _ _ _ rfl).frozen 7;have f8:=(H0.out.get 0 _ _ _ rfl).frozen 8;have f9:=(H0.out.get 0 _ _ _ rfl).frozen 9
  go_wp2
  exact bodyPost_ret (v:=.agg (cmV ⟨3,0,0,none,0,0,none,0,0,x.i,x.j,x.g,0,x.y⟩)) (by simp [results,Tryz.results89,go_sem,z0,z1,z2,z3,z4,z5,z6,z7,z8,z9]) rfl ⟨rfl,((((((((((H0.out.bel.setCell (by simp) _).setCell (by simp) _).setCell (by simp) _).setCell (by simp) _).setCell (by simp) _).setCell (by simp) _).setCell (by simp) _).setCell (by simp) _).setCell (by simp) _).setCell (by simp) _)⟩
 rw [if_neg h1,if_neg h2,if_neg h3]
 have q1 : (x.k == 1) = false:=by simp;omega
 have q2 : (x.k == 2) = false:=by simp;omega
 have q3 : (x.k == 3) = false:=by simp;omega
 go_enter Tryz.func89,Tryz.ntmps89
 go_upto_region 1 with (fail)
 generalize (w.alloc (.cells (cmV x) 33)).alloc (.cells (cmV zeroM) 33) = W0 at *
 obtain ⟨x0,x1,x2,x3,x4,x5,x6,x7,x8,x9⟩:=(H0.out.get 1 _ _ _ rfl).ten
 obtain ⟨z0,z1,z2,z3,z4,z5,z6,z7,z8,z9⟩:=(H0.out.get 0 _ _ _ rfl).ten
 have f0:=(H0.out.get 0 _ _ _ rfl).frozen 0;have f1:=(H0.out.get 0 _ _ _ rfl).frozen 1;have f2:=(H0.out.get 0 _ _ _ rfl).frozen 2;have f3:=(H0.out.get 0 _ _ _ rfl).frozen 3;have f4:=(H0.out.get 0 _ _ _ rfl).frozen 4;have f5:=(H0.out.get 0 _ _ _ rfl).frozen 5;have f6:=(H0.out.get 0 _ _ _ rfl).frozen 6;have f7:=(H0.out.get 0 _ _ _ rfl).frozen 7;have f8:=(H0.out.get 0 _ _ _ rfl).frozen 8;have f9:=(H0.out.get 0 _ _ _ rfl).frozen 9
 go_wp2
 exact bodyPost_ret (v:=.agg (cmV zeroM)) (by simp [results,Tryz.results89,go_sem,z0,z1,z2,z3,z4,z5,z6,z7,z8,z9]) rfl ⟨rfl,((((((((((H0.out.bel.setCell (by simp) _).setCell (by simp) _).setCell (by simp) _).setCell (by simp) _).setCell (by simp) _).setCell (by simp) _).setCell (by simp) _).setCell (by simp) _).setCell (by simp) _).setCell (by simp) _)⟩
theorem kSource_any (x : CmM) (w : World) : Calls Tryz.prog 91 #[.agg (cmV x)] w (Says w (srcB x)):=by
 have H0:=hid ((Boxs.start w).more (cmV x) 33)
 have cI:=fun W=>tId_any x.i x.j W
 obtain ⟨x0,x1,x2,x3,x4,x5,x6,x7,x8,x9⟩:=(H0.out.get 0 _ _ _ rfl).ten
 unfold srcB
 cases hI : idB (x.i,x.j)
 ·rw [hI] at cI
  go_enter Tryz.func91,Tryz.ntmps91
  go_wp2_with (go_at_call 117;((with_reducible refine (cI _).mono ?_);rintro e w1 ⟨rfl,hb1⟩;have H1:=hid (H0.out.below hb1)))
  go_ret
  exact ⟨rfl,H1.out.bel⟩
 rw [hI] at cI
 by_cases h1 : 0≤x.g
 ·rw [decide_eq_true h1]
  go_enter Tryz.func91,Tryz.ntmps91
  go_wp2_with (go_at_call 117;((with_reducible refine (cI _).mono ?_);rintro e w1 ⟨rfl,hb1⟩;have H1:=hid (H0.out.below hb1);(clear x0 x1 x2 x3 x4 x5 x6 x7 x8 x9);obtain ⟨x0,x1,x2,x3,x4,x5,x6,x7,x8,x9⟩:=(H1.out.get 0 _ _ _ rfl).ten))
  go_ret
  exact ⟨rfl,H1.out.bel⟩
 ·rw [decide_eq_false h1]
  go_enter Tryz.func91,Tryz.ntmps91
  go_wp2_with (go_at_call 117;((with_reducible refine (cI _).mono ?_);rintro e w1 ⟨rfl,hb1⟩;have H1:=hid (H0.out.below hb1);(clear x0 x1 x2 x3 x4 x5 x6 x7 x8 x9);obtain ⟨x0,x1,x2,x3,x4,x5,x6,x7,x8,x9⟩:=(H1.out.get 0 _ _ _ rfl).ten))
  go_ret
  exact ⟨rfl,H1.out.bel⟩
theorem dFew_any (x : CmM) (rs : List RdM) (ws : List WrM) (w : World) (h : CmAt w x rs ws) : Calls Tryz.prog 72 #[.agg (cmV x)] w (Says w (fewT rs ws)):=by
 have H0:=hid ((Boxs.start w).more (cmV x) 45)
 have cF:=rFewT_any x.s x.q x.a x.n x.c x.b x.m x.d rs ws _ (h.tx.later H0.out.bel)
 obtain ⟨x0,x1,x2,x3,x4,x5,x6,x7,x8,x9⟩:=(H0.out.get 0 _ _ _ rfl).ten
 generalize fewT rs ws = B at *
 clear h
 go_enter Tryz.func72,Tryz.ntmps72
 go_wp2_with (go_at_call 102;((with_reducible refine cF.mono ?_);rintro e w1 ⟨rfl,hb1⟩;have H1:=hid (H0.out.below hb1)))
 go_ret
 exact ⟨rfl,H1.out.bel⟩
theorem same_any (a a' : Option Addr) (n n' c c' B B' : Nat) (l l' : List UInt8) (w : World) (h : BAt w B a n l) (h' : BAt w B' a' n' l') (hn : n≤maxLen) (hn' : n'≤maxLen) :
  Calls Tryz.prog 19 #[.slice a n c,.slice a' n' c'] w (Reads1 w (.bool (decide (l = l')))):=by
 have e1:=h.len
 have e2:=h'.len
 unfold maxLen at hn hn'
 by_cases hnn : n = n'
 ·subst hnn
  go_enter Tryz.func19,Tryz.ntmps19
  go_wp2
  go_loopw [5] (fun i wr => ∃ (k q : Nat),k≤n∧i = .int .i64 k∧wr = w.drewN q∧l.take k = l'.take k) (fun i _=>n - (intOf i).toNat)
  case atStart=>exact ⟨0,0,by omega,rfl,rfl,rfl⟩
  case round =>
   obtain ⟨k,q,hk,rfl,rfl,ht⟩:=hrel
   by_cases hlt : k < n
   ·obtain ⟨b,off,rfl,_,hc⟩:=h.at_ (i:=k) (by omega)
    obtain ⟨b',off',rfl,_,hc'⟩:=h'.at_ (i:=k) (by omega)
    have hk1 : k < l.length:=by omega
    have hk2 : k < l'.length:=by omega
    by_cases he : l[k] = l'[k]
    ·have HT : Hid (l.take (k + 1) = l'.take (k + 1)):=by unfold Hid;rw [List.take_succ_eq_append_getElem hk1,List.take_succ_eq_append_getElem hk2,ht,he]
     rw [← he] at hc'
     generalize l[k].toNat = v at *
     clear h h' e1 e2 ht he
     go_upto_region 6 with (fail)
     go_quiet (fail)
     go_wp2
     go_roundw
     case rel=>exact ⟨k + 1,_,by omega,by go_num,rfl,HT.out⟩
     case measure=>simp [intOf];omega
    ·have Q : Hid (decide (l = l') = false):=decide_eq_false (fun e=>he (by subst e;rfl))
     have qn : (((l[k].toNat : Nat) : Int) != ((l'[k].toNat : Nat) : Int)) = true:=by
      have h1 : l[k].toNat≠l'[k].toNat:=fun e=>he (UInt8.toNat_inj.1 e)
      simp only [bne_iff_ne,ne_eq];omega
     generalize l[k].toNat = v at *
     generalize l'[k].toNat = v' at *
     clear h h' e1 e2 ht he
     go_upto_region 6 with (fail)
     go_quiet (fail)
     go_wp2
     go_ret
     exact ⟨by rw [Q.out];rfl,q + nq,by rw [World.drewN_drewN]⟩
   ·have Q : Hid (decide (l = l') = true):=by
     unfold Hid
     rw [List.take_of_length_le (by omega),List.take_of_length_le (by omega)] at ht
     exact decide_eq_true ht
    clear e1 e2 h h' ht
    go_wp2
    go_ret
    exact ⟨by rw [Q.out];rfl,q,rfl⟩
 ·have Q : Hid (decide (l = l') = false):=decide_eq_false (fun e=>hnn (by rw [← e1,← e2,e]))
  have qn : ((n : Int) != (n' : Int)) = true:=by simp;omega
  clear h h' e1 e2
  go_enter Tryz.func19,Tryz.ntmps19
  go_wp2
  go_ret
  exact ⟨by rw [Q.out];rfl,0,rfl⟩
end Go.Proofs.YtcfmifongbapkaaGreatDoor
