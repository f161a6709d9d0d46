/- Contracts of command.Same, Label, named, formedSource, of the document's Same, Label, Few, and of the statements' few. Conditions: the commands' lists lie in memory, and are no longer than a million (Same). Contract of command.Formed. Conditions: the command's lists lie in memory, and are no longer than a million; the tables of utf8 lie there. -/
import Derived.Test.YtcfmifongbapkaaGreatDoorQH
import Derived.Test.YtcfmifongbapkaaGreatDoorQU
import Derived.Test.YtcfmifongbapkaaGreatDoorQR
import Derived.Deep.RegionHeld3
/- CommandSame -/
namespace Go.Proofs.YtcfmifongbapkaaGreatDoor

open Go.RowKit

set_option linter.unusedVariables false

set_option maxRecDepth 100000 in
set_option maxHeartbeats 2000000 in
theorem kSame_any (x y : CmM) (rs rs' : List RdM) (ws ws' : List WrM) (w : World) (h : CmAt w x rs ws) (h' : CmAt w y rs' ws') (hn : x.n ≤ 1000000) (hm : x.m ≤ 1000000) :
    Calls Tryz.prog 54 #[.agg (cmV x), .agg (cmV y)] w (Says w (sameC x y rs rs' ws ws')) := by
  have H0 := Lib.hid (((Boxs.start w).more (cmV x) 33).more (cmV y) 33)
  have hs : (w.alloc (.cells (cmV x) 33)).heap.size = w.heap.size + 1 := by simp
  rw [hs] at H0
  have cS := tSame_any x.s x.q x.a x.n x.c x.b x.m x.d rs ws y.s y.q y.a y.n y.c y.b y.m y.d rs' ws' _ (h.tx.later H0.out.bel) (h'.tx.later H0.out.bel) hn hm
  obtain ⟨x0, x1, x2, x3, x4, x5, x6, x7, x8, x9⟩ := (H0.out.get 1 _ _ _ rfl).ten
  obtain ⟨y0, y1, y2, y3, y4, y5, y6, y7, y8, y9⟩ := (H0.out.get 0 _ _ _ rfl).ten
  clear h h'
  unfold sameC
  cases q1 : (x.k == y.k)
  · clear cS
    go_enter Tryz.func54, Tryz.ntmps54
    go_wp2
    go_ret
    exact ⟨rfl, H0.out.bel⟩
  cases hS : sameM (x.s, x.q) (y.s, y.q) rs rs' ws ws'
  · rw [hS] at cS
    go_enter Tryz.func54, Tryz.ntmps54
    go_wp2_with (go_at_call 95; ((with_reducible refine cS.mono ?_); rintro e w1 ⟨rfl, hb1⟩; have H1 := Lib.hid (H0.out.below hb1)))
    go_ret
    exact ⟨rfl, H1.out.bel⟩
  rw [hS] at cS
  rcases id_cases x.i x.j y.i y.j with ⟨e, q2, q3⟩ | ⟨e, q2⟩ | ⟨e, q2, q3⟩
  · rw [e]
    cases q4 : (x.g == y.g)
    · go_enter Tryz.func54, Tryz.ntmps54
      go_wp2_with (go_at_call 95; ((with_reducible refine cS.mono ?_); rintro e w1 ⟨rfl, hb1⟩; have H1 := Lib.hid (H0.out.below hb1); (clear x0 x1 x2 x3 x4 x5 x6 x7 x8 x9 y0 y1 y2 y3 y4 y5 y6 y7 y8 y9); obtain ⟨x0, x1, x2, x3, x4, x5, x6, x7, x8, x9⟩ := (H1.out.get 1 _ _ _ rfl).ten; obtain ⟨y0, y1, y2, y3, y4, y5, y6, y7, y8, y9⟩ := (H1.out.get 0 _ _ _ rfl).ten))
      go_ret
      exact ⟨rfl, H1.out.bel⟩
    cases q5 : (((x.st : Nat) : Int) == ((y.st : Nat) : Int))
    · go_enter Tryz.func54, Tryz.ntmps54
      go_wp2_with (go_at_call 95; ((with_reducible refine cS.mono ?_); rintro e w1 ⟨rfl, hb1⟩; have H1 := Lib.hid (H0.out.below hb1); (clear x0 x1 x2 x3 x4 x5 x6 x7 x8 x9 y0 y1 y2 y3 y4 y5 y6 y7 y8 y9); obtain ⟨x0, x1, x2, x3, x4, x5, x6, x7, x8, x9⟩ := (H1.out.get 1 _ _ _ rfl).ten; obtain ⟨y0, y1, y2, y3, y4, y5, y6, y7, y8, y9⟩ := (H1.out.get 0 _ _ _ rfl).ten))
      go_ret
      exact ⟨rfl, H1.out.bel⟩
    go_enter Tryz.func54, Tryz.ntmps54
    go_wp2_with (go_at_call 95; ((with_reducible refine cS.mono ?_); rintro e w1 ⟨rfl, hb1⟩; have H1 := Lib.hid (H0.out.below hb1); (clear x0 x1 x2 x3 x4 x5 x6 x7 x8 x9 y0 y1 y2 y3 y4 y5 y6 y7 y8 y9); obtain ⟨x0, x1, x2, x3, x4, x5, x6, x7, x8, x9⟩ := (H1.out.get 1 _ _ _ rfl).ten; obtain ⟨y0, y1, y2, y3, y4, y5, y6, y7, y8, y9⟩ := (H1.out.get 0 _ _ _ rfl).ten))
    go_ret
    exact ⟨rfl, H1.out.bel⟩
  · rw [e]
    go_enter Tryz.func54, Tryz.ntmps54
    go_wp2_with (go_at_call 95; ((with_reducible refine cS.mono ?_); rintro e w1 ⟨rfl, hb1⟩; have H1 := Lib.hid (H0.out.below hb1); (clear x0 x1 x2 x3 x4 x5 x6 x7 x8 x9 y0 y1 y2 y3 y4 y5 y6 y7 y8 y9); obtain ⟨x0, x1, x2, x3, x4, x5, x6, x7, x8, x9⟩ := (H1.out.get 1 _ _ _ rfl).ten; obtain ⟨y0, y1, y2, y3, y4, y5, y6, y7, y8, y9⟩ := (H1.out.get 0 _ _ _ rfl).ten))
    go_ret
    exact ⟨rfl, H1.out.bel⟩
  · rw [e]
    go_enter Tryz.func54, Tryz.ntmps54
    go_wp2_with (go_at_call 95; ((with_reducible refine cS.mono ?_); rintro e w1 ⟨rfl, hb1⟩; have H1 := Lib.hid (H0.out.below hb1); (clear x0 x1 x2 x3 x4 x5 x6 x7 x8 x9 y0 y1 y2 y3 y4 y5 y6 y7 y8 y9); obtain ⟨x0, x1, x2, x3, x4, x5, x6, x7, x8, x9⟩ := (H1.out.get 1 _ _ _ rfl).ten; obtain ⟨y0, y1, y2, y3, y4, y5, y6, y7, y8, y9⟩ := (H1.out.get 0 _ _ _ rfl).ten))
    go_ret
    exact ⟨rfl, H1.out.bel⟩

set_option maxRecDepth 100000 in
set_option maxHeartbeats 2000000 in
theorem dSame_any (x y : CmM) (rs rs' : List RdM) (ws ws' : List WrM) (w : World) (h : CmAt w x rs ws) (h' : CmAt w y rs' ws') (hn : x.n ≤ 1000000) (hm : x.m ≤ 1000000) :
    Calls Tryz.prog 51 #[.agg (cmV x), .agg (cmV y)] w (Says w (sameC x y rs rs' ws ws')) := by
  have H0 := Lib.hid (((Boxs.start w).more (cmV x) 45).more (cmV y) 45)
  have hs : (w.alloc (.cells (cmV x) 45)).heap.size = w.heap.size + 1 := by simp
  rw [hs] at H0
  have cS := rSame_any x.s x.q x.a x.n x.c x.b x.m x.d rs ws y.s y.q y.a y.n y.c y.b y.m y.d rs' ws' _ (h.tx.later H0.out.bel) (h'.tx.later H0.out.bel) hn hm
  obtain ⟨x0, x1, x2, x3, x4, x5, x6, x7, x8, x9⟩ := (H0.out.get 1 _ _ _ rfl).ten
  obtain ⟨y0, y1, y2, y3, y4, y5, y6, y7, y8, y9⟩ := (H0.out.get 0 _ _ _ rfl).ten
  clear h h'
  rw [sameC_doc]
  cases q1 : (x.k == y.k)
  · clear cS
    go_enter Tryz.func51, Tryz.ntmps51
    go_wp2
    go_ret
    exact ⟨rfl, H0.out.bel⟩
  rcases id_cases x.i x.j y.i y.j with ⟨e, q2, q3⟩ | ⟨e, q2⟩ | ⟨e, q2, q3⟩
  · rw [e]
    cases q4 : (x.g == y.g)
    · clear cS
      go_enter Tryz.func51, Tryz.ntmps51
      go_wp2
      go_ret
      exact ⟨rfl, H0.out.bel⟩
    cases q5 : (((x.st : Nat) : Int) == ((y.st : Nat) : Int))
    · clear cS
      go_enter Tryz.func51, Tryz.ntmps51
      go_wp2
      go_ret
      exact ⟨rfl, H0.out.bel⟩
    cases q6 : (x.y == y.y)
    · clear cS
      go_enter Tryz.func51, Tryz.ntmps51
      go_wp2
      go_ret
      exact ⟨rfl, H0.out.bel⟩
    go_enter Tryz.func51, Tryz.ntmps51
    go_wp2_with (go_at_call 92; ((with_reducible refine cS.mono ?_); rintro e w1 ⟨rfl, hb1⟩; have H1 := Lib.hid (H0.out.below hb1)))
    go_ret
    exact ⟨rfl, H1.out.bel⟩
  · rw [e]
    clear cS
    go_enter Tryz.func51, Tryz.ntmps51
    go_wp2
    go_ret
    exact ⟨rfl, H0.out.bel⟩
  · rw [e]
    clear cS
    go_enter Tryz.func51, Tryz.ntmps51
    go_wp2
    go_ret
    exact ⟨rfl, H0.out.bel⟩

set_option maxRecDepth 100000 in
set_option maxHeartbeats 2000000 in
theorem kNamed_any (x : CmM) (w : World) : Calls Tryz.prog 89 #[.agg (cmV x)] w fun e w' => e = .returned (.agg (cmV (namedM x))) ∧ Below w.heap.size w w' := by
  have H0 := Lib.hid (((Boxs.start w).more (cmV x) 33).more (cmV zeroM) 33)
  have hs : (w.alloc (.cells (cmV x) 33)).heap.size = w.heap.size + 1 := by simp
  rw [hs] at H0
  unfold namedM
  by_cases h1 : x.k = 1
  · rw [if_pos h1]
    have q1 : (x.k == 1) = true := by simp; omega
    go_enter Tryz.func89, Tryz.ntmps89
    go_upto_region 1 with (fail)
    generalize (w.alloc (.cells (cmV x) 33)).alloc (.cells (cmV zeroM) 33) = W0 at *
    obtain ⟨x0, x1, x2, x3, x4, x5, x6, x7, x8, x9⟩ := (H0.out.get 1 _ _ _ rfl).ten
    obtain ⟨z0, z1, z2, z3, z4, z5, z6, z7, z8, z9⟩ := (H0.out.get 0 _ _ _ rfl).ten
    have f0 := (H0.out.get 0 _ _ _ rfl).frozen 0; have f1 := (H0.out.get 0 _ _ _ rfl).frozen 1; have f2 := (H0.out.get 0 _ _ _ rfl).frozen 2; have f3 := (H0.out.get 0 _ _ _ rfl).frozen 3; have f4 := (H0.out.get 0 _ _ _ rfl).frozen 4; have f5 := (H0.out.get 0 _ _ _ rfl).frozen 5; have f6 := (H0.out.get 0 _ _ _ rfl).frozen 6; have f7 := (H0.out.get 0 _ _ _ rfl).frozen 7; have f8 := (H0.out.get 0 _ _ _ rfl).frozen 8; have f9 := (H0.out.get 0 _ _ _ rfl).frozen 9
    go_wp2
    exact bodyPost_ret (v := .agg (cmV ⟨1, x.s, x.q, x.a, x.n, x.c, x.b, x.m, x.d, 0, 0, 0, 0, false⟩)) (by simp [results, Tryz.results89, go_sem, z0, z1, z2, z3, z4, z5, z6, z7, z8, z9]) rfl ⟨rfl, ((((((((((H0.out.bel.setCell (by simp) _).setCell (by simp) _).setCell (by simp) _).setCell (by simp) _).setCell (by simp) _).setCell (by simp) _).setCell (by simp) _).setCell (by simp) _).setCell (by simp) _).setCell (by simp) _)⟩
  by_cases h2 : x.k = 2
  · rw [if_neg h1, if_pos h2]
    have q1 : (x.k == 1) = false := by simp; omega
    have q2 : (x.k == 2) = true := by simp; omega
    go_enter Tryz.func89, Tryz.ntmps89
    go_upto_region 1 with (fail)
    generalize (w.alloc (.cells (cmV x) 33)).alloc (.cells (cmV zeroM) 33) = W0 at *
    obtain ⟨x0, x1, x2, x3, x4, x5, x6, x7, x8, x9⟩ := (H0.out.get 1 _ _ _ rfl).ten
    obtain ⟨z0, z1, z2, z3, z4, z5, z6, z7, z8, z9⟩ := (H0.out.get 0 _ _ _ rfl).ten
    have f0 := (H0.out.get 0 _ _ _ rfl).frozen 0; have f1 := (H0.out.get 0 _ _ _ rfl).frozen 1; have f2 := (H0.out.get 0 _ _ _ rfl).frozen 2; have f3 := (H0.out.get 0 _ _ _ rfl).frozen 3; have f4 := (H0.out.get 0 _ _ _ rfl).frozen 4; have f5 := (H0.out.get 0 _ _ _ rfl).frozen 5; have f6 := (H0.out.get 0 _ _ _ rfl).frozen 6; have f7 := (H0.out.get 0 _ _ _ rfl).frozen 7; have f8 := (H0.out.get 0 _ _ _ rfl).frozen 8; have f9 := (H0.out.get 0 _ _ _ rfl).frozen 9
    go_wp2
    exact bodyPost_ret (v := .agg (cmV ⟨2, 0, 0, none, 0, 0, none, 0, 0, x.i, x.j, x.g, x.st, false⟩)) (by simp [results, Tryz.results89, go_sem, z0, z1, z2, z3, z4, z5, z6, z7, z8, z9]) rfl ⟨rfl, ((((((((((H0.out.bel.setCell (by simp) _).setCell (by simp) _).setCell (by simp) _).setCell (by simp) _).setCell (by simp) _).setCell (by simp) _).setCell (by simp) _).setCell (by simp) _).setCell (by simp) _).setCell (by simp) _)⟩
  by_cases h3 : x.k = 3
  · rw [if_neg h1, if_neg h2, if_pos h3]
    have q1 : (x.k == 1) = false := by simp; omega
    have q2 : (x.k == 2) = false := by simp; omega
    have q3 : (x.k == 3) = true := by simp; omega
    go_enter Tryz.func89, Tryz.ntmps89
    go_upto_region 1 with (fail)
    generalize (w.alloc (.cells (cmV x) 33)).alloc (.cells (cmV zeroM) 33) = W0 at *
    obtain ⟨x0, x1, x2, x3, x4, x5, x6, x7, x8, x9⟩ := (H0.out.get 1 _ _ _ rfl).ten
    obtain ⟨z0, z1, z2, z3, z4, z5, z6, z7, z8, z9⟩ := (H0.out.get 0 _ _ _ rfl).ten
    have f0 := (H0.out.get 0 _ _ _ rfl).frozen 0; have f1 := (H0.out.get 0 _ _ _ rfl).frozen 1; have f2 := (H0.out.get 0 _ _ _ rfl).frozen 2; have f3 := (H0.out.get 0 _ _ _ rfl).frozen 3; have f4 := (H0.out.get 0 _ _ _ rfl).frozen 4; have f5 := (H0.out.get 0 _ _ _ rfl).frozen 5; have f6 := (H0.out.get 0 _ _ _ rfl).frozen 6; have f7 := (H0.out.get 0 _ _ _ rfl).frozen 7; have f8 := (H0.out.get 0 _ _ _ rfl).frozen 8; have f9 := (H0.out.get 0 _ _ _ rfl).frozen 9
    go_wp2
    exact bodyPost_ret (v := .agg (cmV ⟨3, 0, 0, none, 0, 0, none, 0, 0, x.i, x.j, x.g, 0, x.y⟩)) (by simp [results, Tryz.results89, go_sem, z0, z1, z2, z3, z4, z5, z6, z7, z8, z9]) rfl ⟨rfl, ((((((((((H0.out.bel.setCell (by simp) _).setCell (by simp) _).setCell (by simp) _).setCell (by simp) _).setCell (by simp) _).setCell (by simp) _).setCell (by simp) _).setCell (by simp) _).setCell (by simp) _).setCell (by simp) _)⟩
  rw [if_neg h1, if_neg h2, if_neg h3]
  have q1 : (x.k == 1) = false := by simp; omega
  have q2 : (x.k == 2) = false := by simp; omega
  have q3 : (x.k == 3) = false := by simp; omega
  go_enter Tryz.func89, Tryz.ntmps89
  go_upto_region 1 with (fail)
  generalize (w.alloc (.cells (cmV x) 33)).alloc (.cells (cmV zeroM) 33) = W0 at *
  obtain ⟨x0, x1, x2, x3, x4, x5, x6, x7, x8, x9⟩ := (H0.out.get 1 _ _ _ rfl).ten
  obtain ⟨z0, z1, z2, z3, z4, z5, z6, z7, z8, z9⟩ := (H0.out.get 0 _ _ _ rfl).ten
  have f0 := (H0.out.get 0 _ _ _ rfl).frozen 0; have f1 := (H0.out.get 0 _ _ _ rfl).frozen 1; have f2 := (H0.out.get 0 _ _ _ rfl).frozen 2; have f3 := (H0.out.get 0 _ _ _ rfl).frozen 3; have f4 := (H0.out.get 0 _ _ _ rfl).frozen 4; have f5 := (H0.out.get 0 _ _ _ rfl).frozen 5; have f6 := (H0.out.get 0 _ _ _ rfl).frozen 6; have f7 := (H0.out.get 0 _ _ _ rfl).frozen 7; have f8 := (H0.out.get 0 _ _ _ rfl).frozen 8; have f9 := (H0.out.get 0 _ _ _ rfl).frozen 9
  go_wp2
  exact bodyPost_ret (v := .agg (cmV zeroM)) (by simp [results, Tryz.results89, go_sem, z0, z1, z2, z3, z4, z5, z6, z7, z8, z9]) rfl ⟨rfl, ((((((((((H0.out.bel.setCell (by simp) _).setCell (by simp) _).setCell (by simp) _).setCell (by simp) _).setCell (by simp) _).setCell (by simp) _).setCell (by simp) _).setCell (by simp) _).setCell (by simp) _).setCell (by simp) _)⟩

set_option maxRecDepth 100000 in
set_option maxHeartbeats 1000000 in
theorem kSource_any (x : CmM) (w : World) : Calls Tryz.prog 91 #[.agg (cmV x)] w (Says w (srcB x)) := by
  have H0 := Lib.hid ((Boxs.start w).more (cmV x) 33)
  have cI := fun W => tId_any x.i x.j W
  obtain ⟨x0, x1, x2, x3, x4, x5, x6, x7, x8, x9⟩ := (H0.out.get 0 _ _ _ rfl).ten
  unfold srcB
  cases hI : idB (x.i, x.j)
  · rw [hI] at cI
    go_enter Tryz.func91, Tryz.ntmps91
    go_wp2_with (go_at_call 117; ((with_reducible refine (cI _).mono ?_); rintro e w1 ⟨rfl, hb1⟩; have H1 := Lib.hid (H0.out.below hb1)))
    go_ret
    exact ⟨rfl, H1.out.bel⟩
  rw [hI] at cI
  by_cases h1 : 0 ≤ x.g
  · rw [decide_eq_true h1]
    go_enter Tryz.func91, Tryz.ntmps91
    go_wp2_with (go_at_call 117; ((with_reducible refine (cI _).mono ?_); rintro e w1 ⟨rfl, hb1⟩; have H1 := Lib.hid (H0.out.below hb1); (clear x0 x1 x2 x3 x4 x5 x6 x7 x8 x9); obtain ⟨x0, x1, x2, x3, x4, x5, x6, x7, x8, x9⟩ := (H1.out.get 0 _ _ _ rfl).ten))
    go_ret
    exact ⟨rfl, H1.out.bel⟩
  · rw [decide_eq_false h1]
    go_enter Tryz.func91, Tryz.ntmps91
    go_wp2_with (go_at_call 117; ((with_reducible refine (cI _).mono ?_); rintro e w1 ⟨rfl, hb1⟩; have H1 := Lib.hid (H0.out.below hb1); (clear x0 x1 x2 x3 x4 x5 x6 x7 x8 x9); obtain ⟨x0, x1, x2, x3, x4, x5, x6, x7, x8, x9⟩ := (H1.out.get 0 _ _ _ rfl).ten))
    go_ret
    exact ⟨rfl, H1.out.bel⟩

set_option maxHeartbeats 1000000 in
theorem dFew_any (x : CmM) (rs : List RdM) (ws : List WrM) (w : World) (h : CmAt w x rs ws) : Calls Tryz.prog 72 #[.agg (cmV x)] w (Says w (fewT rs ws)) := by
  have H0 := Lib.hid ((Boxs.start w).more (cmV x) 45)
  have cF := rFewT_any x.s x.q x.a x.n x.c x.b x.m x.d rs ws _ (h.tx.later H0.out.bel)
  obtain ⟨x0, x1, x2, x3, x4, x5, x6, x7, x8, x9⟩ := (H0.out.get 0 _ _ _ rfl).ten
  generalize fewT rs ws = B at *
  clear h
  go_enter Tryz.func72, Tryz.ntmps72
  go_wp2_with (go_at_call 102; ((with_reducible refine cF.mono ?_); rintro e w1 ⟨rfl, hb1⟩; have H1 := Lib.hid (H0.out.below hb1)))
  go_ret
  exact ⟨rfl, H1.out.bel⟩
end Go.Proofs.YtcfmifongbapkaaGreatDoor

/- CommandFormed -/
namespace Go.Proofs.YtcfmifongbapkaaGreatDoor

open Go.RowKit

set_option linter.unusedVariables false

set_option maxRecDepth 100000 in
set_option maxHeartbeats 4000000 in
theorem kFormed_any (x : CmM) (rs : List RdM) (ws : List WrM) (w : World) (h : CmAt w x rs ws) (hn : x.n ≤ 1000000) (hm : x.m ≤ 1000000) (hU : Tabs w) :
    Calls Tryz.prog 50 #[.agg (cmV x)] w (Says w (formCm (cmT x rs ws))) := by
  have H0 := Lib.hid ((Boxs.start w).more (cmV x) 33)
  have cN := fun W => kNamed_any x W
  have cS : ∀ W, Below w.heap.size w W → Calls Tryz.prog 54 #[.agg (cmV x), .agg (cmV (namedM x))] W (Says W (cleanB x rs ws)) := fun W hW => kSame_any x (namedM x) rs (namedL x rs) ws (namedL x ws) W (h.later hW) ((named_at h).later hW) hn hm
  have cF := fun W (hW : Below w.heap.size w W) => tFormed_any x.s x.q x.a x.n x.c x.b x.m x.d rs ws W (h.tx.later hW) (hU.below hW)
  have cO := fun W => kSource_any x W
  obtain ⟨x0, x1, x2, x3, x4, x5, x6, x7, x8, x9⟩ := (H0.out.get 0 _ _ _ rfl).ten
  clear h hU
  generalize namedM x = y at *
  cases hc : cleanB x rs ws
  · rw [hc] at cS
    have Q := Lib.hid (form_clean hc)
    clear hc cF cO
    go_enter Tryz.func50, Tryz.ntmps50
    go_upto_region 1 with (fail)
    have X0 := Lib.hid H0.out.drew
    have s0 := (X0.out.get 0 _ _ _ rfl).ten
    (clear x0 x1 x2 x3 x4 x5 x6 x7 x8 x9)
    go_region_held3 (fun W => (W.cell? ⟨w.heap.size, 0, none⟩ = some (.int .i64 x.k) ∧ W.cell? ⟨w.heap.size, 1, none⟩ = some (.int .i64 x.s) ∧ W.cell? ⟨w.heap.size, 2, none⟩ = some (.int .i64 x.q) ∧ W.cell? ⟨w.heap.size, 3, none⟩ = some (.slice x.a x.n x.c) ∧ W.cell? ⟨w.heap.size, 4, none⟩ = some (.slice x.b x.m x.d) ∧ W.cell? ⟨w.heap.size, 5, none⟩ = some (.int .i64 x.i) ∧ W.cell? ⟨w.heap.size, 6, none⟩ = some (.int .i64 x.j) ∧ W.cell? ⟨w.heap.size, 7, none⟩ = some (.int .i64 x.g) ∧ W.cell? ⟨w.heap.size, 8, none⟩ = some (.int .u64 ((x.st : Nat) : Int)) ∧ W.cell? ⟨w.heap.size, 9, none⟩ = some (.bool x.y))) (first | (with_reducible exact s0) | (with_reducible exact s1) | (with_reducible exact s2))
      (first | (go_at_call 89; ((with_reducible refine (cN _).mono ?_); rintro e v1 ⟨rfl, hb1⟩; have X1 := Lib.hid (X0.out.below hb1); have s1 := (X1.out.get 0 _ _ _ rfl).ten)) | (go_at_call 54; ((with_reducible refine (cS _ X1.out.bel).mono ?_); rintro e v2 ⟨rfl, hb2⟩; have X2 := Lib.hid (X1.out.below hb2); have s2 := (X2.out.get 0 _ _ _ rfl).ten)))
    obtain ⟨x0, x1, x2, x3, x4, x5, x6, x7, x8, x9⟩ := (X2.out.get 0 _ _ _ rfl).ten
    (clear s0 s1 s2 X0 X1)
    go_wp2
    go_ret
    exact ⟨by rw [Q.out]; rfl, X2.out.bel⟩
  rw [hc] at cS
  rcases clean_kind hc with h0 | h1 | h2 | h3
  · have Q := Lib.hid (form_zero hc h0)
    clear hc cF cO
    have q1 : (x.k == 1) = false := by simp; omega
    have q2 : (x.k == 2) = false := by simp; omega
    have q3 : (x.k == 3) = false := by simp; omega
    clear h0
    go_enter Tryz.func50, Tryz.ntmps50
    go_upto_region 1 with (fail)
    have X0 := Lib.hid H0.out.drew
    have s0 := (X0.out.get 0 _ _ _ rfl).ten
    (clear x0 x1 x2 x3 x4 x5 x6 x7 x8 x9)
    go_region_held3 (fun W => (W.cell? ⟨w.heap.size, 0, none⟩ = some (.int .i64 x.k) ∧ W.cell? ⟨w.heap.size, 1, none⟩ = some (.int .i64 x.s) ∧ W.cell? ⟨w.heap.size, 2, none⟩ = some (.int .i64 x.q) ∧ W.cell? ⟨w.heap.size, 3, none⟩ = some (.slice x.a x.n x.c) ∧ W.cell? ⟨w.heap.size, 4, none⟩ = some (.slice x.b x.m x.d) ∧ W.cell? ⟨w.heap.size, 5, none⟩ = some (.int .i64 x.i) ∧ W.cell? ⟨w.heap.size, 6, none⟩ = some (.int .i64 x.j) ∧ W.cell? ⟨w.heap.size, 7, none⟩ = some (.int .i64 x.g) ∧ W.cell? ⟨w.heap.size, 8, none⟩ = some (.int .u64 ((x.st : Nat) : Int)) ∧ W.cell? ⟨w.heap.size, 9, none⟩ = some (.bool x.y))) (first | (with_reducible exact s0) | (with_reducible exact s1) | (with_reducible exact s2))
      (first | (go_at_call 89; ((with_reducible refine (cN _).mono ?_); rintro e v1 ⟨rfl, hb1⟩; have X1 := Lib.hid (X0.out.below hb1); have s1 := (X1.out.get 0 _ _ _ rfl).ten)) | (go_at_call 54; ((with_reducible refine (cS _ X1.out.bel).mono ?_); rintro e v2 ⟨rfl, hb2⟩; have X2 := Lib.hid (X1.out.below hb2); have s2 := (X2.out.get 0 _ _ _ rfl).ten)))
    obtain ⟨x0, x1, x2, x3, x4, x5, x6, x7, x8, x9⟩ := (X2.out.get 0 _ _ _ rfl).ten
    (clear s0 s1 s2 X0 X1)
    go_wp2
    go_ret
    exact ⟨by rw [Q.out]; rfl, X2.out.bel⟩
  · have Q := Lib.hid (form_begin hc h1)
    clear hc cO
    generalize formT formedB (txT (x.s, x.q) rs ws) = B at *
    have q1 : (x.k == 1) = true := by simp; omega
    clear h1
    go_enter Tryz.func50, Tryz.ntmps50
    go_upto_region 1 with (fail)
    have X0 := Lib.hid H0.out.drew
    have s0 := (X0.out.get 0 _ _ _ rfl).ten
    (clear x0 x1 x2 x3 x4 x5 x6 x7 x8 x9)
    go_region_held3 (fun W => (W.cell? ⟨w.heap.size, 0, none⟩ = some (.int .i64 x.k) ∧ W.cell? ⟨w.heap.size, 1, none⟩ = some (.int .i64 x.s) ∧ W.cell? ⟨w.heap.size, 2, none⟩ = some (.int .i64 x.q) ∧ W.cell? ⟨w.heap.size, 3, none⟩ = some (.slice x.a x.n x.c) ∧ W.cell? ⟨w.heap.size, 4, none⟩ = some (.slice x.b x.m x.d) ∧ W.cell? ⟨w.heap.size, 5, none⟩ = some (.int .i64 x.i) ∧ W.cell? ⟨w.heap.size, 6, none⟩ = some (.int .i64 x.j) ∧ W.cell? ⟨w.heap.size, 7, none⟩ = some (.int .i64 x.g) ∧ W.cell? ⟨w.heap.size, 8, none⟩ = some (.int .u64 ((x.st : Nat) : Int)) ∧ W.cell? ⟨w.heap.size, 9, none⟩ = some (.bool x.y))) (first | (with_reducible exact s0) | (with_reducible exact s1) | (with_reducible exact s2))
      (first | (go_at_call 89; ((with_reducible refine (cN _).mono ?_); rintro e v1 ⟨rfl, hb1⟩; have X1 := Lib.hid (X0.out.below hb1); have s1 := (X1.out.get 0 _ _ _ rfl).ten)) | (go_at_call 54; ((with_reducible refine (cS _ X1.out.bel).mono ?_); rintro e v2 ⟨rfl, hb2⟩; have X2 := Lib.hid (X1.out.below hb2); have s2 := (X2.out.get 0 _ _ _ rfl).ten)))
    obtain ⟨x0, x1, x2, x3, x4, x5, x6, x7, x8, x9⟩ := (X2.out.get 0 _ _ _ rfl).ten
    (clear s0 s1 s2 X0 X1)
    go_wp2_with (go_at_call 90; ((with_reducible refine (cF _ X2.out.bel).mono ?_); rintro e w3 ⟨rfl, hb3⟩; have X3 := Lib.hid (X2.out.below hb3)))
    go_ret
    exact ⟨by rw [Q.out]; rfl, X3.out.bel⟩
  · have Q := Lib.hid (form_stamp hc h2)
    clear hc cF
    generalize srcB x = B at *
    cases B
    · have q1 : (x.k == 1) = false := by simp; omega
      have q2 : (x.k == 2) = true := by simp; omega
      clear h2
      go_enter Tryz.func50, Tryz.ntmps50
      go_upto_region 1 with (fail)
      have X0 := Lib.hid H0.out.drew
      have s0 := (X0.out.get 0 _ _ _ rfl).ten
      (clear x0 x1 x2 x3 x4 x5 x6 x7 x8 x9)
      go_region_held3 (fun W => (W.cell? ⟨w.heap.size, 0, none⟩ = some (.int .i64 x.k) ∧ W.cell? ⟨w.heap.size, 1, none⟩ = some (.int .i64 x.s) ∧ W.cell? ⟨w.heap.size, 2, none⟩ = some (.int .i64 x.q) ∧ W.cell? ⟨w.heap.size, 3, none⟩ = some (.slice x.a x.n x.c) ∧ W.cell? ⟨w.heap.size, 4, none⟩ = some (.slice x.b x.m x.d) ∧ W.cell? ⟨w.heap.size, 5, none⟩ = some (.int .i64 x.i) ∧ W.cell? ⟨w.heap.size, 6, none⟩ = some (.int .i64 x.j) ∧ W.cell? ⟨w.heap.size, 7, none⟩ = some (.int .i64 x.g) ∧ W.cell? ⟨w.heap.size, 8, none⟩ = some (.int .u64 ((x.st : Nat) : Int)) ∧ W.cell? ⟨w.heap.size, 9, none⟩ = some (.bool x.y))) (first | (with_reducible exact s0) | (with_reducible exact s1) | (with_reducible exact s2))
        (first | (go_at_call 89; ((with_reducible refine (cN _).mono ?_); rintro e v1 ⟨rfl, hb1⟩; have X1 := Lib.hid (X0.out.below hb1); have s1 := (X1.out.get 0 _ _ _ rfl).ten)) | (go_at_call 54; ((with_reducible refine (cS _ X1.out.bel).mono ?_); rintro e v2 ⟨rfl, hb2⟩; have X2 := Lib.hid (X1.out.below hb2); have s2 := (X2.out.get 0 _ _ _ rfl).ten)))
      obtain ⟨x0, x1, x2, x3, x4, x5, x6, x7, x8, x9⟩ := (X2.out.get 0 _ _ _ rfl).ten
      (clear s0 s1 s2 X0 X1)
      go_wp2_with (go_at_call 91; ((with_reducible refine (cO _).mono ?_); rintro e w3 ⟨rfl, hb3⟩; have X3 := Lib.hid (X2.out.below hb3)))
      go_ret
      exact ⟨by rw [Q.out]; rfl, X3.out.bel⟩
    · by_cases h4 : 1 ≤ x.st
      · rw [decide_eq_true h4] at Q
        have i4 : (1 : Int) ≤ ((x.st : Nat) : Int) := by omega
        by_cases h5 : x.st ≤ 9223372036854775807
        · rw [decide_eq_true h5] at Q
          have i5 : ((x.st : Nat) : Int) ≤ 9223372036854775807 := by omega
          have q1 : (x.k == 1) = false := by simp; omega
          have q2 : (x.k == 2) = true := by simp; omega
          clear h2
          go_enter Tryz.func50, Tryz.ntmps50
          go_upto_region 1 with (fail)
          have X0 := Lib.hid H0.out.drew
          have s0 := (X0.out.get 0 _ _ _ rfl).ten
          (clear x0 x1 x2 x3 x4 x5 x6 x7 x8 x9)
          go_region_held3 (fun W => (W.cell? ⟨w.heap.size, 0, none⟩ = some (.int .i64 x.k) ∧ W.cell? ⟨w.heap.size, 1, none⟩ = some (.int .i64 x.s) ∧ W.cell? ⟨w.heap.size, 2, none⟩ = some (.int .i64 x.q) ∧ W.cell? ⟨w.heap.size, 3, none⟩ = some (.slice x.a x.n x.c) ∧ W.cell? ⟨w.heap.size, 4, none⟩ = some (.slice x.b x.m x.d) ∧ W.cell? ⟨w.heap.size, 5, none⟩ = some (.int .i64 x.i) ∧ W.cell? ⟨w.heap.size, 6, none⟩ = some (.int .i64 x.j) ∧ W.cell? ⟨w.heap.size, 7, none⟩ = some (.int .i64 x.g) ∧ W.cell? ⟨w.heap.size, 8, none⟩ = some (.int .u64 ((x.st : Nat) : Int)) ∧ W.cell? ⟨w.heap.size, 9, none⟩ = some (.bool x.y))) (first | (with_reducible exact s0) | (with_reducible exact s1) | (with_reducible exact s2))
            (first | (go_at_call 89; ((with_reducible refine (cN _).mono ?_); rintro e v1 ⟨rfl, hb1⟩; have X1 := Lib.hid (X0.out.below hb1); have s1 := (X1.out.get 0 _ _ _ rfl).ten)) | (go_at_call 54; ((with_reducible refine (cS _ X1.out.bel).mono ?_); rintro e v2 ⟨rfl, hb2⟩; have X2 := Lib.hid (X1.out.below hb2); have s2 := (X2.out.get 0 _ _ _ rfl).ten)))
          obtain ⟨x0, x1, x2, x3, x4, x5, x6, x7, x8, x9⟩ := (X2.out.get 0 _ _ _ rfl).ten
          (clear s0 s1 s2 X0 X1)
          go_wp2_with (go_at_call 91; ((with_reducible refine (cO _).mono ?_); rintro e w3 ⟨rfl, hb3⟩; have X3 := Lib.hid (X2.out.below hb3); (clear x0 x1 x2 x3 x4 x5 x6 x7 x8 x9); obtain ⟨x0, x1, x2, x3, x4, x5, x6, x7, x8, x9⟩ := (X3.out.get 0 _ _ _ rfl).ten))
          go_ret
          exact ⟨by rw [Q.out]; rfl, X3.out.bel⟩
        · rw [decide_eq_false h5] at Q
          have i5 : ¬ ((x.st : Nat) : Int) ≤ 9223372036854775807 := by omega
          have i6 : decide (((x.st : Nat) : Int) ≤ 9223372036854775807) = false := decide_eq_false i5
          have q1 : (x.k == 1) = false := by simp; omega
          have q2 : (x.k == 2) = true := by simp; omega
          clear h2
          go_enter Tryz.func50, Tryz.ntmps50
          go_upto_region 1 with (fail)
          have X0 := Lib.hid H0.out.drew
          have s0 := (X0.out.get 0 _ _ _ rfl).ten
          (clear x0 x1 x2 x3 x4 x5 x6 x7 x8 x9)
          go_region_held3 (fun W => (W.cell? ⟨w.heap.size, 0, none⟩ = some (.int .i64 x.k) ∧ W.cell? ⟨w.heap.size, 1, none⟩ = some (.int .i64 x.s) ∧ W.cell? ⟨w.heap.size, 2, none⟩ = some (.int .i64 x.q) ∧ W.cell? ⟨w.heap.size, 3, none⟩ = some (.slice x.a x.n x.c) ∧ W.cell? ⟨w.heap.size, 4, none⟩ = some (.slice x.b x.m x.d) ∧ W.cell? ⟨w.heap.size, 5, none⟩ = some (.int .i64 x.i) ∧ W.cell? ⟨w.heap.size, 6, none⟩ = some (.int .i64 x.j) ∧ W.cell? ⟨w.heap.size, 7, none⟩ = some (.int .i64 x.g) ∧ W.cell? ⟨w.heap.size, 8, none⟩ = some (.int .u64 ((x.st : Nat) : Int)) ∧ W.cell? ⟨w.heap.size, 9, none⟩ = some (.bool x.y))) (first | (with_reducible exact s0) | (with_reducible exact s1) | (with_reducible exact s2))
            (first | (go_at_call 89; ((with_reducible refine (cN _).mono ?_); rintro e v1 ⟨rfl, hb1⟩; have X1 := Lib.hid (X0.out.below hb1); have s1 := (X1.out.get 0 _ _ _ rfl).ten)) | (go_at_call 54; ((with_reducible refine (cS _ X1.out.bel).mono ?_); rintro e v2 ⟨rfl, hb2⟩; have X2 := Lib.hid (X1.out.below hb2); have s2 := (X2.out.get 0 _ _ _ rfl).ten)))
          obtain ⟨x0, x1, x2, x3, x4, x5, x6, x7, x8, x9⟩ := (X2.out.get 0 _ _ _ rfl).ten
          (clear s0 s1 s2 X0 X1)
          go_wp2_with (go_at_call 91; ((with_reducible refine (cO _).mono ?_); rintro e w3 ⟨rfl, hb3⟩; have X3 := Lib.hid (X2.out.below hb3); (clear x0 x1 x2 x3 x4 x5 x6 x7 x8 x9); obtain ⟨x0, x1, x2, x3, x4, x5, x6, x7, x8, x9⟩ := (X3.out.get 0 _ _ _ rfl).ten))
          go_ret
          exact ⟨by rw [Q.out]; first | rfl | simp, X3.out.bel⟩
      · rw [decide_eq_false h4] at Q
        have i4 : ¬ (1 : Int) ≤ ((x.st : Nat) : Int) := by omega
        have q1 : (x.k == 1) = false := by simp; omega
        have q2 : (x.k == 2) = true := by simp; omega
        clear h2
        go_enter Tryz.func50, Tryz.ntmps50
        go_upto_region 1 with (fail)
        have X0 := Lib.hid H0.out.drew
        have s0 := (X0.out.get 0 _ _ _ rfl).ten
        (clear x0 x1 x2 x3 x4 x5 x6 x7 x8 x9)
        go_region_held3 (fun W => (W.cell? ⟨w.heap.size, 0, none⟩ = some (.int .i64 x.k) ∧ W.cell? ⟨w.heap.size, 1, none⟩ = some (.int .i64 x.s) ∧ W.cell? ⟨w.heap.size, 2, none⟩ = some (.int .i64 x.q) ∧ W.cell? ⟨w.heap.size, 3, none⟩ = some (.slice x.a x.n x.c) ∧ W.cell? ⟨w.heap.size, 4, none⟩ = some (.slice x.b x.m x.d) ∧ W.cell? ⟨w.heap.size, 5, none⟩ = some (.int .i64 x.i) ∧ W.cell? ⟨w.heap.size, 6, none⟩ = some (.int .i64 x.j) ∧ W.cell? ⟨w.heap.size, 7, none⟩ = some (.int .i64 x.g) ∧ W.cell? ⟨w.heap.size, 8, none⟩ = some (.int .u64 ((x.st : Nat) : Int)) ∧ W.cell? ⟨w.heap.size, 9, none⟩ = some (.bool x.y))) (first | (with_reducible exact s0) | (with_reducible exact s1) | (with_reducible exact s2))
          (first | (go_at_call 89; ((with_reducible refine (cN _).mono ?_); rintro e v1 ⟨rfl, hb1⟩; have X1 := Lib.hid (X0.out.below hb1); have s1 := (X1.out.get 0 _ _ _ rfl).ten)) | (go_at_call 54; ((with_reducible refine (cS _ X1.out.bel).mono ?_); rintro e v2 ⟨rfl, hb2⟩; have X2 := Lib.hid (X1.out.below hb2); have s2 := (X2.out.get 0 _ _ _ rfl).ten)))
        obtain ⟨x0, x1, x2, x3, x4, x5, x6, x7, x8, x9⟩ := (X2.out.get 0 _ _ _ rfl).ten
        (clear s0 s1 s2 X0 X1)
        go_wp2_with (go_at_call 91; ((with_reducible refine (cO _).mono ?_); rintro e w3 ⟨rfl, hb3⟩; have X3 := Lib.hid (X2.out.below hb3); (clear x0 x1 x2 x3 x4 x5 x6 x7 x8 x9); obtain ⟨x0, x1, x2, x3, x4, x5, x6, x7, x8, x9⟩ := (X3.out.get 0 _ _ _ rfl).ten))
        go_ret
        exact ⟨by rw [Q.out]; rfl, X3.out.bel⟩
  · have Q := Lib.hid (form_vote hc h3)
    clear hc cF
    generalize srcB x = B at *
    have q1 : (x.k == 1) = false := by simp; omega
    have q2 : (x.k == 2) = false := by simp; omega
    have q3 : (x.k == 3) = true := by simp; omega
    clear h3
    go_enter Tryz.func50, Tryz.ntmps50
    go_upto_region 1 with (fail)
    have X0 := Lib.hid H0.out.drew
    have s0 := (X0.out.get 0 _ _ _ rfl).ten
    (clear x0 x1 x2 x3 x4 x5 x6 x7 x8 x9)
    go_region_held3 (fun W => (W.cell? ⟨w.heap.size, 0, none⟩ = some (.int .i64 x.k) ∧ W.cell? ⟨w.heap.size, 1, none⟩ = some (.int .i64 x.s) ∧ W.cell? ⟨w.heap.size, 2, none⟩ = some (.int .i64 x.q) ∧ W.cell? ⟨w.heap.size, 3, none⟩ = some (.slice x.a x.n x.c) ∧ W.cell? ⟨w.heap.size, 4, none⟩ = some (.slice x.b x.m x.d) ∧ W.cell? ⟨w.heap.size, 5, none⟩ = some (.int .i64 x.i) ∧ W.cell? ⟨w.heap.size, 6, none⟩ = some (.int .i64 x.j) ∧ W.cell? ⟨w.heap.size, 7, none⟩ = some (.int .i64 x.g) ∧ W.cell? ⟨w.heap.size, 8, none⟩ = some (.int .u64 ((x.st : Nat) : Int)) ∧ W.cell? ⟨w.heap.size, 9, none⟩ = some (.bool x.y))) (first | (with_reducible exact s0) | (with_reducible exact s1) | (with_reducible exact s2))
      (first | (go_at_call 89; ((with_reducible refine (cN _).mono ?_); rintro e v1 ⟨rfl, hb1⟩; have X1 := Lib.hid (X0.out.below hb1); have s1 := (X1.out.get 0 _ _ _ rfl).ten)) | (go_at_call 54; ((with_reducible refine (cS _ X1.out.bel).mono ?_); rintro e v2 ⟨rfl, hb2⟩; have X2 := Lib.hid (X1.out.below hb2); have s2 := (X2.out.get 0 _ _ _ rfl).ten)))
    obtain ⟨x0, x1, x2, x3, x4, x5, x6, x7, x8, x9⟩ := (X2.out.get 0 _ _ _ rfl).ten
    (clear s0 s1 s2 X0 X1)
    go_wp2_with (go_at_call 91; ((with_reducible refine (cO _).mono ?_); rintro e w3 ⟨rfl, hb3⟩; have X3 := Lib.hid (X2.out.below hb3)))
    go_ret
    exact ⟨by rw [Q.out]; rfl, X3.out.bel⟩
end Go.Proofs.YtcfmifongbapkaaGreatDoor
