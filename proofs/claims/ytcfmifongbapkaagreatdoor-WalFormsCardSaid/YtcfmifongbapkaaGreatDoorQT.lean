
/- Contract of the document's Formed of commands. Conditions: the command's lists lie in memory, and are no longer than a million. Contracts of ballot.Formed, Less and Next, of the document's own, and of the statements' awake. No condition. -/
import Derived.Test.YtcfmifongbapkaaGreatDoorQP
import Derived.Test.YtcfmifongbapkaaGreatDoorQS
import Derived.Deep.DeepCutAuto
import Derived.Test.YtcfmifongbapkaaGreatDoorQM
import Derived.Test.YtcfmifongbapkaaGreatDoorQF
/- CommandRefFormed -/
namespace Go.Proofs.YtcfmifongbapkaaGreatDoor

open Go.RowKit

set_option linter.unusedVariables false

theorem doc_zero (x : CmM) (rs : List RdM) (ws : List WrM) (h : x.k = 0) : formCm (cmT x rs ws) = sameC x zeroM rs [] ws [] := by
  cases e : sameC x zeroM rs [] ws []
  · refine form_clean ?_
    unfold cleanB namedM namedL
    rw [if_neg (by omega), if_neg (by omega), if_neg (by omega), if_neg (by omega), if_neg (by omega)]; exact e
  · rw [(sameC_iff _ _ _ _ _ _).1 e]; rfl
theorem doc_begin (x : CmM) (rs : List RdM) (ws : List WrM) (h : x.k = 1) : formCm (cmT x rs ws) = (formT formedB (txT (x.s, x.q) rs ws) && (eqB (x.i, x.j) (0, 0) && ((x.g == 0) && ((((x.st : Nat) : Int) == 0) && !x.y)))) := by
  unfold formCm
  have e : (cmT x rs ws).k = 1 := h
  rw [if_neg (by omega), if_pos e, eqB_dec]
  show (formT formedB (txT (x.s, x.q) rs ws) && ((decide ((x.i, x.j) = (0, 0)) && decide (x.g = 0)) && (decide (x.st = 0) && !x.y))) = _
  have e1 : decide (x.g = 0) = (x.g == 0) := rfl
  have e2 : decide (x.st = 0) = (((x.st : Nat) : Int) == 0) := by
    by_cases h : x.st = 0
    · rw [decide_eq_true h, h]; rfl
    · rw [decide_eq_false h]; symm; simpa using h
  rw [e1, e2]
  generalize (x.g == 0) = B1
  generalize (((x.st : Nat) : Int) == 0) = B2
  cases B1 <;> cases B2 <;> simp
theorem doc_stamp (x : CmM) (rs : List RdM) (ws : List WrM) (h : x.k = 2) : formCm (cmT x rs ws) = ((zeroTB (txT (x.s, x.q) rs ws) && srcB x) && (!x.y && (decide ((0 : Int) < ((x.st : Nat) : Int)) && decide (((x.st : Nat) : Int) ≤ 9223372036854775807)))) := by
  unfold formCm
  have e : (cmT x rs ws).k = 2 := h
  rw [if_neg (by omega), if_neg (by omega), if_pos e]
  have e1 : decide ((0 : Int) < ((x.st : Nat) : Int)) = decide (0 < x.st) := by rw [decide_eq_decide]; omega
  have e2 : decide (((x.st : Nat) : Int) ≤ 9223372036854775807) = decide (x.st ≤ 9223372036854775807) := by rw [decide_eq_decide]; omega
  rw [e1, e2]; rfl
theorem doc_vote (x : CmM) (rs : List RdM) (ws : List WrM) (h : x.k = 3) : formCm (cmT x rs ws) = ((zeroTB (txT (x.s, x.q) rs ws) && srcB x) && (((x.st : Nat) : Int) == 0)) := by
  unfold formCm
  have e : (cmT x rs ws).k = 3 := h
  rw [if_neg (by omega), if_neg (by omega), if_neg (by omega), if_pos e]
  have e2 : (((x.st : Nat) : Int) == 0) = decide (x.st = 0) := by
    by_cases h : x.st = 0
    · rw [decide_eq_true h, h]; rfl
    · rw [decide_eq_false h]; simpa using h
  rw [e2]; rfl
theorem doc_none (x : CmM) (rs : List RdM) (ws : List WrM) (h0 : ¬ x.k = 0) (h1 : ¬ x.k = 1) (h2 : ¬ x.k = 2) (h3 : ¬ x.k = 3) : formCm (cmT x rs ws) = false := by
  unfold formCm cmT
  simp only []
  rw [if_neg h0, if_neg h1, if_neg h2, if_neg h3]

set_option maxRecDepth 100000 in
set_option maxHeartbeats 4000000 in
theorem dFormed_any (x : CmM) (rs : List RdM) (ws : List WrM) (w : World) (h : CmAt w x rs ws) (hn : x.n ≤ 1000000) (hm : x.m ≤ 1000000) :
    Calls Tryz.prog 53 #[.agg (cmV x)] w (Says w (formCm (cmT x rs ws))) := by
  have H0 := Lib.hid ((Boxs.start w).more (cmV x) 45)
  have cZ : ∀ W, Below w.heap.size w W → Calls Tryz.prog 92 #[.agg (txV x.s x.q x.a x.n x.c x.b x.m x.d), .agg (txV 0 0 none 0 0 none 0 0)] W (Says W (zeroTB (txT (x.s, x.q) rs ws))) := fun W hW => by
    have h1 := rSame_any x.s x.q x.a x.n x.c x.b x.m x.d rs ws 0 0 none 0 0 none 0 0 [] [] W (h.tx.later hW) TxAt.nil hn hm
    rw [sameM_zero] at h1; exact h1
  have cI := fun W => rId_any x.i x.j W
  have cF := fun W (hW : Below w.heap.size w W) => rFormedT_any x.s x.q x.a x.n x.c x.b x.m x.d rs ws W (h.tx.later hW)
  have cS : ∀ W, Below w.heap.size w W → Calls Tryz.prog 51 #[.agg (cmV x), .agg zeroV] W (Says W (sameC x zeroM rs [] ws [])) := fun W hW => dSame_any x zeroM rs [] ws [] W (h.later hW) CmAt.zero hn hm
  have Q0 := Lib.hid (doc_zero x rs ws)
  have Q1 := Lib.hid (doc_begin x rs ws)
  have Q2 := Lib.hid (doc_stamp x rs ws)
  have Q3 := Lib.hid (doc_vote x rs ws)
  have Q4 := Lib.hid (doc_none x rs ws)
  generalize formT formedB (txT (x.s, x.q) rs ws) = FB at *
  generalize zeroTB (txT (x.s, x.q) rs ws) = Z at *
  generalize sameC x zeroM rs [] ws [] = SB at *
  generalize formCm (cmT x rs ws) = B at *
  obtain ⟨x0, x1, x2, x3, x4, x5, x6, x7, x8, x9⟩ := (H0.out.get 0 _ _ _ rfl).ten
  clear h
  go_enter Tryz.func53, Tryz.ntmps53
  go_upto_region 2 with (go_at_call 92; ((with_reducible refine (cZ _ H0.out.bel).mono ?_); rintro e w1 ⟨rfl, hb1⟩; have H1 := Lib.hid (H0.out.below hb1); (clear x0 x1 x2 x3 x4 x5 x6 x7 x8 x9); obtain ⟨x0, x1, x2, x3, x4, x5, x6, x7, x8, x9⟩ := (H1.out.get 0 _ _ _ rfl).ten))
  go_cut [4] (fun c wr => c = .bool (Z && srcB x) ∧ Boxs w wr [(w.heap.size, cmV x, 45)])
  case first =>
    clear Q0 Q1 Q2 Q3 Q4 cF cS cZ
    cases Z
    · go_wp2
      go_meet
      case rel => exact ⟨rfl, H1.out⟩
    · cases hI : idB (x.i, x.j)
      · rw [hI] at cI
        go_wp2_with (go_at_call 93; ((with_reducible refine (cI _).mono ?_); rintro e w2 ⟨rfl, hb2⟩; have H2 := Lib.hid (H1.out.below hb2)))
        go_meet
        case rel => exact ⟨by unfold srcB; rw [hI]; rfl, H2.out⟩
      · rw [hI] at cI
        by_cases h1 : 0 ≤ x.g
        · go_wp2_with (go_at_call 93; ((with_reducible refine (cI _).mono ?_); rintro e w2 ⟨rfl, hb2⟩; have H2 := Lib.hid (H1.out.below hb2); (clear x0 x1 x2 x3 x4 x5 x6 x7 x8 x9); obtain ⟨x0, x1, x2, x3, x4, x5, x6, x7, x8, x9⟩ := (H2.out.get 0 _ _ _ rfl).ten))
          go_meet
          case rel => exact ⟨by unfold srcB; rw [hI, decide_eq_true (p := 0 ≤ x.g) (by omega)]; rfl, H2.out⟩
        · go_wp2_with (go_at_call 93; ((with_reducible refine (cI _).mono ?_); rintro e w2 ⟨rfl, hb2⟩; have H2 := Lib.hid (H1.out.below hb2); (clear x0 x1 x2 x3 x4 x5 x6 x7 x8 x9); obtain ⟨x0, x1, x2, x3, x4, x5, x6, x7, x8, x9⟩ := (H2.out.get 0 _ _ _ rfl).ten))
          go_meet
          case rel => exact ⟨by unfold srcB; rw [hI, decide_eq_false (p := 0 ≤ x.g) (by omega)]; rfl, H2.out⟩
  case rest =>
  obtain ⟨rfl, hX⟩ := hcut
  have X := Lib.hid hX
  (clear x0 x1 x2 x3 x4 x5 x6 x7 x8 x9)
  obtain ⟨x0, x1, x2, x3, x4, x5, x6, x7, x8, x9⟩ := (X.out.get 0 _ _ _ rfl).ten
  clear hX cZ cI H0 H1 hb1
  generalize (Z && srcB x) = A at *
  by_cases h0 : x.k = 0
  · have Q := Lib.hid (Q0.out h0)
    clear Q0 Q1 Q2 Q3 Q4 cF
    have q0 : (x.k == 0) = true := by simp; omega
    clear h0
    go_wp2_with (go_at_call 51; ((with_reducible refine (cS _ X.out.bel).mono ?_); rintro e w3 ⟨rfl, hb3⟩; have X3 := Lib.hid (X.out.below hb3)))
    go_ret
    exact ⟨by rw [Q.out]; rfl, X3.out.bel⟩
  by_cases h1 : x.k = 1
  · have Q := Lib.hid (Q1.out h1)
    clear Q0 Q1 Q2 Q3 Q4 cS
    have q0 : (x.k == 0) = false := by simp; omega
    have q1 : (x.k == 1) = true := by simp; omega
    clear h1
    cases FB
    · go_wp2_with (go_at_call 94; ((with_reducible refine (cF _ X.out.bel).mono ?_); rintro e w3 ⟨rfl, hb3⟩; have X3 := Lib.hid (X.out.below hb3)))
      go_ret
      exact ⟨by rw [Q.out]; rfl, X3.out.bel⟩
    rcases id_cases x.i x.j 0 0 with ⟨e, r2, r3⟩ | ⟨e, r2⟩ | ⟨e, r2, r3⟩
    · rw [e] at Q
      cases q4 : (x.g == 0)
      · rw [q4] at Q
        go_wp2_with (go_at_call 94; ((with_reducible refine (cF _ X.out.bel).mono ?_); rintro e w3 ⟨rfl, hb3⟩; have X3 := Lib.hid (X.out.below hb3); (clear x0 x1 x2 x3 x4 x5 x6 x7 x8 x9); obtain ⟨x0, x1, x2, x3, x4, x5, x6, x7, x8, x9⟩ := (X3.out.get 0 _ _ _ rfl).ten))
        go_ret
        exact ⟨by rw [Q.out]; rfl, X3.out.bel⟩
      cases q5 : (((x.st : Nat) : Int) == 0)
      · rw [q4, q5] at Q
        go_wp2_with (go_at_call 94; ((with_reducible refine (cF _ X.out.bel).mono ?_); rintro e w3 ⟨rfl, hb3⟩; have X3 := Lib.hid (X.out.below hb3); (clear x0 x1 x2 x3 x4 x5 x6 x7 x8 x9); obtain ⟨x0, x1, x2, x3, x4, x5, x6, x7, x8, x9⟩ := (X3.out.get 0 _ _ _ rfl).ten))
        go_ret
        exact ⟨by rw [Q.out]; rfl, X3.out.bel⟩
      rw [q4, q5] at Q
      go_wp2_with (go_at_call 94; ((with_reducible refine (cF _ X.out.bel).mono ?_); rintro e w3 ⟨rfl, hb3⟩; have X3 := Lib.hid (X.out.below hb3); (clear x0 x1 x2 x3 x4 x5 x6 x7 x8 x9); obtain ⟨x0, x1, x2, x3, x4, x5, x6, x7, x8, x9⟩ := (X3.out.get 0 _ _ _ rfl).ten))
      go_ret
      exact ⟨by rw [Q.out]; rfl, X3.out.bel⟩
    · rw [e] at Q
      go_wp2_with (go_at_call 94; ((with_reducible refine (cF _ X.out.bel).mono ?_); rintro e w3 ⟨rfl, hb3⟩; have X3 := Lib.hid (X.out.below hb3); (clear x0 x1 x2 x3 x4 x5 x6 x7 x8 x9); obtain ⟨x0, x1, x2, x3, x4, x5, x6, x7, x8, x9⟩ := (X3.out.get 0 _ _ _ rfl).ten))
      go_ret
      exact ⟨by rw [Q.out]; rfl, X3.out.bel⟩
    · rw [e] at Q
      go_wp2_with (go_at_call 94; ((with_reducible refine (cF _ X.out.bel).mono ?_); rintro e w3 ⟨rfl, hb3⟩; have X3 := Lib.hid (X.out.below hb3); (clear x0 x1 x2 x3 x4 x5 x6 x7 x8 x9); obtain ⟨x0, x1, x2, x3, x4, x5, x6, x7, x8, x9⟩ := (X3.out.get 0 _ _ _ rfl).ten))
      go_ret
      exact ⟨by rw [Q.out]; rfl, X3.out.bel⟩
  by_cases h2 : x.k = 2
  · have Q := Lib.hid (Q2.out h2)
    clear Q0 Q1 Q2 Q3 Q4 cS cF
    have q0 : (x.k == 0) = false := by simp; omega
    have q1 : (x.k == 1) = false := by simp; omega
    have q2 : (x.k == 2) = true := by simp; omega
    clear h2
    cases A
    · go_wp2
      go_ret
      exact ⟨by rw [Q.out]; rfl, X.out.bel⟩
    cases q4 : x.y
    · rw [q4] at Q
      by_cases h4 : (0 : Int) < ((x.st : Nat) : Int)
      · rw [decide_eq_true h4] at Q
        go_wp2
        go_ret
        exact ⟨by rw [Q.out]; rfl, X.out.bel⟩
      · rw [decide_eq_false h4] at Q
        go_wp2
        go_ret
        exact ⟨by rw [Q.out]; rfl, X.out.bel⟩
    · rw [q4] at Q
      go_wp2
      go_ret
      exact ⟨by rw [Q.out]; rfl, X.out.bel⟩
  by_cases h3 : x.k = 3
  · have Q := Lib.hid (Q3.out h3)
    clear Q0 Q1 Q2 Q3 Q4 cS cF
    have q0 : (x.k == 0) = false := by simp; omega
    have q1 : (x.k == 1) = false := by simp; omega
    have q2 : (x.k == 2) = false := by simp; omega
    have q3 : (x.k == 3) = true := by simp; omega
    clear h3
    cases A
    · go_wp2
      go_ret
      exact ⟨by rw [Q.out]; rfl, X.out.bel⟩
    · go_wp2
      go_ret
      exact ⟨by rw [Q.out]; rfl, X.out.bel⟩
  have Q := Lib.hid (Q4.out h0 h1 h2 h3)
  clear Q0 Q1 Q2 Q3 Q4 cS cF
  have q0 : (x.k == 0) = false := by simp; omega
  have q1 : (x.k == 1) = false := by simp; omega
  have q2 : (x.k == 2) = false := by simp; omega
  have q3 : (x.k == 3) = false := by simp; omega
  go_wp2
  go_ret
  exact ⟨by rw [Q.out]; rfl, X.out.bel⟩
end Go.Proofs.YtcfmifongbapkaaGreatDoor

/- BallotProg -/
namespace Go.Proofs.YtcfmifongbapkaaGreatDoor

open Go.RowKit

set_option linter.unusedVariables false

theorem bFormed_any (r n : Int) (w : World) : Calls Tryz.prog 49 #[.agg #[.int .u32 r, .int .i64 n]] w (Says w (formB n)) := by
  have hB := one_box w #[.int .u32 r, .int .i64 n] 24
  unfold formB
  by_cases h : 0 ≤ n
  · have q : decide (n < 0) = false := by simp; omega
    rw [decide_eq_true h, Bool.true_and]
    go_enter Tryz.func49, Tryz.ntmps49
    go_wp2
    go_ret
    exact ⟨rfl, hB⟩
  · have q : decide (n < 0) = true := by simp; omega
    rw [decide_eq_false h, Bool.false_and]
    go_enter Tryz.func49, Tryz.ntmps49
    go_wp2
    go_ret
    exact ⟨rfl, hB⟩
theorem rFormed_any (r n : Int) (w : World) : Calls Tryz.prog 52 #[.agg #[.int .u32 r, .int .i64 n]] w (Says w (formB n)) := by
  have hB := one_box w #[.int .u32 r, .int .i64 n] 44
  unfold formB
  by_cases h : 0 ≤ n
  · have e : decide (n < 5) = decide (n ≤ 4) := by simp; omega
    rw [e, decide_eq_true h, Bool.true_and]
    go_enter Tryz.func52, Tryz.ntmps52
    go_wp2
    go_ret
    exact ⟨rfl, hB⟩
  · rw [decide_eq_false h, Bool.false_and]
    go_enter Tryz.func52, Tryz.ntmps52
    go_wp2
    go_ret
    exact ⟨rfl, hB⟩
end Go.Proofs.YtcfmifongbapkaaGreatDoor
