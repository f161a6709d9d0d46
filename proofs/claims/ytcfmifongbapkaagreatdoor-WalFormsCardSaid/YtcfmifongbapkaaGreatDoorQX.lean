
/- Contract of command.Formed. Conditions: the command's lists lie in memory, and are no longer than a million; the tables of utf8 lie there. -/
import Derived.Test.YtcfmifongbapkaaGreatDoorQP
import Derived.Test.YtcfmifongbapkaaGreatDoorQW
import Derived.Deep.RegionHeld3
/- CommandFormed -/
namespace Go.Proofs.YtcfmifongbapkaaGreatDoor

open Go.RowKit

set_option linter.unusedVariables false

set_option maxRecDepth 100000 in
set_option maxHeartbeats 4000000 in
theorem kFormed_any (x : CmM) (rs : List RdM) (ws : List WrM) (w : World) (h : CmAt w x rs ws) (hn : x.n ≤ 1000000) (hm : x.m ≤ 1000000) (hU : Tabs w) :
    Calls Tryz.prog 50 #[.agg (cmV x)] w (Says w (formCm (cmT x rs ws))) := by
  have H0 := Lib.hid ((Boxs.start w).more (cmV x) 33)
  have cN := fun W => kNamed_any x W
  have cS : ∀ W, Below w.heap.size w W → Calls Tryz.prog 54 #[.agg (cmV x), .agg (cmV (namedM x))] W (Says W (cleanB x rs ws)) := fun W hW => kSame_any x (namedM x) rs (namedL x rs) ws (namedL x ws) W (h.later hW) ((named_at h).later hW) hn hm
  have cF := fun W (hW : Below w.heap.size w W) => tFormed_any x.s x.q x.a x.n x.c x.b x.m x.d rs ws W (h.tx.later hW) (hU.below hW)
  have cO := fun W => kSource_any x W
  obtain ⟨x0, x1, x2, x3, x4, x5, x6, x7, x8, x9⟩ := (H0.out.get 0 _ _ _ rfl).ten
  clear h hU
  generalize namedM x = y at *
  cases hc : cleanB x rs ws
  · rw [hc] at cS
    have Q := Lib.hid (form_clean hc)
    clear hc cF cO
    go_enter Tryz.func50, Tryz.ntmps50
    go_upto_region 1 with (fail)
    have X0 := Lib.hid H0.out.drew
    have s0 := (X0.out.get 0 _ _ _ rfl).ten
    (clear x0 x1 x2 x3 x4 x5 x6 x7 x8 x9)
    go_region_held3 (fun W => (W.cell? ⟨w.heap.size, 0, none⟩ = some (.int .i64 x.k) ∧ W.cell? ⟨w.heap.size, 1, none⟩ = some (.int .i64 x.s) ∧ W.cell? ⟨w.heap.size, 2, none⟩ = some (.int .i64 x.q) ∧ W.cell? ⟨w.heap.size, 3, none⟩ = some (.slice x.a x.n x.c) ∧ W.cell? ⟨w.heap.size, 4, none⟩ = some (.slice x.b x.m x.d) ∧ W.cell? ⟨w.heap.size, 5, none⟩ = some (.int .i64 x.i) ∧ W.cell? ⟨w.heap.size, 6, none⟩ = some (.int .i64 x.j) ∧ W.cell? ⟨w.heap.size, 7, none⟩ = some (.int .i64 x.g) ∧ W.cell? ⟨w.heap.size, 8, none⟩ = some (.int .u64 ((x.st : Nat) : Int)) ∧ W.cell? ⟨w.heap.size, 9, none⟩ = some (.bool x.y))) (first | (with_reducible exact s0) | (with_reducible exact s1) | (with_reducible exact s2))
      (first | (go_at_call 89; ((with_reducible refine (cN _).mono ?_); rintro e v1 ⟨rfl, hb1⟩; have X1 := Lib.hid (X0.out.below hb1); have s1 := (X1.out.get 0 _ _ _ rfl).ten)) | (go_at_call 54; ((with_reducible refine (cS _ X1.out.bel).mono ?_); rintro e v2 ⟨rfl, hb2⟩; have X2 := Lib.hid (X1.out.below hb2); have s2 := (X2.out.get 0 _ _ _ rfl).ten)))
    obtain ⟨x0, x1, x2, x3, x4, x5, x6, x7, x8, x9⟩ := (X2.out.get 0 _ _ _ rfl).ten
    (clear s0 s1 s2 X0 X1)
    go_wp2
    go_ret
    exact ⟨by rw [Q.out]; rfl, X2.out.bel⟩
  rw [hc] at cS
  rcases clean_kind hc with h0 | h1 | h2 | h3
  · have Q := Lib.hid (form_zero hc h0)
    clear hc cF cO
    have q1 : (x.k == 1) = false := by simp; omega
    have q2 : (x.k == 2) = false := by simp; omega
    have q3 : (x.k == 3) = false := by simp; omega
    clear h0
    go_enter Tryz.func50, Tryz.ntmps50
    go_upto_region 1 with (fail)
    have X0 := Lib.hid H0.out.drew
    have s0 := (X0.out.get 0 _ _ _ rfl).ten
    (clear x0 x1 x2 x3 x4 x5 x6 x7 x8 x9)
    go_region_held3 (fun W => (W.cell? ⟨w.heap.size, 0, none⟩ = some (.int .i64 x.k) ∧ W.cell? ⟨w.heap.size, 1, none⟩ = some (.int .i64 x.s) ∧ W.cell? ⟨w.heap.size, 2, none⟩ = some (.int .i64 x.q) ∧ W.cell? ⟨w.heap.size, 3, none⟩ = some (.slice x.a x.n x.c) ∧ W.cell? ⟨w.heap.size, 4, none⟩ = some (.slice x.b x.m x.d) ∧ W.cell? ⟨w.heap.size, 5, none⟩ = some (.int .i64 x.i) ∧ W.cell? ⟨w.heap.size, 6, none⟩ = some (.int .i64 x.j) ∧ W.cell? ⟨w.heap.size, 7, none⟩ = some (.int .i64 x.g) ∧ W.cell? ⟨w.heap.size, 8, none⟩ = some (.int .u64 ((x.st : Nat) : Int)) ∧ W.cell? ⟨w.heap.size, 9, none⟩ = some (.bool x.y))) (first | (with_reducible exact s0) | (with_reducible exact s1) | (with_reducible exact s2))
      (first | (go_at_call 89; ((with_reducible refine (cN _).mono ?_); rintro e v1 ⟨rfl, hb1⟩; have X1 := Lib.hid (X0.out.below hb1); have s1 := (X1.out.get 0 _ _ _ rfl).ten)) | (go_at_call 54; ((with_reducible refine (cS _ X1.out.bel).mono ?_); rintro e v2 ⟨rfl, hb2⟩; have X2 := Lib.hid (X1.out.below hb2); have s2 := (X2.out.get 0 _ _ _ rfl).ten)))
    obtain ⟨x0, x1, x2, x3, x4, x5, x6, x7, x8, x9⟩ := (X2.out.get 0 _ _ _ rfl).ten
    (clear s0 s1 s2 X0 X1)
    go_wp2
    go_ret
    exact ⟨by rw [Q.out]; rfl, X2.out.bel⟩
  · have Q := Lib.hid (form_begin hc h1)
    clear hc cO
    generalize formT formedB (txT (x.s, x.q) rs ws) = B at *
    have q1 : (x.k == 1) = true := by simp; omega
    clear h1
    go_enter Tryz.func50, Tryz.ntmps50
    go_upto_region 1 with (fail)
    have X0 := Lib.hid H0.out.drew
    have s0 := (X0.out.get 0 _ _ _ rfl).ten
    (clear x0 x1 x2 x3 x4 x5 x6 x7 x8 x9)
    go_region_held3 (fun W => (W.cell? ⟨w.heap.size, 0, none⟩ = some (.int .i64 x.k) ∧ W.cell? ⟨w.heap.size, 1, none⟩ = some (.int .i64 x.s) ∧ W.cell? ⟨w.heap.size, 2, none⟩ = some (.int .i64 x.q) ∧ W.cell? ⟨w.heap.size, 3, none⟩ = some (.slice x.a x.n x.c) ∧ W.cell? ⟨w.heap.size, 4, none⟩ = some (.slice x.b x.m x.d) ∧ W.cell? ⟨w.heap.size, 5, none⟩ = some (.int .i64 x.i) ∧ W.cell? ⟨w.heap.size, 6, none⟩ = some (.int .i64 x.j) ∧ W.cell? ⟨w.heap.size, 7, none⟩ = some (.int .i64 x.g) ∧ W.cell? ⟨w.heap.size, 8, none⟩ = some (.int .u64 ((x.st : Nat) : Int)) ∧ W.cell? ⟨w.heap.size, 9, none⟩ = some (.bool x.y))) (first | (with_reducible exact s0) | (with_reducible exact s1) | (with_reducible exact s2))
      (first | (go_at_call 89; ((with_reducible refine (cN _).mono ?_); rintro e v1 ⟨rfl, hb1⟩; have X1 := Lib.hid (X0.out.below hb1); have s1 := (X1.out.get 0 _ _ _ rfl).ten)) | (go_at_call 54; ((with_reducible refine (cS _ X1.out.bel).mono ?_); rintro e v2 ⟨rfl, hb2⟩; have X2 := Lib.hid (X1.out.below hb2); have s2 := (X2.out.get 0 _ _ _ rfl).ten)))
    obtain ⟨x0, x1, x2, x3, x4, x5, x6, x7, x8, x9⟩ := (X2.out.get 0 _ _ _ rfl).ten
    (clear s0 s1 s2 X0 X1)
    go_wp2_with (go_at_call 90; ((with_reducible refine (cF _ X2.out.bel).mono ?_); rintro e w3 ⟨rfl, hb3⟩; have X3 := Lib.hid (X2.out.below hb3)))
    go_ret
    exact ⟨by rw [Q.out]; rfl, X3.out.bel⟩
  · have Q := Lib.hid (form_stamp hc h2)
    clear hc cF
    generalize srcB x = B at *
    cases B
    · have q1 : (x.k == 1) = false := by simp; omega
      have q2 : (x.k == 2) = true := by simp; omega
      clear h2
      go_enter Tryz.func50, Tryz.ntmps50
      go_upto_region 1 with (fail)
      have X0 := Lib.hid H0.out.drew
      have s0 := (X0.out.get 0 _ _ _ rfl).ten
      (clear x0 x1 x2 x3 x4 x5 x6 x7 x8 x9)
      go_region_held3 (fun W => (W.cell? ⟨w.heap.size, 0, none⟩ = some (.int .i64 x.k) ∧ W.cell? ⟨w.heap.size, 1, none⟩ = some (.int .i64 x.s) ∧ W.cell? ⟨w.heap.size, 2, none⟩ = some (.int .i64 x.q) ∧ W.cell? ⟨w.heap.size, 3, none⟩ = some (.slice x.a x.n x.c) ∧ W.cell? ⟨w.heap.size, 4, none⟩ = some (.slice x.b x.m x.d) ∧ W.cell? ⟨w.heap.size, 5, none⟩ = some (.int .i64 x.i) ∧ W.cell? ⟨w.heap.size, 6, none⟩ = some (.int .i64 x.j) ∧ W.cell? ⟨w.heap.size, 7, none⟩ = some (.int .i64 x.g) ∧ W.cell? ⟨w.heap.size, 8, none⟩ = some (.int .u64 ((x.st : Nat) : Int)) ∧ W.cell? ⟨w.heap.size, 9, none⟩ = some (.bool x.y))) (first | (with_reducible exact s0) | (with_reducible exact s1) | (with_reducible exact s2))
        (first | (go_at_call 89; ((with_reducible refine (cN _).mono ?_); rintro e v1 ⟨rfl, hb1⟩; have X1 := Lib.hid (X0.out.below hb1); have s1 := (X1.out.get 0 _ _ _ rfl).ten)) | (go_at_call 54; ((with_reducible refine (cS _ X1.out.bel).mono ?_); rintro e v2 ⟨rfl, hb2⟩; have X2 := Lib.hid (X1.out.below hb2); have s2 := (X2.out.get 0 _ _ _ rfl).ten)))
      obtain ⟨x0, x1, x2, x3, x4, x5, x6, x7, x8, x9⟩ := (X2.out.get 0 _ _ _ rfl).ten
      (clear s0 s1 s2 X0 X1)
      go_wp2_with (go_at_call 91; ((with_reducible refine (cO _).mono ?_); rintro e w3 ⟨rfl, hb3⟩; have X3 := Lib.hid (X2.out.below hb3)))
      go_ret
      exact ⟨by rw [Q.out]; rfl, X3.out.bel⟩
    · by_cases h4 : 1 ≤ x.st
      · rw [decide_eq_true h4] at Q
        have i4 : (1 : Int) ≤ ((x.st : Nat) : Int) := by omega
        by_cases h5 : x.st ≤ 9223372036854775807
        · rw [decide_eq_true h5] at Q
          have i5 : ((x.st : Nat) : Int) ≤ 9223372036854775807 := by omega
          have q1 : (x.k == 1) = false := by simp; omega
          have q2 : (x.k == 2) = true := by simp; omega
          clear h2
          go_enter Tryz.func50, Tryz.ntmps50
          go_upto_region 1 with (fail)
          have X0 := Lib.hid H0.out.drew
          have s0 := (X0.out.get 0 _ _ _ rfl).ten
          (clear x0 x1 x2 x3 x4 x5 x6 x7 x8 x9)
          go_region_held3 (fun W => (W.cell? ⟨w.heap.size, 0, none⟩ = some (.int .i64 x.k) ∧ W.cell? ⟨w.heap.size, 1, none⟩ = some (.int .i64 x.s) ∧ W.cell? ⟨w.heap.size, 2, none⟩ = some (.int .i64 x.q) ∧ W.cell? ⟨w.heap.size, 3, none⟩ = some (.slice x.a x.n x.c) ∧ W.cell? ⟨w.heap.size, 4, none⟩ = some (.slice x.b x.m x.d) ∧ W.cell? ⟨w.heap.size, 5, none⟩ = some (.int .i64 x.i) ∧ W.cell? ⟨w.heap.size, 6, none⟩ = some (.int .i64 x.j) ∧ W.cell? ⟨w.heap.size, 7, none⟩ = some (.int .i64 x.g) ∧ W.cell? ⟨w.heap.size, 8, none⟩ = some (.int .u64 ((x.st : Nat) : Int)) ∧ W.cell? ⟨w.heap.size, 9, none⟩ = some (.bool x.y))) (first | (with_reducible exact s0) | (with_reducible exact s1) | (with_reducible exact s2))
            (first | (go_at_call 89; ((with_reducible refine (cN _).mono ?_); rintro e v1 ⟨rfl, hb1⟩; have X1 := Lib.hid (X0.out.below hb1); have s1 := (X1.out.get 0 _ _ _ rfl).ten)) | (go_at_call 54; ((with_reducible refine (cS _ X1.out.bel).mono ?_); rintro e v2 ⟨rfl, hb2⟩; have X2 := Lib.hid (X1.out.below hb2); have s2 := (X2.out.get 0 _ _ _ rfl).ten)))
          obtain ⟨x0, x1, x2, x3, x4, x5, x6, x7, x8, x9⟩ := (X2.out.get 0 _ _ _ rfl).ten
          (clear s0 s1 s2 X0 X1)
          go_wp2_with (go_at_call 91; ((with_reducible refine (cO _).mono ?_); rintro e w3 ⟨rfl, hb3⟩; have X3 := Lib.hid (X2.out.below hb3); (clear x0 x1 x2 x3 x4 x5 x6 x7 x8 x9); obtain ⟨x0, x1, x2, x3, x4, x5, x6, x7, x8, x9⟩ := (X3.out.get 0 _ _ _ rfl).ten))
          go_ret
          exact ⟨by rw [Q.out]; rfl, X3.out.bel⟩
        · rw [decide_eq_false h5] at Q
          have i5 : ¬ ((x.st : Nat) : Int) ≤ 9223372036854775807 := by omega
          have i6 : decide (((x.st : Nat) : Int) ≤ 9223372036854775807) = false := decide_eq_false i5
          have q1 : (x.k == 1) = false := by simp; omega
          have q2 : (x.k == 2) = true := by simp; omega
          clear h2
          go_enter Tryz.func50, Tryz.ntmps50
          go_upto_region 1 with (fail)
          have X0 := Lib.hid H0.out.drew
          have s0 := (X0.out.get 0 _ _ _ rfl).ten
          (clear x0 x1 x2 x3 x4 x5 x6 x7 x8 x9)
          go_region_held3 (fun W => (W.cell? ⟨w.heap.size, 0, none⟩ = some (.int .i64 x.k) ∧ W.cell? ⟨w.heap.size, 1, none⟩ = some (.int .i64 x.s) ∧ W.cell? ⟨w.heap.size, 2, none⟩ = some (.int .i64 x.q) ∧ W.cell? ⟨w.heap.size, 3, none⟩ = some (.slice x.a x.n x.c) ∧ W.cell? ⟨w.heap.size, 4, none⟩ = some (.slice x.b x.m x.d) ∧ W.cell? ⟨w.heap.size, 5, none⟩ = some (.int .i64 x.i) ∧ W.cell? ⟨w.heap.size, 6, none⟩ = some (.int .i64 x.j) ∧ W.cell? ⟨w.heap.size, 7, none⟩ = some (.int .i64 x.g) ∧ W.cell? ⟨w.heap.size, 8, none⟩ = some (.int .u64 ((x.st : Nat) : Int)) ∧ W.cell? ⟨w.heap.size, 9, none⟩ = some (.bool x.y))) (first | (with_reducible exact s0) | (with_reducible exact s1) | (with_reducible exact s2))
            (first | (go_at_call 89; ((with_reducible refine (cN _).mono ?_); rintro e v1 ⟨rfl, hb1⟩; have X1 := Lib.hid (X0.out.below hb1); have s1 := (X1.out.get 0 _ _ _ rfl).ten)) | (go_at_call 54; ((with_reducible refine (cS _ X1.out.bel).mono ?_); rintro e v2 ⟨rfl, hb2⟩; have X2 := Lib.hid (X1.out.below hb2); have s2 := (X2.out.get 0 _ _ _ rfl).ten)))
          obtain ⟨x0, x1, x2, x3, x4, x5, x6, x7, x8, x9⟩ := (X2.out.get 0 _ _ _ rfl).ten
          (clear s0 s1 s2 X0 X1)
          go_wp2_with (go_at_call 91; ((with_reducible refine (cO _).mono ?_); rintro e w3 ⟨rfl, hb3⟩; have X3 := Lib.hid (X2.out.below hb3); (clear x0 x1 x2 x3 x4 x5 x6 x7 x8 x9); obtain ⟨x0, x1, x2, x3, x4, x5, x6, x7, x8, x9⟩ := (X3.out.get 0 _ _ _ rfl).ten))
          go_ret
          exact ⟨by rw [Q.out]; first | rfl | simp, X3.out.bel⟩
      · rw [decide_eq_false h4] at Q
        have i4 : ¬ (1 : Int) ≤ ((x.st : Nat) : Int) := by omega
        have q1 : (x.k == 1) = false := by simp; omega
        have q2 : (x.k == 2) = true := by simp; omega
        clear h2
        go_enter Tryz.func50, Tryz.ntmps50
        go_upto_region 1 with (fail)
        have X0 := Lib.hid H0.out.drew
        have s0 := (X0.out.get 0 _ _ _ rfl).ten
        (clear x0 x1 x2 x3 x4 x5 x6 x7 x8 x9)
        go_region_held3 (fun W => (W.cell? ⟨w.heap.size, 0, none⟩ = some (.int .i64 x.k) ∧ W.cell? ⟨w.heap.size, 1, none⟩ = some (.int .i64 x.s) ∧ W.cell? ⟨w.heap.size, 2, none⟩ = some (.int .i64 x.q) ∧ W.cell? ⟨w.heap.size, 3, none⟩ = some (.slice x.a x.n x.c) ∧ W.cell? ⟨w.heap.size, 4, none⟩ = some (.slice x.b x.m x.d) ∧ W.cell? ⟨w.heap.size, 5, none⟩ = some (.int .i64 x.i) ∧ W.cell? ⟨w.heap.size, 6, none⟩ = some (.int .i64 x.j) ∧ W.cell? ⟨w.heap.size, 7, none⟩ = some (.int .i64 x.g) ∧ W.cell? ⟨w.heap.size, 8, none⟩ = some (.int .u64 ((x.st : Nat) : Int)) ∧ W.cell? ⟨w.heap.size, 9, none⟩ = some (.bool x.y))) (first | (with_reducible exact s0) | (with_reducible exact s1) | (with_reducible exact s2))
          (first | (go_at_call 89; ((with_reducible refine (cN _).mono ?_); rintro e v1 ⟨rfl, hb1⟩; have X1 := Lib.hid (X0.out.below hb1); have s1 := (X1.out.get 0 _ _ _ rfl).ten)) | (go_at_call 54; ((with_reducible refine (cS _ X1.out.bel).mono ?_); rintro e v2 ⟨rfl, hb2⟩; have X2 := Lib.hid (X1.out.below hb2); have s2 := (X2.out.get 0 _ _ _ rfl).ten)))
        obtain ⟨x0, x1, x2, x3, x4, x5, x6, x7, x8, x9⟩ := (X2.out.get 0 _ _ _ rfl).ten
        (clear s0 s1 s2 X0 X1)
        go_wp2_with (go_at_call 91; ((with_reducible refine (cO _).mono ?_); rintro e w3 ⟨rfl, hb3⟩; have X3 := Lib.hid (X2.out.below hb3); (clear x0 x1 x2 x3 x4 x5 x6 x7 x8 x9); obtain ⟨x0, x1, x2, x3, x4, x5, x6, x7, x8, x9⟩ := (X3.out.get 0 _ _ _ rfl).ten))
        go_ret
        exact ⟨by rw [Q.out]; rfl, X3.out.bel⟩
  · have Q := Lib.hid (form_vote hc h3)
    clear hc cF
    generalize srcB x = B at *
    have q1 : (x.k == 1) = false := by simp; omega
    have q2 : (x.k == 2) = false := by simp; omega
    have q3 : (x.k == 3) = true := by simp; omega
    clear h3
    go_enter Tryz.func50, Tryz.ntmps50
    go_upto_region 1 with (fail)
    have X0 := Lib.hid H0.out.drew
    have s0 := (X0.out.get 0 _ _ _ rfl).ten
    (clear x0 x1 x2 x3 x4 x5 x6 x7 x8 x9)
    go_region_held3 (fun W => (W.cell? ⟨w.heap.size, 0, none⟩ = some (.int .i64 x.k) ∧ W.cell? ⟨w.heap.size, 1, none⟩ = some (.int .i64 x.s) ∧ W.cell? ⟨w.heap.size, 2, none⟩ = some (.int .i64 x.q) ∧ W.cell? ⟨w.heap.size, 3, none⟩ = some (.slice x.a x.n x.c) ∧ W.cell? ⟨w.heap.size, 4, none⟩ = some (.slice x.b x.m x.d) ∧ W.cell? ⟨w.heap.size, 5, none⟩ = some (.int .i64 x.i) ∧ W.cell? ⟨w.heap.size, 6, none⟩ = some (.int .i64 x.j) ∧ W.cell? ⟨w.heap.size, 7, none⟩ = some (.int .i64 x.g) ∧ W.cell? ⟨w.heap.size, 8, none⟩ = some (.int .u64 ((x.st : Nat) : Int)) ∧ W.cell? ⟨w.heap.size, 9, none⟩ = some (.bool x.y))) (first | (with_reducible exact s0) | (with_reducible exact s1) | (with_reducible exact s2))
      (first | (go_at_call 89; ((with_reducible refine (cN _).mono ?_); rintro e v1 ⟨rfl, hb1⟩; have X1 := Lib.hid (X0.out.below hb1); have s1 := (X1.out.get 0 _ _ _ rfl).ten)) | (go_at_call 54; ((with_reducible refine (cS _ X1.out.bel).mono ?_); rintro e v2 ⟨rfl, hb2⟩; have X2 := Lib.hid (X1.out.below hb2); have s2 := (X2.out.get 0 _ _ _ rfl).ten)))
    obtain ⟨x0, x1, x2, x3, x4, x5, x6, x7, x8, x9⟩ := (X2.out.get 0 _ _ _ rfl).ten
    (clear s0 s1 s2 X0 X1)
    go_wp2_with (go_at_call 91; ((with_reducible refine (cO _).mono ?_); rintro e w3 ⟨rfl, hb3⟩; have X3 := Lib.hid (X2.out.below hb3)))
    go_ret
    exact ⟨by rw [Q.out]; rfl, X3.out.bel⟩
end Go.Proofs.YtcfmifongbapkaaGreatDoor
