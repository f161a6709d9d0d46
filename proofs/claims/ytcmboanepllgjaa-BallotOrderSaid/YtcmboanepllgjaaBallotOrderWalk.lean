/- The walk of the statement BallotOrder. No condition. -/
import Derived.Test.YtcmboanepllgjaaBallotMost

import Derived.Laws.StructEq

namespace Go.Proofs.Ytcmboanepllgjaa

open Go.RowKit

set_option linter.unusedVariables false

theorem Boxs.six {w W : World} {g1 g2 g3 : Nat} {x1 x2 x3 y1 y2 y3 : Value} {t1 t2 t3 : TypeId} (h : Boxs w W [(g3, #[x3, y3], t3), (g2, #[x2, y2], t2), (g1, #[x1, y1], t1)]) :
    W.cell? ⟨g1, 0, none⟩ = some x1 ∧ W.cell? ⟨g1, 1, none⟩ = some y1 ∧ W.cell? ⟨g2, 0, none⟩ = some x2 ∧ W.cell? ⟨g2, 1, none⟩ = some y2 ∧ W.cell? ⟨g3, 0, none⟩ = some x3 ∧ W.cell? ⟨g3, 1, none⟩ = some y3 :=
  ⟨(h.get 2 _ _ _ rfl).two.1, (h.get 2 _ _ _ rfl).two.2, (h.get 1 _ _ _ rfl).two.1, (h.get 1 _ _ _ rfl).two.2, (h.get 0 _ _ _ rfl).two.1, (h.get 0 _ _ _ rfl).two.2⟩
theorem Boxs.eightO {w W : World} {g1 g2 g3 g4 : Nat} {x1 x2 x3 x4 y1 y2 y3 y4 : Value} {t1 t2 t3 t4 : TypeId} (h : Boxs w W [(g4, #[x4, y4], t4), (g3, #[x3, y3], t3), (g2, #[x2, y2], t2), (g1, #[x1, y1], t1)]) :
    W.cell? ⟨g1, 0, none⟩ = some x1 ∧ W.cell? ⟨g1, 1, none⟩ = some y1 ∧ W.cell? ⟨g2, 0, none⟩ = some x2 ∧ W.cell? ⟨g2, 1, none⟩ = some y2 ∧
    W.cell? ⟨g3, 0, none⟩ = some x3 ∧ W.cell? ⟨g3, 1, none⟩ = some y3 ∧ W.cell? ⟨g4, 0, none⟩ = some x4 ∧ W.cell? ⟨g4, 1, none⟩ = some y4 :=
  ⟨(h.get 3 _ _ _ rfl).two.1, (h.get 3 _ _ _ rfl).two.2, (h.get 2 _ _ _ rfl).two.1, (h.get 2 _ _ _ rfl).two.2, (h.get 1 _ _ _ rfl).two.1, (h.get 1 _ _ _ rfl).two.2, (h.get 0 _ _ _ rfl).two.1, (h.get 0 _ _ _ rfl).two.2⟩

/-- Whether a lies ahead of b, as the program answers it. -/
abbrev LessC (r n r' n' : Int) (b : Bool) : Prop := ∀ W, Calls Try.prog 13 #[.agg #[.int .u32 r, .int .i64 n], .agg #[.int .u32 r', .int .i64 n']] W (Says W b)
theorem less_c {r n r' n' : Int} {b : Bool} (h : lessB (r, n) (r', n') = b) : LessC r n r' n' b := fun W => h ▸ bLess_any r n r' n' W

/-- Behind the first test: what is left, whatever the order is. -/
theorem bals3 (W : World) (r n r' n' r'' n'' : Int) (t : TypeId) : BalsAt (W.alloc (.cells #[.int .u32 r, .int .i64 n, .int .u32 r', .int .i64 n', .int .u32 r'', .int .i64 n''] t)) (W.alloc (.cells #[.int .u32 r, .int .i64 n, .int .u32 r', .int .i64 n', .int .u32 r'', .int .i64 n''] t)).heap.size (some ⟨W.heap.size, 0, none⟩) 3 [(r, n), (r', n'), (r'', n'')] :=
  ⟨rfl, RowAt.made W #[.int .u32 r, .int .i64 n, .int .u32 r', .int .i64 n', .int .u32 r'', .int .i64 n''] t 3 2 rfl⟩

set_option maxHeartbeats 2000000 in
theorem order6_walk (r n r' n' r'' n'' : Int) (w : World) :
    Calls Try.prog 7 #[.agg #[.int .u32 r, .int .i64 n], .agg #[.int .u32 r', .int .i64 n'], .agg #[.int .u32 r'', .int .i64 n'']] w (Says w true) := by
  have H0 := Lib.hid ((((Boxs.start w).more #[.int .u32 r, .int .i64 n] 24).more #[.int .u32 r', .int .i64 n'] 24).more #[.int .u32 r'', .int .i64 n''] 24)
  have hs : (w.alloc (.cells #[.int .u32 r, .int .i64 n] 24)).heap.size = w.heap.size + 1 := by simp
  have hs2 : ((w.alloc (.cells #[.int .u32 r, .int .i64 n] 24)).alloc (.cells #[.int .u32 r', .int .i64 n'] 24)).heap.size = w.heap.size + 1 + 1 := by simp
  rw [hs, hs2] at H0
  clear hs hs2
  have HM := fun W => bMost_any (some ⟨W.heap.size, 0, none⟩) 3 3 _ _ (bals3 W r n r' n' r'' n'' 24) (Nat.le_refl _) (by unfold maxLen; omega)
  have ca := mostB_ge [(r, n), (r', n'), (r'', n'')] (r, n) (by simp)
  have cb := mostB_ge [(r, n), (r', n'), (r'', n'')] (r', n') (by simp)
  have cc := mostB_ge [(r, n), (r', n'), (r'', n'')] (r'', n'') (by simp)
  generalize mostB [(r, n), (r', n'), (r'', n'')] = M at HM ca cb cc
  obtain ⟨M1, M2⟩ := M
  have cma := less_c ca
  have cmb := less_c cb
  have cmc := less_c cc
  clear ca cb cc
  have caa := less_c (less_self (r, n))
  cases hab : lessB (r, n) (r', n')
  · cases hba : lessB (r', n') (r, n)
    · have e := less_none hab hba
      injection e with e1 e2
      subst e1; subst e2
      clear hab hba
      go_enter Try.func7, Try.ntmps7
      go_upto_region 3 with (first | (go_at_call 13; ((with_reducible refine (caa _).mono ?_); rintro e w1 ⟨rfl, hb1⟩; replace H0 := Lib.hid (H0.out.below hb1); clear hb1; (try clear a0 a1 b0 b1 c0 c1); obtain ⟨a0, a1, b0, b1, c0, c1⟩ := H0.out.six)))
      go_upto_region 4 with (go_at_call 15; ((with_reducible refine (HM _).mono ?_); rintro e w4 ⟨rfl, hb4⟩; replace H0 := Lib.hid ((H0.out.below (one_box _ _ _)).below hb4)))
      replace H0 := Lib.hid (H0.out.more #[.int .u32 M1, .int .i64 M2] 24)
      generalize w4.alloc (.cells #[.int .u32 M1, .int .i64 M2] 24) = W4 at *
      generalize w4.heap.size = G at *
      obtain ⟨a0, a1, b0, b1, c0, c1, m0, m1⟩ := H0.out.eightO
      go_wp2_with (first | (go_at_call 10; ((with_reducible refine (awake6_any _).mono ?_); rintro e w1 ⟨rfl, hb1⟩; replace H0 := Lib.hid (H0.out.below hb1); clear hb1 a0 a1 b0 b1 c0 c1 m0 m1; obtain ⟨a0, a1, b0, b1, c0, c1, m0, m1⟩ := H0.out.eightO)) | (go_at_call 13; ((with_reducible refine (caa _).mono ?_); rintro e w1 ⟨rfl, hb1⟩; replace H0 := Lib.hid (H0.out.below hb1); clear hb1; (try clear a0 a1 b0 b1 c0 c1 m0 m1); obtain ⟨a0, a1, b0, b1, c0, c1, m0, m1⟩ := H0.out.eightO)) | (go_at_call 13; ((with_reducible refine (cma _).mono ?_); rintro e w1 ⟨rfl, hb1⟩; replace H0 := Lib.hid (H0.out.below hb1); clear hb1; (try clear a0 a1 b0 b1 c0 c1 m0 m1); obtain ⟨a0, a1, b0, b1, c0, c1, m0, m1⟩ := H0.out.eightO)) | (go_at_call 13; ((with_reducible refine (cmc _).mono ?_); rintro e w1 ⟨rfl, hb1⟩; replace H0 := Lib.hid (H0.out.below hb1); clear hb1; (try clear a0 a1 b0 b1 c0 c1 m0 m1); obtain ⟨a0, a1, b0, b1, c0, c1, m0, m1⟩ := H0.out.eightO)))
      go_ret
      exact ⟨rfl, H0.out.bel⟩
    · have cab := less_c hab
      have cba := less_c hba
      clear hab hba
      go_enter Try.func7, Try.ntmps7
      go_upto_region 3 with (first | (go_at_call 13; ((with_reducible refine (cab _).mono ?_); rintro e w1 ⟨rfl, hb1⟩; replace H0 := Lib.hid (H0.out.below hb1); clear hb1; (try clear a0 a1 b0 b1 c0 c1); obtain ⟨a0, a1, b0, b1, c0, c1⟩ := H0.out.six)) | (go_at_call 13; ((with_reducible refine (cba _).mono ?_); rintro e w1 ⟨rfl, hb1⟩; replace H0 := Lib.hid (H0.out.below hb1); clear hb1; (try clear a0 a1 b0 b1 c0 c1); obtain ⟨a0, a1, b0, b1, c0, c1⟩ := H0.out.six)) | (go_at_call 13; ((with_reducible refine (caa _).mono ?_); rintro e w1 ⟨rfl, hb1⟩; replace H0 := Lib.hid (H0.out.below hb1); clear hb1; (try clear a0 a1 b0 b1 c0 c1); obtain ⟨a0, a1, b0, b1, c0, c1⟩ := H0.out.six)))
      go_upto_region 4 with (go_at_call 15; ((with_reducible refine (HM _).mono ?_); rintro e w4 ⟨rfl, hb4⟩; replace H0 := Lib.hid ((H0.out.below (one_box _ _ _)).below hb4)))
      replace H0 := Lib.hid (H0.out.more #[.int .u32 M1, .int .i64 M2] 24)
      generalize w4.alloc (.cells #[.int .u32 M1, .int .i64 M2] 24) = W4 at *
      generalize w4.heap.size = G at *
      obtain ⟨a0, a1, b0, b1, c0, c1, m0, m1⟩ := H0.out.eightO
      go_wp2_with (first | (go_at_call 10; ((with_reducible refine (awake6_any _).mono ?_); rintro e w1 ⟨rfl, hb1⟩; replace H0 := Lib.hid (H0.out.below hb1); clear hb1 a0 a1 b0 b1 c0 c1 m0 m1; obtain ⟨a0, a1, b0, b1, c0, c1, m0, m1⟩ := H0.out.eightO)) | (go_at_call 13; ((with_reducible refine (cab _).mono ?_); rintro e w1 ⟨rfl, hb1⟩; replace H0 := Lib.hid (H0.out.below hb1); clear hb1; (try clear a0 a1 b0 b1 c0 c1 m0 m1); obtain ⟨a0, a1, b0, b1, c0, c1, m0, m1⟩ := H0.out.eightO)) | (go_at_call 13; ((with_reducible refine (cma _).mono ?_); rintro e w1 ⟨rfl, hb1⟩; replace H0 := Lib.hid (H0.out.below hb1); clear hb1; (try clear a0 a1 b0 b1 c0 c1 m0 m1); obtain ⟨a0, a1, b0, b1, c0, c1, m0, m1⟩ := H0.out.eightO)) | (go_at_call 13; ((with_reducible refine (cmb _).mono ?_); rintro e w1 ⟨rfl, hb1⟩; replace H0 := Lib.hid (H0.out.below hb1); clear hb1; (try clear a0 a1 b0 b1 c0 c1 m0 m1); obtain ⟨a0, a1, b0, b1, c0, c1, m0, m1⟩ := H0.out.eightO)) | (go_at_call 13; ((with_reducible refine (cmc _).mono ?_); rintro e w1 ⟨rfl, hb1⟩; replace H0 := Lib.hid (H0.out.below hb1); clear hb1; (try clear a0 a1 b0 b1 c0 c1 m0 m1); obtain ⟨a0, a1, b0, b1, c0, c1, m0, m1⟩ := H0.out.eightO)))
      go_ret
      exact ⟨rfl, H0.out.bel⟩
  · have cba := less_c (less_asym hab)
    cases hbc : lessB (r', n') (r'', n'')
    · have cab := less_c hab
      have cbc := less_c hbc
      clear hab hbc
      go_enter Try.func7, Try.ntmps7
      go_upto_region 3 with (first | (go_at_call 13; ((with_reducible refine (cab _).mono ?_); rintro e w1 ⟨rfl, hb1⟩; replace H0 := Lib.hid (H0.out.below hb1); clear hb1; (try clear a0 a1 b0 b1 c0 c1); obtain ⟨a0, a1, b0, b1, c0, c1⟩ := H0.out.six)) | (go_at_call 13; ((with_reducible refine (cba _).mono ?_); rintro e w1 ⟨rfl, hb1⟩; replace H0 := Lib.hid (H0.out.below hb1); clear hb1; (try clear a0 a1 b0 b1 c0 c1); obtain ⟨a0, a1, b0, b1, c0, c1⟩ := H0.out.six)) | (go_at_call 13; ((with_reducible refine (caa _).mono ?_); rintro e w1 ⟨rfl, hb1⟩; replace H0 := Lib.hid (H0.out.below hb1); clear hb1; (try clear a0 a1 b0 b1 c0 c1); obtain ⟨a0, a1, b0, b1, c0, c1⟩ := H0.out.six)))
      go_upto_region 4 with (go_at_call 15; ((with_reducible refine (HM _).mono ?_); rintro e w4 ⟨rfl, hb4⟩; replace H0 := Lib.hid ((H0.out.below (one_box _ _ _)).below hb4)))
      replace H0 := Lib.hid (H0.out.more #[.int .u32 M1, .int .i64 M2] 24)
      generalize w4.alloc (.cells #[.int .u32 M1, .int .i64 M2] 24) = W4 at *
      generalize w4.heap.size = G at *
      obtain ⟨a0, a1, b0, b1, c0, c1, m0, m1⟩ := H0.out.eightO
      go_wp2_with (first | (go_at_call 10; ((with_reducible refine (awake6_any _).mono ?_); rintro e w1 ⟨rfl, hb1⟩; replace H0 := Lib.hid (H0.out.below hb1); clear hb1 a0 a1 b0 b1 c0 c1 m0 m1; obtain ⟨a0, a1, b0, b1, c0, c1, m0, m1⟩ := H0.out.eightO)) | (go_at_call 13; ((with_reducible refine (cab _).mono ?_); rintro e w1 ⟨rfl, hb1⟩; replace H0 := Lib.hid (H0.out.below hb1); clear hb1; (try clear a0 a1 b0 b1 c0 c1 m0 m1); obtain ⟨a0, a1, b0, b1, c0, c1, m0, m1⟩ := H0.out.eightO)) | (go_at_call 13; ((with_reducible refine (cbc _).mono ?_); rintro e w1 ⟨rfl, hb1⟩; replace H0 := Lib.hid (H0.out.below hb1); clear hb1; (try clear a0 a1 b0 b1 c0 c1 m0 m1); obtain ⟨a0, a1, b0, b1, c0, c1, m0, m1⟩ := H0.out.eightO)) | (go_at_call 13; ((with_reducible refine (cma _).mono ?_); rintro e w1 ⟨rfl, hb1⟩; replace H0 := Lib.hid (H0.out.below hb1); clear hb1; (try clear a0 a1 b0 b1 c0 c1 m0 m1); obtain ⟨a0, a1, b0, b1, c0, c1, m0, m1⟩ := H0.out.eightO)) | (go_at_call 13; ((with_reducible refine (cmb _).mono ?_); rintro e w1 ⟨rfl, hb1⟩; replace H0 := Lib.hid (H0.out.below hb1); clear hb1; (try clear a0 a1 b0 b1 c0 c1 m0 m1); obtain ⟨a0, a1, b0, b1, c0, c1, m0, m1⟩ := H0.out.eightO)) | (go_at_call 13; ((with_reducible refine (cmc _).mono ?_); rintro e w1 ⟨rfl, hb1⟩; replace H0 := Lib.hid (H0.out.below hb1); clear hb1; (try clear a0 a1 b0 b1 c0 c1 m0 m1); obtain ⟨a0, a1, b0, b1, c0, c1, m0, m1⟩ := H0.out.eightO)))
      go_ret
      exact ⟨rfl, H0.out.bel⟩
    · have cab := less_c hab
      have cbc := less_c hbc
      have cac := less_c (less_trans hab hbc)
      clear hab hbc
      go_enter Try.func7, Try.ntmps7
      go_upto_region 3 with (first | (go_at_call 13; ((with_reducible refine (cab _).mono ?_); rintro e w1 ⟨rfl, hb1⟩; replace H0 := Lib.hid (H0.out.below hb1); clear hb1; (try clear a0 a1 b0 b1 c0 c1); obtain ⟨a0, a1, b0, b1, c0, c1⟩ := H0.out.six)) | (go_at_call 13; ((with_reducible refine (cba _).mono ?_); rintro e w1 ⟨rfl, hb1⟩; replace H0 := Lib.hid (H0.out.below hb1); clear hb1; (try clear a0 a1 b0 b1 c0 c1); obtain ⟨a0, a1, b0, b1, c0, c1⟩ := H0.out.six)) | (go_at_call 13; ((with_reducible refine (caa _).mono ?_); rintro e w1 ⟨rfl, hb1⟩; replace H0 := Lib.hid (H0.out.below hb1); clear hb1; (try clear a0 a1 b0 b1 c0 c1); obtain ⟨a0, a1, b0, b1, c0, c1⟩ := H0.out.six)))
      go_upto_region 4 with (go_at_call 15; ((with_reducible refine (HM _).mono ?_); rintro e w4 ⟨rfl, hb4⟩; replace H0 := Lib.hid ((H0.out.below (one_box _ _ _)).below hb4)))
      replace H0 := Lib.hid (H0.out.more #[.int .u32 M1, .int .i64 M2] 24)
      generalize w4.alloc (.cells #[.int .u32 M1, .int .i64 M2] 24) = W4 at *
      generalize w4.heap.size = G at *
      obtain ⟨a0, a1, b0, b1, c0, c1, m0, m1⟩ := H0.out.eightO
      go_wp2_with (first | (go_at_call 10; ((with_reducible refine (awake6_any _).mono ?_); rintro e w1 ⟨rfl, hb1⟩; replace H0 := Lib.hid (H0.out.below hb1); clear hb1 a0 a1 b0 b1 c0 c1 m0 m1; obtain ⟨a0, a1, b0, b1, c0, c1, m0, m1⟩ := H0.out.eightO)) | (go_at_call 13; ((with_reducible refine (cab _).mono ?_); rintro e w1 ⟨rfl, hb1⟩; replace H0 := Lib.hid (H0.out.below hb1); clear hb1; (try clear a0 a1 b0 b1 c0 c1 m0 m1); obtain ⟨a0, a1, b0, b1, c0, c1, m0, m1⟩ := H0.out.eightO)) | (go_at_call 13; ((with_reducible refine (cbc _).mono ?_); rintro e w1 ⟨rfl, hb1⟩; replace H0 := Lib.hid (H0.out.below hb1); clear hb1; (try clear a0 a1 b0 b1 c0 c1 m0 m1); obtain ⟨a0, a1, b0, b1, c0, c1, m0, m1⟩ := H0.out.eightO)) | (go_at_call 13; ((with_reducible refine (cac _).mono ?_); rintro e w1 ⟨rfl, hb1⟩; replace H0 := Lib.hid (H0.out.below hb1); clear hb1; (try clear a0 a1 b0 b1 c0 c1 m0 m1); obtain ⟨a0, a1, b0, b1, c0, c1, m0, m1⟩ := H0.out.eightO)) | (go_at_call 13; ((with_reducible refine (cma _).mono ?_); rintro e w1 ⟨rfl, hb1⟩; replace H0 := Lib.hid (H0.out.below hb1); clear hb1; (try clear a0 a1 b0 b1 c0 c1 m0 m1); obtain ⟨a0, a1, b0, b1, c0, c1, m0, m1⟩ := H0.out.eightO)) | (go_at_call 13; ((with_reducible refine (cmb _).mono ?_); rintro e w1 ⟨rfl, hb1⟩; replace H0 := Lib.hid (H0.out.below hb1); clear hb1; (try clear a0 a1 b0 b1 c0 c1 m0 m1); obtain ⟨a0, a1, b0, b1, c0, c1, m0, m1⟩ := H0.out.eightO)) | (go_at_call 13; ((with_reducible refine (cmc _).mono ?_); rintro e w1 ⟨rfl, hb1⟩; replace H0 := Lib.hid (H0.out.below hb1); clear hb1; (try clear a0 a1 b0 b1 c0 c1 m0 m1); obtain ⟨a0, a1, b0, b1, c0, c1, m0, m1⟩ := H0.out.eightO)))
      go_ret
      exact ⟨rfl, H0.out.bel⟩
end Go.Proofs.Ytcmboanepllgjaa
