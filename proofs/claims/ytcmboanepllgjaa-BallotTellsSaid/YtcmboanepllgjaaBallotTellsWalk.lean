/- The walk of the statement BallotTells. Conditions: the ballots' rounds fit their kind. -/
import Derived.Test.YtcmboanepllgjaaBallotNext

import Derived.Deep.RegionHeld3

import Derived.Laws.StructEq

namespace Go.Proofs.Ytcmboanepllgjaa

open Go.RowKit

set_option linter.unusedVariables false

/-- Eight cells of four ballots. -/
theorem Boxs.eight {w W : World} {g1 g2 g3 g4 : Nat} {x1 x2 x3 x4 y1 y2 y3 y4 : Value} {t1 t2 t3 t4 : TypeId} (h : Boxs w W [(g4, #[x4, y4], t4), (g3, #[x3, y3], t3), (g2, #[x2, y2], t2), (g1, #[x1, y1], t1)]) :
    W.cell? ⟨g1, 0, none⟩ = some x1 ∧ W.cell? ⟨g1, 1, none⟩ = some y1 ∧ W.cell? ⟨g2, 0, none⟩ = some x2 ∧ W.cell? ⟨g2, 1, none⟩ = some y2 ∧
    W.cell? ⟨g3, 0, none⟩ = some x3 ∧ W.cell? ⟨g3, 1, none⟩ = some y3 ∧ W.cell? ⟨g4, 0, none⟩ = some x4 ∧ W.cell? ⟨g4, 1, none⟩ = some y4 :=
  ⟨(h.get 3 _ _ _ rfl).two.1, (h.get 3 _ _ _ rfl).two.2, (h.get 2 _ _ _ rfl).two.1, (h.get 2 _ _ _ rfl).two.2, (h.get 1 _ _ _ rfl).two.1, (h.get 1 _ _ _ rfl).two.2, (h.get 0 _ _ _ rfl).two.1, (h.get 0 _ _ _ rfl).two.2⟩

set_option maxHeartbeats 2000000 in
theorem tells6_walk (r n r' n' m : Int) (w : World) (h0 : 0 ≤ r) (h1 : r < 4294967296) :
    Calls Try.prog 3 #[.agg #[.int .u32 r, .int .i64 n], .agg #[.int .u32 r', .int .i64 n'], .int .i64 m] w (Says w true) := by
  have cN : ∀ W, Calls Try.prog 8 #[.agg #[.int .u32 r, .int .i64 n], .int .i64 m] W (NextP W (nextB (r, n) m)) := fun W => bNext_any r n m W h0 h1
  have cM : ∀ W, Calls Try.prog 9 #[.agg #[.int .u32 r, .int .i64 n], .int .i64 m] W (NextP W (nextB (r, n) m)) := fun W => rNext_any r n m W h0 h1
  have cF := fun W => bFormed_any r n W
  have cG := fun W => rFormed_any r n W
  have cL := fun W => bLess_any r n r' n' W
  have cK := fun W => rLess_any r n r' n' W
  generalize nextB (r, n) m = z at cN cM
  generalize formB n = fb at cF cG
  generalize lessB (r, n) (r', n') = lb at cL cK
  obtain ⟨⟨p, q⟩, e⟩ := z
  have H0 := Lib.hid (((Boxs.start w).more #[.int .u32 r, .int .i64 n] 24).more #[.int .u32 r', .int .i64 n'] 24)
  have hs : (w.alloc (.cells #[.int .u32 r, .int .i64 n] 24)).heap.size = w.heap.size + 1 := by simp
  rw [hs] at H0
  clear hs
  go_enter Try.func3, Try.ntmps3
  go_upto_region 2 with (go_at_call 8; ((with_reducible refine (cN _).mono ?_); rintro e w1 ⟨rfl, hb1⟩; have H1 := Lib.hid (H0.out.below hb1)))
  have H2 := Lib.hid (H1.out.more #[.int .u32 p, .int .i64 q] 24)
  clear H0 H1 hb1
  generalize w1.alloc (.cells #[.int .u32 p, .int .i64 q] 24) = W2 at *
  generalize w1.heap.size = G1 at *
  obtain ⟨a0, a1⟩ := (H2.out.get 2 _ _ _ rfl).two
  go_upto_region 3 with (go_at_call 9; ((with_reducible refine (cM _).mono ?_); rintro e w3 ⟨rfl, hb3⟩; have H3 := Lib.hid (H2.out.below hb3)))
  have H4 := Lib.hid (H3.out.more #[.int .u32 p, .int .i64 q] 28)
  clear H2 H3 hb3 a0 a1
  generalize w3.alloc (.cells #[.int .u32 p, .int .i64 q] 28) = W4 at *
  generalize w3.heap.size = G2 at *
  have HD := Lib.hid H4.out.drew
  have s0 := H4.out.eight
  go_region_held3 (fun w' => w'.cell? ⟨w.heap.size, 0, none⟩ = some (.int .u32 r) ∧ w'.cell? ⟨w.heap.size, 1, none⟩ = some (.int .i64 n) ∧ w'.cell? ⟨w.heap.size + 1, 0, none⟩ = some (.int .u32 r') ∧ w'.cell? ⟨w.heap.size + 1, 1, none⟩ = some (.int .i64 n') ∧ w'.cell? ⟨G1, 0, none⟩ = some (.int .u32 p) ∧ w'.cell? ⟨G1, 1, none⟩ = some (.int .i64 q) ∧ w'.cell? ⟨G2, 0, none⟩ = some (.int .u32 p) ∧ w'.cell? ⟨G2, 1, none⟩ = some (.int .i64 q)) (first | exact s0 | exact s1 | exact s2 | exact s3 | exact s4 | exact s5)
    (first | (go_at_call 10; ((with_reducible refine (awake6_any _).mono ?_); rintro e v1 ⟨rfl, hb1⟩; have X1 := Lib.hid (HD.out.below hb1); have s1 := X1.out.eight)) | (go_at_call 11; ((with_reducible refine (cF _).mono ?_); rintro e v2 ⟨rfl, hb2⟩; have X2 := Lib.hid (X1.out.below hb2); have s2 := X2.out.eight)) | (go_at_call 12; ((with_reducible refine (cG _).mono ?_); rintro e v3 ⟨rfl, hb3⟩; have X3 := Lib.hid (X2.out.below hb3); have s3 := X3.out.eight)) | (go_at_call 13; ((with_reducible refine (cL _).mono ?_); rintro e v4 ⟨rfl, hb4⟩; have X4 := Lib.hid (X3.out.below hb4); have s4 := X4.out.eight)) | (go_at_call 14; ((with_reducible refine (cK _).mono ?_); rintro e v5 ⟨rfl, hb5⟩; have X5 := Lib.hid (X4.out.below hb5); have s5 := X5.out.eight)))
  go_wp2
  go_ret
  exact ⟨rfl, X5.out.bel⟩
end Go.Proofs.Ytcmboanepllgjaa
