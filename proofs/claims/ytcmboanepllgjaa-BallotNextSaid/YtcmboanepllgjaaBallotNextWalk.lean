/- The walk of the statement BallotNext. Conditions: the ballots' rounds fit their kind. -/
import Derived.Test.YtcmboanepllgjaaBallotNext

import Derived.Test.YtcmboanepllgjaaBallotTake

import Derived.Test.YtcmboanepllgjaaBallotPut

import Derived.Deep.RegionHeld3

import Derived.Deep.RegionWith

import Derived.Laws.StructEq

namespace Go.Proofs.Ytcmboanepllgjaa

open Go.RowKit

set_option linter.unusedVariables false

/-- Boxes, and a reader beside them. -/
def BoxR (w W : World) (g : Nat) (l : List UInt8) (ok : Bool) (bs : List (Nat × Array Value × TypeId)) : Prop := Boxs w W bs ∧ RdAt W g l ok ∧ w.heap.size ≤ g ∧ ∀ b ∈ bs, b.1 ≠ g
section

variable {w W W' : World} {g : Nat} {l l' : List UInt8} {ok ok' : Bool} {bs : List (Nat × Array Value × TypeId)}

theorem BoxR.box (h : BoxR w W g l ok bs) : Boxs w W bs := h.1
theorem BoxR.rd (h : BoxR w W g l ok bs) : RdAt W g l ok := h.2.1
theorem BoxR.below (h : BoxR w W g l ok bs) (hb : Below W.heap.size W W') : BoxR w W' g l ok bs := ⟨h.1.below hb, h.2.1.below hb, h.2.2⟩
theorem BoxR.drew (h : BoxR w W g l ok bs) : BoxR w W.drew g l ok bs := ⟨h.1.drew, h.2.1, h.2.2⟩
theorem BoxR.only (h : BoxR w W g l ok bs) (hr : RdAt W' g l' ok') (ho : Only g W W') : BoxR w W' g l' ok' bs := ⟨h.1.only ho h.2.2.1 h.2.2.2, hr, h.2.2⟩
theorem BoxR.new (h : Boxs w W bs) (hr : RdAt W' g l ok) (hb : Below W.heap.size W W') (hg : W.heap.size ≤ g) : BoxR w W' g l ok bs :=
  ⟨h.below hb, hr, Nat.le_trans h.1.size hg, fun b hb' => by have := (h.2 b hb').lt; omega⟩
end

/-- Next, as it answers there. -/
abbrev NextC (r n m : Int) (x : Bal × Int) : Prop := ∀ W, Calls Try.prog 8 #[.agg #[.int .u32 r, .int .i64 n], .int .i64 m] W (NextP W x)
theorem start3 (w : World) (r n r' n' m m' : Int) : Boxs w (((w.alloc (.cells #[.int .u32 r, .int .i64 n] 24)).alloc (.cells #[.int .u32 r', .int .i64 n'] 24)).alloc (.cells #[.int .i64 m, .int .i64 m'] 55))
    [(w.heap.size + 1 + 1, #[.int .i64 m, .int .i64 m'], 55), (w.heap.size + 1, #[.int .u32 r', .int .i64 n'], 24), (w.heap.size, #[.int .u32 r, .int .i64 n], 24)] := by
  have H0 := (((Boxs.start w).more #[.int .u32 r, .int .i64 n] 24).more #[.int .u32 r', .int .i64 n'] 24).more #[.int .i64 m, .int .i64 m'] 55
  have hs : (w.alloc (.cells #[.int .u32 r, .int .i64 n] 24)).heap.size = w.heap.size + 1 := by simp
  have hs2 : ((w.alloc (.cells #[.int .u32 r, .int .i64 n] 24)).alloc (.cells #[.int .u32 r', .int .i64 n'] 24)).heap.size = w.heap.size + 1 + 1 := by simp
  rw [hs, hs2] at H0
  exact H0

set_option maxHeartbeats 1000000 in
theorem next6_bad (r n r' n' m m' : Int) (w : World) (p q e p' q' f : Int) (cN : NextC r n m ((p, q), e)) (cM : NextC r' n' m' ((p', q'), f)) (hef : (e == 0) = false ∨ (e = 0 ∧ (f == 0) = false)) :
    Calls Try.prog 6 #[.agg #[.int .u32 r, .int .i64 n], .agg #[.int .u32 r', .int .i64 n'], .agg #[.int .i64 m, .int .i64 m']] w (Says w true) := by
  rcases hef with h1 | ⟨rfl, h2⟩
  all_goals
    have H0 := Lib.hid (start3 w r n r' n' m m').drew
    go_enter Try.func6, Try.ntmps6
    go_upto_region 1 with (fail)
    go_region
    generalize (((w.alloc (.cells #[.int .u32 r, .int .i64 n] 24)).alloc (.cells #[.int .u32 r', .int .i64 n'] 24)).alloc (.cells #[.int .i64 m, .int .i64 m'] 55)).drew = W0 at *
    obtain ⟨a0, a1⟩ := (H0.out.get 2 _ _ _ rfl).two
    go_upto_region 3 with (go_at_call 8; ((with_reducible refine (cN _).mono ?_); rintro e w1 ⟨rfl, hb1⟩; have H1 := Lib.hid (H0.out.below hb1)))
    have H2 := Lib.hid (H1.out.more #[.int .u32 p, .int .i64 q] 24)
    clear H0 H1 hb1 a0 a1
    generalize w1.alloc (.cells #[.int .u32 p, .int .i64 q] 24) = W2 at *
    generalize w1.heap.size = G1 at *
    obtain ⟨b0, b1⟩ := (H2.out.get 2 _ _ _ rfl).two
    go_upto_region 4 with (go_at_call 8; ((with_reducible refine (cM _).mono ?_); rintro e w3 ⟨rfl, hb3⟩; have H3 := Lib.hid (H2.out.below hb3)))
    have H4 := Lib.hid (H3.out.more #[.int .u32 p', .int .i64 q'] 24)
    clear H2 H3 hb3 b0 b1
    generalize w3.alloc (.cells #[.int .u32 p', .int .i64 q'] 24) = W4 at *
    generalize w3.heap.size = G2 at *
    go_wp2_with (first | (go_at_call 10; ((with_reducible refine (awake6_any _).mono ?_); rintro e w1 ⟨rfl, hb1⟩; have H5 := Lib.hid (H4.out.below hb1); clear hb1 H4)) | (go_at_call 10; ((with_reducible refine (awake6_any _).mono ?_); rintro e w1 ⟨rfl, hb1⟩; have H6 := Lib.hid (H5.out.below hb1); clear hb1 H5)))
    go_ret
    exact ⟨rfl, H6.out.bel⟩

theorem Boxs.sixN {w W : World} {g1 g3 g4 : Nat} {c3 c2 : Nat × Array Value × TypeId} {x1 x3 x4 y1 y3 y4 : Value} {t1 t3 t4 : TypeId} (h : Boxs w W [(g4, #[x4, y4], t4), (g3, #[x3, y3], t3), c3, c2, (g1, #[x1, y1], t1)]) :
    W.cell? ⟨g1, 0, none⟩ = some x1 ∧ W.cell? ⟨g1, 1, none⟩ = some y1 ∧ W.cell? ⟨g3, 0, none⟩ = some x3 ∧ W.cell? ⟨g3, 1, none⟩ = some y3 ∧ W.cell? ⟨g4, 0, none⟩ = some x4 ∧ W.cell? ⟨g4, 1, none⟩ = some y4 :=
  ⟨(h.get 4 _ _ _ rfl).two.1, (h.get 4 _ _ _ rfl).two.2, (h.get 1 _ _ _ rfl).two.1, (h.get 1 _ _ _ rfl).two.2, (h.get 0 _ _ _ rfl).two.1, (h.get 0 _ _ _ rfl).two.2⟩

set_option maxHeartbeats 2000000 in
theorem next6_ok (r n r' n' m m' : Int) (w : World) (p p' : Nat) (hp : p < 4294967296) (cN : NextC r n m ((p, m), 0)) (cM : NextC r' n' m' ((p', m'), 0)) (hf : formB m = true) (hl : lessB (r, n) (p, m) = true) (hmm : m = m' ∨ ((m == m') = false ∧ m ≠ m')) :
    Calls Try.prog 6 #[.agg #[.int .u32 r, .int .i64 n], .agg #[.int .u32 r', .int .i64 n'], .agg #[.int .i64 m, .int .i64 m']] w (Says w true) := by
  have cL : ∀ W, Calls Try.prog 13 #[.agg #[.int .u32 r, .int .i64 n], .agg #[.int .u32 p, .int .i64 m]] W (Says W true) := fun W => hl ▸ bLess_any r n p m W
  have cF : ∀ W, Calls Try.prog 11 #[.agg #[.int .u32 p, .int .i64 m]] W (Says W true) := fun W => hf ▸ bFormed_any p m W
  have cP : ∀ W, Calls Try.prog 21 #[.slice none 0 0, .agg #[.int .u32 p, .int .i64 m]] W (NewB W (balB p m)) := fun W => bPut_any none 0 0 p m [] W BAt.nil (by omega) hp
  have hm5 : 0 ≤ m ∧ m < 5 := by simp [formB] at hf; exact hf
  obtain ⟨k1, k2, k3, k4⟩ := bal_back p m hp hm5.1 hm5.2
  have cT : ∀ (g : Nat) (W : World), RdAt W g (balB p m) true → Calls Try.prog 18 #[.pointer (some ⟨g, 0, none⟩)] W (GotB g [] true (p, m) W) := fun g W hW => by
    have := bTake_yes g (balB p m) W hW k3
    rw [k1, k2, k4] at this
    exact this
  have HLen : Hid (∀ q : Nat, (balB p m).length = q → q ≤ 1099511627776) := fun q hq => by rw [balB_len] at hq; omega
  clear k1 k2 k3 k4 hl hf hm5 hp
  rcases hmm with rfl | ⟨d1, d2⟩
  · have d1 : (m == m) = true := by simp
    have H0 := Lib.hid (start3 w r n r' n' m m).drew
    go_enter Try.func6, Try.ntmps6
    go_upto_region 1 with (fail)
    go_region
    generalize (((w.alloc (.cells #[.int .u32 r, .int .i64 n] 24)).alloc (.cells #[.int .u32 r', .int .i64 n'] 24)).alloc (.cells #[.int .i64 m, .int .i64 m] 55)).drew = W0 at *
    obtain ⟨a0, a1⟩ := (H0.out.get 2 _ _ _ rfl).two
    go_upto_region 3 with (go_at_call 8; ((with_reducible refine (cN _).mono ?_); rintro e w1 ⟨rfl, hb1⟩; have H1 := Lib.hid (H0.out.below hb1)))
    have H2 := Lib.hid (H1.out.more #[.int .u32 p, .int .i64 m] 24)
    clear H0 H1 hb1 a0 a1
    generalize w1.alloc (.cells #[.int .u32 p, .int .i64 m] 24) = W2 at *
    generalize w1.heap.size = G1 at *
    obtain ⟨b0, b1⟩ := (H2.out.get 2 _ _ _ rfl).two
    go_upto_region 4 with (go_at_call 8; ((with_reducible refine (cM _).mono ?_); rintro e w3 ⟨rfl, hb3⟩; have H3 := Lib.hid (H2.out.below hb3)))
    have H4 := Lib.hid (H3.out.more #[.int .u32 p', .int .i64 m] 24)
    clear H2 H3 hb3 b0 b1
    generalize w3.alloc (.cells #[.int .u32 p', .int .i64 m] 24) = W4 at *
    generalize w3.heap.size = G2 at *
    obtain ⟨x0, x1⟩ := (H4.out.get 1 _ _ _ rfl).two
    go_upto_region 7 with (first | (go_at_call 10; ((with_reducible refine (awake6_any _).mono ?_); rintro e w1 ⟨rfl, hb1⟩; have H5 := Lib.hid (H4.out.below hb1); clear hb1 H4 x0 x1; obtain ⟨x0, x1⟩ := (H5.out.get 1 _ _ _ rfl).two)) | (go_at_call 21; ((with_reducible refine (cP _).mono ?_); rintro e w6 ⟨a6, n6, c6, rfl, ho6, hb6⟩; have H6 := Lib.hid (H5.out.below hb6); have L6 := Lib.hid (BAt.of_own ho6); have M6 := Lib.hid (HLen.out _ (own_len ho6)))) | (go_at_call 17; ((with_reducible refine (new_any a6 n6 c6 _ _ L6.out M6.out).mono ?_); rintro e w7 ⟨g7, rfl, hr7, hg7, hg7', hb7⟩; have H7 := Lib.hid (BoxR.new H6.out hr7 hb7 hg7))))
    clear x0 x1
    have HD := Lib.hid H7.out.drew
    have s0 := H7.out.box.sixN
    first | (go_region_with (first | (go_at_call 13; ((with_reducible refine (cL _).mono ?_); rintro e v1 ⟨rfl, hb1⟩; have X1 := Lib.hid (HD.out.below hb1); have s1 := X1.out.box.sixN)) | (go_at_call 11; ((with_reducible refine (cF _).mono ?_); rintro e v2 ⟨rfl, hb2⟩; have X2 := Lib.hid (X1.out.below hb2); have s2 := X2.out.box.sixN)) | (go_at_call 18; ((with_reducible refine (cT g7 _ X2.out.rd).mono ?_); rintro e v3 ⟨rfl, hr3, ho3⟩; have X3 := Lib.hid (X2.out.only hr3 ho3); have s3 := X3.out.box.sixN)) | (go_at_call 26; ((with_reducible refine (end_any g7 [] true _ X3.out.rd).mono ?_); rintro e v4 ⟨rfl, rfl⟩)))) | fail
    all_goals
      go_wp2
      go_ret
      exact ⟨rfl, X3.out.box.bel⟩
  · have H0 := Lib.hid (start3 w r n r' n' m m').drew
    go_enter Try.func6, Try.ntmps6
    go_upto_region 1 with (fail)
    go_region
    generalize (((w.alloc (.cells #[.int .u32 r, .int .i64 n] 24)).alloc (.cells #[.int .u32 r', .int .i64 n'] 24)).alloc (.cells #[.int .i64 m, .int .i64 m'] 55)).drew = W0 at *
    obtain ⟨a0, a1⟩ := (H0.out.get 2 _ _ _ rfl).two
    go_upto_region 3 with (go_at_call 8; ((with_reducible refine (cN _).mono ?_); rintro e w1 ⟨rfl, hb1⟩; have H1 := Lib.hid (H0.out.below hb1)))
    have H2 := Lib.hid (H1.out.more #[.int .u32 p, .int .i64 m] 24)
    clear H0 H1 hb1 a0 a1
    generalize w1.alloc (.cells #[.int .u32 p, .int .i64 m] 24) = W2 at *
    generalize w1.heap.size = G1 at *
    obtain ⟨b0, b1⟩ := (H2.out.get 2 _ _ _ rfl).two
    go_upto_region 4 with (go_at_call 8; ((with_reducible refine (cM _).mono ?_); rintro e w3 ⟨rfl, hb3⟩; have H3 := Lib.hid (H2.out.below hb3)))
    have H4 := Lib.hid (H3.out.more #[.int .u32 p', .int .i64 m'] 24)
    clear H2 H3 hb3 b0 b1
    generalize w3.alloc (.cells #[.int .u32 p', .int .i64 m'] 24) = W4 at *
    generalize w3.heap.size = G2 at *
    obtain ⟨x0, x1⟩ := (H4.out.get 1 _ _ _ rfl).two
    go_upto_region 7 with (first | (go_at_call 10; ((with_reducible refine (awake6_any _).mono ?_); rintro e w1 ⟨rfl, hb1⟩; have H5 := Lib.hid (H4.out.below hb1); clear hb1 H4 x0 x1; obtain ⟨x0, x1⟩ := (H5.out.get 1 _ _ _ rfl).two)) | (go_at_call 21; ((with_reducible refine (cP _).mono ?_); rintro e w6 ⟨a6, n6, c6, rfl, ho6, hb6⟩; have H6 := Lib.hid (H5.out.below hb6); have L6 := Lib.hid (BAt.of_own ho6); have M6 := Lib.hid (HLen.out _ (own_len ho6)))) | (go_at_call 17; ((with_reducible refine (new_any a6 n6 c6 _ _ L6.out M6.out).mono ?_); rintro e w7 ⟨g7, rfl, hr7, hg7, hg7', hb7⟩; have H7 := Lib.hid (BoxR.new H6.out hr7 hb7 hg7))))
    clear x0 x1
    have HD := Lib.hid H7.out.drew
    have s0 := H7.out.box.sixN
    go_region_held3 (fun w' => w'.cell? ⟨w.heap.size, 0, none⟩ = some (.int .u32 r) ∧ w'.cell? ⟨w.heap.size, 1, none⟩ = some (.int .i64 n) ∧ w'.cell? ⟨G1, 0, none⟩ = some (.int .u32 p) ∧ w'.cell? ⟨G1, 1, none⟩ = some (.int .i64 m) ∧ w'.cell? ⟨G2, 0, none⟩ = some (.int .u32 p') ∧ w'.cell? ⟨G2, 1, none⟩ = some (.int .i64 m')) (first | exact s0 | exact s1 | exact s2 | exact s3)
      (first | (go_at_call 13; ((with_reducible refine (cL _).mono ?_); rintro e v1 ⟨rfl, hb1⟩; have X1 := Lib.hid (HD.out.below hb1); have s1 := X1.out.box.sixN)) | (go_at_call 11; ((with_reducible refine (cF _).mono ?_); rintro e v2 ⟨rfl, hb2⟩; have X2 := Lib.hid (X1.out.below hb2); have s2 := X2.out.box.sixN)) | (go_at_call 18; ((with_reducible refine (cT g7 _ X2.out.rd).mono ?_); rintro e v3 ⟨rfl, hr3, ho3⟩; have X3 := Lib.hid (X2.out.only hr3 ho3); have s3 := X3.out.box.sixN)) | (go_at_call 26; ((with_reducible refine (end_any g7 [] true _ X3.out.rd).mono ?_); rintro e v4 ⟨rfl, rfl⟩)))
    go_wp2
    go_ret
    exact ⟨rfl, X3.out.box.bel⟩
end Go.Proofs.Ytcmboanepllgjaa
