/- The walk of the statement CommandForms. Conditions: the commands' lists lie in memory; the tables of utf8 lie there. -/
import Derived.Test.YtpkbjbhmghdnoaaDoorGT
import Derived.Test.YtpkbjbhmghdnoaaDoorCommandRefFormed
import Derived.RegionTactic
import Derived.ChangeAlike
import Derived.Deep.DeepCutAuto
import Derived.Deep.RegionHeld3
import Derived.Laws.StructEq
namespace Go.Proofs.YtpkbjbhmghdnoaaDoor

open Go.RowKit

set_option linter.unusedVariables false

theorem Boxs.swap {w W : World} {a b : Nat × Array Value × TypeId} {l : List (Nat × Array Value × TypeId)} (h : Boxs w W (a :: b :: l)) : Boxs w W (b :: a :: l) := by
  refine ⟨h.1, fun c hc => h.2 c ?_⟩
  simp only [List.mem_cons] at hc ⊢
  rcases hc with h | h | h
  · exact .inr (.inl h)
  · exact .inl h
  · exact .inr (.inr h)

set_option maxRecDepth 100000 in
set_option maxHeartbeats 8000000 in
theorem forms9_walk (x y : CmM) (rs rs' : List RdM) (ws ws' : List WrM) (w : World) (h : CmAt w x rs ws) (h' : CmAt w y rs' ws') (hU : Tabs w) :
    Calls Tryd.prog 3 #[.agg (cmV x), .agg (cmV y)] w (Says w true) := by
  have H0 := Lib.hid (((Boxs.start w).more (cmV x) 30).more (cmV y) 30)
  have hs : (w.alloc (.cells (cmV x) 30)).heap.size = w.heap.size + 1 := by simp
  rw [hs] at H0
  have cA := fun W (hW : Below w.heap.size w W) => awake9_any W (hU.below hW)
  have cW := fun W (hW : Below w.heap.size w W) => few9_any x rs ws W (h.later hW)
  have cW' := fun W (hW : Below w.heap.size w W) => few9_any y rs' ws' W (h'.later hW)
  have hl := h.tx.lenR
  have hk := h.tx.lenW
  obtain ⟨x0, x1, x2, x3, x4, x5, x6, x7, x8, x9⟩ := (H0.out.get 1 _ _ _ rfl).ten; obtain ⟨y0, y1, y2, y3, y4, y5, y6, y7, y8, y9⟩ := (H0.out.get 0 _ _ _ rfl).ten
  cases hf : fewT rs ws
  · rw [hf] at cW
    clear hf cW' h h' hU
    go_enter Tryd.func3, Tryd.ntmps3
    go_upto_region 2 with (first | (go_at_call 7; ((with_reducible refine (cA _ H0.out.bel).mono ?_); rintro e w1 ⟨rfl, hb1⟩; have H1 := Lib.hid (H0.out.below hb1); (clear x0 x1 x2 x3 x4 x5 x6 x7 x8 x9 y0 y1 y2 y3 y4 y5 y6 y7 y8 y9); obtain ⟨x0, x1, x2, x3, x4, x5, x6, x7, x8, x9⟩ := (H1.out.get 1 _ _ _ rfl).ten; obtain ⟨y0, y1, y2, y3, y4, y5, y6, y7, y8, y9⟩ := (H1.out.get 0 _ _ _ rfl).ten)) | (go_at_call 8; ((with_reducible refine (cW _ H1.out.bel).mono ?_); rintro e w2 ⟨rfl, hb2⟩; have H2 := Lib.hid (H1.out.below hb2))))
    go_wp2_with (go_at_call 7; ((with_reducible refine (cA _ H2.out.bel).mono ?_); rintro e w3 ⟨rfl, hb3⟩; have H3 := Lib.hid (H2.out.below hb3)))
    go_ret
    exact ⟨rfl, H3.out.bel⟩
  rw [hf] at cW
  cases hf' : fewT rs' ws'
  · rw [hf'] at cW'
    clear hf hf' h h' hU
    go_enter Tryd.func3, Tryd.ntmps3
    go_upto_region 2 with (first | (go_at_call 7; ((with_reducible refine (cA _ H0.out.bel).mono ?_); rintro e w1 ⟨rfl, hb1⟩; have H1 := Lib.hid (H0.out.below hb1); (clear x0 x1 x2 x3 x4 x5 x6 x7 x8 x9 y0 y1 y2 y3 y4 y5 y6 y7 y8 y9); obtain ⟨x0, x1, x2, x3, x4, x5, x6, x7, x8, x9⟩ := (H1.out.get 1 _ _ _ rfl).ten; obtain ⟨y0, y1, y2, y3, y4, y5, y6, y7, y8, y9⟩ := (H1.out.get 0 _ _ _ rfl).ten)) | (go_at_call 8; ((with_reducible refine (cW _ H1.out.bel).mono ?_); rintro e w2 ⟨rfl, hb2⟩; have H2 := Lib.hid (H1.out.below hb2); (clear x0 x1 x2 x3 x4 x5 x6 x7 x8 x9 y0 y1 y2 y3 y4 y5 y6 y7 y8 y9); obtain ⟨x0, x1, x2, x3, x4, x5, x6, x7, x8, x9⟩ := (H2.out.get 1 _ _ _ rfl).ten; obtain ⟨y0, y1, y2, y3, y4, y5, y6, y7, y8, y9⟩ := (H2.out.get 0 _ _ _ rfl).ten)) | (go_at_call 8; ((with_reducible refine (cW' _ H2.out.bel).mono ?_); rintro e w3 ⟨rfl, hb3⟩; have H3 := Lib.hid (H2.out.below hb3))))
    go_wp2_with (go_at_call 7; ((with_reducible refine (cA _ H3.out.bel).mono ?_); rintro e w4 ⟨rfl, hb4⟩; have H4 := Lib.hid (H3.out.below hb4)))
    go_ret
    exact ⟨rfl, H4.out.bel⟩
  rw [hf'] at cW'
  have hn : x.n ≤ 1000000 := by have := (fewT_len hf).1; omega
  have hm : x.m ≤ 1000000 := by have := (fewT_len hf).2; omega
  have cF := fun W (hW : Below w.heap.size w W) => kFormed_any x rs ws W (h.later hW) hn hm (hU.below hW)
  have cF2 := fun W (hW : Below w.heap.size w W) => dFormed_any x rs ws W (h.later hW) hn hm
  have cL := fun W (hW : Below w.heap.size w W) => kLabel_any x W
  have cL2 := fun W (hW : Below w.heap.size w W) => dLabel_any x W
  have cS := fun W (hW : Below w.heap.size w W) => kSame_any x y rs rs' ws ws' W (h.later hW) (h'.later hW) hn hm
  have cS2 := fun W (hW : Below w.heap.size w W) => dSame_any x y rs rs' ws ws' W (h.later hW) (h'.later hW) hn hm
  have cS3 := fun W (hW : Below w.heap.size w W) => kSame_any x x rs rs ws ws W (h.later hW) (h.later hW) hn hm
  rw [sameC_self] at cS3
  generalize formCm (cmT x rs ws) = B1 at cF cF2
  generalize labelM x = B2 at cL cL2
  generalize sameC x y rs rs' ws ws' = B3 at cS cS2
  clear hf hf' h h' hU hl hk hn hm
  go_enter Tryd.func3, Tryd.ntmps3
  go_upto_region 3 with (first | (go_at_call 7; ((with_reducible refine (cA _ H0.out.bel).mono ?_); rintro e w1 ⟨rfl, hb1⟩; have H1 := Lib.hid (H0.out.below hb1); (clear x0 x1 x2 x3 x4 x5 x6 x7 x8 x9 y0 y1 y2 y3 y4 y5 y6 y7 y8 y9); obtain ⟨x0, x1, x2, x3, x4, x5, x6, x7, x8, x9⟩ := (H1.out.get 1 _ _ _ rfl).ten; obtain ⟨y0, y1, y2, y3, y4, y5, y6, y7, y8, y9⟩ := (H1.out.get 0 _ _ _ rfl).ten)) | (go_at_call 8; ((with_reducible refine (cW _ H1.out.bel).mono ?_); rintro e w2 ⟨rfl, hb2⟩; have H2 := Lib.hid (H1.out.below hb2); (clear x0 x1 x2 x3 x4 x5 x6 x7 x8 x9 y0 y1 y2 y3 y4 y5 y6 y7 y8 y9); obtain ⟨x0, x1, x2, x3, x4, x5, x6, x7, x8, x9⟩ := (H2.out.get 1 _ _ _ rfl).ten; obtain ⟨y0, y1, y2, y3, y4, y5, y6, y7, y8, y9⟩ := (H2.out.get 0 _ _ _ rfl).ten)) | (go_at_call 8; ((with_reducible refine (cW' _ H2.out.bel).mono ?_); rintro e w3 ⟨rfl, hb3⟩; have H3 := Lib.hid (H2.out.below hb3); (clear x0 x1 x2 x3 x4 x5 x6 x7 x8 x9 y0 y1 y2 y3 y4 y5 y6 y7 y8 y9); obtain ⟨x0, x1, x2, x3, x4, x5, x6, x7, x8, x9⟩ := (H3.out.get 1 _ _ _ rfl).ten; obtain ⟨y0, y1, y2, y3, y4, y5, y6, y7, y8, y9⟩ := (H3.out.get 0 _ _ _ rfl).ten)))
  clear H0 H1 H2
  go_cut [5, 6] (fun p q wr => ∃ G5 G6, p = .pointer (some ⟨G5, 0, none⟩) ∧ q = .pointer (some ⟨G6, 0, none⟩) ∧ Boxs w wr [(G6, cmV y, 33), (G5, cmV x, 33), (w.heap.size + 1, cmV y, 30), (w.heap.size, cmV x, 30)])
  case first =>
    have X1 := Lib.hid (fun o => H3.out.below ((Below.refl w3.heap.size w3).alloc (Nat.le_refl _) o))
    have X2 := Lib.hid (fun o o' => (X1.out o).below ((Below.refl (w3.alloc o).heap.size (w3.alloc o)).alloc (Nat.le_refl _) o'))
    have a0 : ∀ o, (w3.alloc o).cell? ⟨w.heap.size, 0, none⟩ = some (.int .i64 x.k) := fun o => ((X1.out o).get 1 _ _ _ rfl).cell 0 _ rfl
    have aa0 : ∀ o o', ((w3.alloc o).alloc o').cell? ⟨w.heap.size, 0, none⟩ = some (.int .i64 x.k) := fun o o' => ((X2.out o o').get 1 _ _ _ rfl).cell 0 _ rfl
    have a1 : ∀ o, (w3.alloc o).cell? ⟨w.heap.size, 1, none⟩ = some (.int .i64 x.s) := fun o => ((X1.out o).get 1 _ _ _ rfl).cell 1 _ rfl
    have aa1 : ∀ o o', ((w3.alloc o).alloc o').cell? ⟨w.heap.size, 1, none⟩ = some (.int .i64 x.s) := fun o o' => ((X2.out o o').get 1 _ _ _ rfl).cell 1 _ rfl
    have a2 : ∀ o, (w3.alloc o).cell? ⟨w.heap.size, 2, none⟩ = some (.int .i64 x.q) := fun o => ((X1.out o).get 1 _ _ _ rfl).cell 2 _ rfl
    have aa2 : ∀ o o', ((w3.alloc o).alloc o').cell? ⟨w.heap.size, 2, none⟩ = some (.int .i64 x.q) := fun o o' => ((X2.out o o').get 1 _ _ _ rfl).cell 2 _ rfl
    have a3 : ∀ o, (w3.alloc o).cell? ⟨w.heap.size, 3, none⟩ = some (.slice x.a x.n x.c) := fun o => ((X1.out o).get 1 _ _ _ rfl).cell 3 _ rfl
    have aa3 : ∀ o o', ((w3.alloc o).alloc o').cell? ⟨w.heap.size, 3, none⟩ = some (.slice x.a x.n x.c) := fun o o' => ((X2.out o o').get 1 _ _ _ rfl).cell 3 _ rfl
    have a4 : ∀ o, (w3.alloc o).cell? ⟨w.heap.size, 4, none⟩ = some (.slice x.b x.m x.d) := fun o => ((X1.out o).get 1 _ _ _ rfl).cell 4 _ rfl
    have aa4 : ∀ o o', ((w3.alloc o).alloc o').cell? ⟨w.heap.size, 4, none⟩ = some (.slice x.b x.m x.d) := fun o o' => ((X2.out o o').get 1 _ _ _ rfl).cell 4 _ rfl
    have a5 : ∀ o, (w3.alloc o).cell? ⟨w.heap.size, 5, none⟩ = some (.int .i64 x.i) := fun o => ((X1.out o).get 1 _ _ _ rfl).cell 5 _ rfl
    have aa5 : ∀ o o', ((w3.alloc o).alloc o').cell? ⟨w.heap.size, 5, none⟩ = some (.int .i64 x.i) := fun o o' => ((X2.out o o').get 1 _ _ _ rfl).cell 5 _ rfl
    have a6 : ∀ o, (w3.alloc o).cell? ⟨w.heap.size, 6, none⟩ = some (.int .i64 x.j) := fun o => ((X1.out o).get 1 _ _ _ rfl).cell 6 _ rfl
    have aa6 : ∀ o o', ((w3.alloc o).alloc o').cell? ⟨w.heap.size, 6, none⟩ = some (.int .i64 x.j) := fun o o' => ((X2.out o o').get 1 _ _ _ rfl).cell 6 _ rfl
    have a7 : ∀ o, (w3.alloc o).cell? ⟨w.heap.size, 7, none⟩ = some (.int .i64 x.g) := fun o => ((X1.out o).get 1 _ _ _ rfl).cell 7 _ rfl
    have aa7 : ∀ o o', ((w3.alloc o).alloc o').cell? ⟨w.heap.size, 7, none⟩ = some (.int .i64 x.g) := fun o o' => ((X2.out o o').get 1 _ _ _ rfl).cell 7 _ rfl
    have a8 : ∀ o, (w3.alloc o).cell? ⟨w.heap.size, 8, none⟩ = some (.int .u64 ((x.st : Nat) : Int)) := fun o => ((X1.out o).get 1 _ _ _ rfl).cell 8 _ rfl
    have aa8 : ∀ o o', ((w3.alloc o).alloc o').cell? ⟨w.heap.size, 8, none⟩ = some (.int .u64 ((x.st : Nat) : Int)) := fun o o' => ((X2.out o o').get 1 _ _ _ rfl).cell 8 _ rfl
    have a9 : ∀ o, (w3.alloc o).cell? ⟨w.heap.size, 9, none⟩ = some (.bool x.y) := fun o => ((X1.out o).get 1 _ _ _ rfl).cell 9 _ rfl
    have aa9 : ∀ o o', ((w3.alloc o).alloc o').cell? ⟨w.heap.size, 9, none⟩ = some (.bool x.y) := fun o o' => ((X2.out o o').get 1 _ _ _ rfl).cell 9 _ rfl
    have b0 : ∀ o, (w3.alloc o).cell? ⟨w.heap.size + 1, 0, none⟩ = some (.int .i64 y.k) := fun o => ((X1.out o).get 0 _ _ _ rfl).cell 0 _ rfl
    have bb0 : ∀ o o', ((w3.alloc o).alloc o').cell? ⟨w.heap.size + 1, 0, none⟩ = some (.int .i64 y.k) := fun o o' => ((X2.out o o').get 0 _ _ _ rfl).cell 0 _ rfl
    have b1 : ∀ o, (w3.alloc o).cell? ⟨w.heap.size + 1, 1, none⟩ = some (.int .i64 y.s) := fun o => ((X1.out o).get 0 _ _ _ rfl).cell 1 _ rfl
    have bb1 : ∀ o o', ((w3.alloc o).alloc o').cell? ⟨w.heap.size + 1, 1, none⟩ = some (.int .i64 y.s) := fun o o' => ((X2.out o o').get 0 _ _ _ rfl).cell 1 _ rfl
    have b2 : ∀ o, (w3.alloc o).cell? ⟨w.heap.size + 1, 2, none⟩ = some (.int .i64 y.q) := fun o => ((X1.out o).get 0 _ _ _ rfl).cell 2 _ rfl
    have bb2 : ∀ o o', ((w3.alloc o).alloc o').cell? ⟨w.heap.size + 1, 2, none⟩ = some (.int .i64 y.q) := fun o o' => ((X2.out o o').get 0 _ _ _ rfl).cell 2 _ rfl
    have b3 : ∀ o, (w3.alloc o).cell? ⟨w.heap.size + 1, 3, none⟩ = some (.slice y.a y.n y.c) := fun o => ((X1.out o).get 0 _ _ _ rfl).cell 3 _ rfl
    have bb3 : ∀ o o', ((w3.alloc o).alloc o').cell? ⟨w.heap.size + 1, 3, none⟩ = some (.slice y.a y.n y.c) := fun o o' => ((X2.out o o').get 0 _ _ _ rfl).cell 3 _ rfl
    have b4 : ∀ o, (w3.alloc o).cell? ⟨w.heap.size + 1, 4, none⟩ = some (.slice y.b y.m y.d) := fun o => ((X1.out o).get 0 _ _ _ rfl).cell 4 _ rfl
    have bb4 : ∀ o o', ((w3.alloc o).alloc o').cell? ⟨w.heap.size + 1, 4, none⟩ = some (.slice y.b y.m y.d) := fun o o' => ((X2.out o o').get 0 _ _ _ rfl).cell 4 _ rfl
    have b5 : ∀ o, (w3.alloc o).cell? ⟨w.heap.size + 1, 5, none⟩ = some (.int .i64 y.i) := fun o => ((X1.out o).get 0 _ _ _ rfl).cell 5 _ rfl
    have bb5 : ∀ o o', ((w3.alloc o).alloc o').cell? ⟨w.heap.size + 1, 5, none⟩ = some (.int .i64 y.i) := fun o o' => ((X2.out o o').get 0 _ _ _ rfl).cell 5 _ rfl
    have b6 : ∀ o, (w3.alloc o).cell? ⟨w.heap.size + 1, 6, none⟩ = some (.int .i64 y.j) := fun o => ((X1.out o).get 0 _ _ _ rfl).cell 6 _ rfl
    have bb6 : ∀ o o', ((w3.alloc o).alloc o').cell? ⟨w.heap.size + 1, 6, none⟩ = some (.int .i64 y.j) := fun o o' => ((X2.out o o').get 0 _ _ _ rfl).cell 6 _ rfl
    have b7 : ∀ o, (w3.alloc o).cell? ⟨w.heap.size + 1, 7, none⟩ = some (.int .i64 y.g) := fun o => ((X1.out o).get 0 _ _ _ rfl).cell 7 _ rfl
    have bb7 : ∀ o o', ((w3.alloc o).alloc o').cell? ⟨w.heap.size + 1, 7, none⟩ = some (.int .i64 y.g) := fun o o' => ((X2.out o o').get 0 _ _ _ rfl).cell 7 _ rfl
    have b8 : ∀ o, (w3.alloc o).cell? ⟨w.heap.size + 1, 8, none⟩ = some (.int .u64 ((y.st : Nat) : Int)) := fun o => ((X1.out o).get 0 _ _ _ rfl).cell 8 _ rfl
    have bb8 : ∀ o o', ((w3.alloc o).alloc o').cell? ⟨w.heap.size + 1, 8, none⟩ = some (.int .u64 ((y.st : Nat) : Int)) := fun o o' => ((X2.out o o').get 0 _ _ _ rfl).cell 8 _ rfl
    have b9 : ∀ o, (w3.alloc o).cell? ⟨w.heap.size + 1, 9, none⟩ = some (.bool y.y) := fun o => ((X1.out o).get 0 _ _ _ rfl).cell 9 _ rfl
    have bb9 : ∀ o o', ((w3.alloc o).alloc o').cell? ⟨w.heap.size + 1, 9, none⟩ = some (.bool y.y) := fun o o' => ((X2.out o o').get 0 _ _ _ rfl).cell 9 _ rfl

    have E1 := Lib.hid ((H3.out.more (cmV x) 33).more (cmV y) 33).drew
    have E2 := Lib.hid ((H3.out.more (cmV y) 33).more (cmV x) 33).swap.drew
    have e1 : (w3.alloc (.cells (cmV x) 33)).heap.size = w3.heap.size + 1 := by simp
    have e2 : (w3.alloc (.cells (cmV y) 33)).heap.size = w3.heap.size + 1 := by simp
    rw [e1] at E1
    rw [e2] at E2
    clear e1 e2
    go_region
    all_goals (
      go_wp2
      go_meet
      case rel => first | exact ⟨w3.heap.size, w3.heap.size + 1, rfl, rfl, E1.out⟩ | exact ⟨w3.heap.size + 1, w3.heap.size, rfl, rfl, E2.out⟩)
  case rest =>
  obtain ⟨G5, G6, rfl, rfl, hX⟩ := hcut
  have HS : Hid (∀ W, Boxs w W [(G6, cmV y, 33), (G5, cmV x, 33), (w.heap.size + 1, cmV y, 30), (w.heap.size, cmV x, 30)] → ((W.cell? ⟨w.heap.size, 0, none⟩ = some (.int .i64 x.k) ∧ W.cell? ⟨w.heap.size, 1, none⟩ = some (.int .i64 x.s) ∧ W.cell? ⟨w.heap.size, 2, none⟩ = some (.int .i64 x.q) ∧ W.cell? ⟨w.heap.size, 3, none⟩ = some (.slice x.a x.n x.c) ∧ W.cell? ⟨w.heap.size, 4, none⟩ = some (.slice x.b x.m x.d) ∧ W.cell? ⟨w.heap.size, 5, none⟩ = some (.int .i64 x.i) ∧ W.cell? ⟨w.heap.size, 6, none⟩ = some (.int .i64 x.j) ∧ W.cell? ⟨w.heap.size, 7, none⟩ = some (.int .i64 x.g) ∧ W.cell? ⟨w.heap.size, 8, none⟩ = some (.int .u64 ((x.st : Nat) : Int)) ∧ W.cell? ⟨w.heap.size, 9, none⟩ = some (.bool x.y)) ∧ (W.cell? ⟨(w.heap.size + 1), 0, none⟩ = some (.int .i64 y.k) ∧ W.cell? ⟨(w.heap.size + 1), 1, none⟩ = some (.int .i64 y.s) ∧ W.cell? ⟨(w.heap.size + 1), 2, none⟩ = some (.int .i64 y.q) ∧ W.cell? ⟨(w.heap.size + 1), 3, none⟩ = some (.slice y.a y.n y.c) ∧ W.cell? ⟨(w.heap.size + 1), 4, none⟩ = some (.slice y.b y.m y.d) ∧ W.cell? ⟨(w.heap.size + 1), 5, none⟩ = some (.int .i64 y.i) ∧ W.cell? ⟨(w.heap.size + 1), 6, none⟩ = some (.int .i64 y.j) ∧ W.cell? ⟨(w.heap.size + 1), 7, none⟩ = some (.int .i64 y.g) ∧ W.cell? ⟨(w.heap.size + 1), 8, none⟩ = some (.int .u64 ((y.st : Nat) : Int)) ∧ W.cell? ⟨(w.heap.size + 1), 9, none⟩ = some (.bool y.y)) ∧ (W.cell? ⟨G5, 0, none⟩ = some (.int .i64 x.k) ∧ W.cell? ⟨G5, 1, none⟩ = some (.int .i64 x.s) ∧ W.cell? ⟨G5, 2, none⟩ = some (.int .i64 x.q) ∧ W.cell? ⟨G5, 3, none⟩ = some (.slice x.a x.n x.c) ∧ W.cell? ⟨G5, 4, none⟩ = some (.slice x.b x.m x.d) ∧ W.cell? ⟨G5, 5, none⟩ = some (.int .i64 x.i) ∧ W.cell? ⟨G5, 6, none⟩ = some (.int .i64 x.j) ∧ W.cell? ⟨G5, 7, none⟩ = some (.int .i64 x.g) ∧ W.cell? ⟨G5, 8, none⟩ = some (.int .u64 ((x.st : Nat) : Int)) ∧ W.cell? ⟨G5, 9, none⟩ = some (.bool x.y)) ∧ (W.cell? ⟨G6, 0, none⟩ = some (.int .i64 y.k) ∧ W.cell? ⟨G6, 1, none⟩ = some (.int .i64 y.s) ∧ W.cell? ⟨G6, 2, none⟩ = some (.int .i64 y.q) ∧ W.cell? ⟨G6, 3, none⟩ = some (.slice y.a y.n y.c) ∧ W.cell? ⟨G6, 4, none⟩ = some (.slice y.b y.m y.d) ∧ W.cell? ⟨G6, 5, none⟩ = some (.int .i64 y.i) ∧ W.cell? ⟨G6, 6, none⟩ = some (.int .i64 y.j) ∧ W.cell? ⟨G6, 7, none⟩ = some (.int .i64 y.g) ∧ W.cell? ⟨G6, 8, none⟩ = some (.int .u64 ((y.st : Nat) : Int)) ∧ W.cell? ⟨G6, 9, none⟩ = some (.bool y.y)))) := fun W hW => ⟨(hW.get 3 _ _ _ rfl).ten, (hW.get 2 _ _ _ rfl).ten, (hW.get 1 _ _ _ rfl).ten, (hW.get 0 _ _ _ rfl).ten⟩
  have X0 := Lib.hid hX.drew
  have s0 := HS.out _ X0.out
  (clear x0 x1 x2 x3 x4 x5 x6 x7 x8 x9 y0 y1 y2 y3 y4 y5 y6 y7 y8 y9)
  clear hX H3 cA cW cW'
  obtain ⟨b2, b3⟩ := B2
  go_upto_region 4 with (fail)
  go_region_held3 (fun W => ((W.cell? ⟨w.heap.size, 0, none⟩ = some (.int .i64 x.k) ∧ W.cell? ⟨w.heap.size, 1, none⟩ = some (.int .i64 x.s) ∧ W.cell? ⟨w.heap.size, 2, none⟩ = some (.int .i64 x.q) ∧ W.cell? ⟨w.heap.size, 3, none⟩ = some (.slice x.a x.n x.c) ∧ W.cell? ⟨w.heap.size, 4, none⟩ = some (.slice x.b x.m x.d) ∧ W.cell? ⟨w.heap.size, 5, none⟩ = some (.int .i64 x.i) ∧ W.cell? ⟨w.heap.size, 6, none⟩ = some (.int .i64 x.j) ∧ W.cell? ⟨w.heap.size, 7, none⟩ = some (.int .i64 x.g) ∧ W.cell? ⟨w.heap.size, 8, none⟩ = some (.int .u64 ((x.st : Nat) : Int)) ∧ W.cell? ⟨w.heap.size, 9, none⟩ = some (.bool x.y)) ∧ (W.cell? ⟨(w.heap.size + 1), 0, none⟩ = some (.int .i64 y.k) ∧ W.cell? ⟨(w.heap.size + 1), 1, none⟩ = some (.int .i64 y.s) ∧ W.cell? ⟨(w.heap.size + 1), 2, none⟩ = some (.int .i64 y.q) ∧ W.cell? ⟨(w.heap.size + 1), 3, none⟩ = some (.slice y.a y.n y.c) ∧ W.cell? ⟨(w.heap.size + 1), 4, none⟩ = some (.slice y.b y.m y.d) ∧ W.cell? ⟨(w.heap.size + 1), 5, none⟩ = some (.int .i64 y.i) ∧ W.cell? ⟨(w.heap.size + 1), 6, none⟩ = some (.int .i64 y.j) ∧ W.cell? ⟨(w.heap.size + 1), 7, none⟩ = some (.int .i64 y.g) ∧ W.cell? ⟨(w.heap.size + 1), 8, none⟩ = some (.int .u64 ((y.st : Nat) : Int)) ∧ W.cell? ⟨(w.heap.size + 1), 9, none⟩ = some (.bool y.y)) ∧ (W.cell? ⟨G5, 0, none⟩ = some (.int .i64 x.k) ∧ W.cell? ⟨G5, 1, none⟩ = some (.int .i64 x.s) ∧ W.cell? ⟨G5, 2, none⟩ = some (.int .i64 x.q) ∧ W.cell? ⟨G5, 3, none⟩ = some (.slice x.a x.n x.c) ∧ W.cell? ⟨G5, 4, none⟩ = some (.slice x.b x.m x.d) ∧ W.cell? ⟨G5, 5, none⟩ = some (.int .i64 x.i) ∧ W.cell? ⟨G5, 6, none⟩ = some (.int .i64 x.j) ∧ W.cell? ⟨G5, 7, none⟩ = some (.int .i64 x.g) ∧ W.cell? ⟨G5, 8, none⟩ = some (.int .u64 ((x.st : Nat) : Int)) ∧ W.cell? ⟨G5, 9, none⟩ = some (.bool x.y)) ∧ (W.cell? ⟨G6, 0, none⟩ = some (.int .i64 y.k) ∧ W.cell? ⟨G6, 1, none⟩ = some (.int .i64 y.s) ∧ W.cell? ⟨G6, 2, none⟩ = some (.int .i64 y.q) ∧ W.cell? ⟨G6, 3, none⟩ = some (.slice y.a y.n y.c) ∧ W.cell? ⟨G6, 4, none⟩ = some (.slice y.b y.m y.d) ∧ W.cell? ⟨G6, 5, none⟩ = some (.int .i64 y.i) ∧ W.cell? ⟨G6, 6, none⟩ = some (.int .i64 y.j) ∧ W.cell? ⟨G6, 7, none⟩ = some (.int .i64 y.g) ∧ W.cell? ⟨G6, 8, none⟩ = some (.int .u64 ((y.st : Nat) : Int)) ∧ W.cell? ⟨G6, 9, none⟩ = some (.bool y.y)))) (first | (with_reducible exact s0) | (with_reducible exact s1) | (with_reducible exact s2) | (with_reducible exact s3) | (with_reducible exact s4) | (with_reducible exact s5) | (with_reducible exact s6) | (with_reducible exact s7))
    (first | (go_at_call 9; ((with_reducible refine (cF _ X0.out.bel).mono ?_); rintro e v1 ⟨rfl, hb1⟩; have X1 := Lib.hid (X0.out.below hb1); have s1 := HS.out _ X1.out)) | (go_at_call 10; ((with_reducible refine (cF2 _ X1.out.bel).mono ?_); rintro e v2 ⟨rfl, hb2⟩; have X2 := Lib.hid (X1.out.below hb2); have s2 := HS.out _ X2.out)) | (go_at_call 11; ((with_reducible refine (cL _ X2.out.bel).mono ?_); rintro e v3 ⟨rfl, hb3⟩; have X3 := Lib.hid (X2.out.below hb3); have s3 := HS.out _ X3.out)) | (go_at_call 12; ((with_reducible refine (cL2 _ X3.out.bel).mono ?_); rintro e v4 ⟨rfl, hb4⟩; have X4 := Lib.hid (X3.out.below hb4); have s4 := HS.out _ X4.out)) | (go_at_call 13; ((with_reducible refine (cS _ X4.out.bel).mono ?_); rintro e v5 ⟨rfl, hb5⟩; have X5 := Lib.hid (X4.out.below hb5); have s5 := HS.out _ X5.out)) | (go_at_call 14; ((with_reducible refine (cS2 _ X5.out.bel).mono ?_); rintro e v6 ⟨rfl, hb6⟩; have X6 := Lib.hid (X5.out.below hb6); have s6 := HS.out _ X6.out)) | (go_at_call 13; ((with_reducible refine (cS3 _ X6.out.bel).mono ?_); rintro e v7 ⟨rfl, hb7⟩; have X7 := Lib.hid (X6.out.below hb7); have s7 := HS.out _ X7.out)))
  go_wp2
  go_ret
  exact ⟨rfl, X7.out.bel⟩
end Go.Proofs.YtpkbjbhmghdnoaaDoor
