/- The walk of the statement CommandOne. Conditions: the commands' lists lie in memory; the tables of utf8 lie there. -/
import Derived.Test.YtpkbjbhmghdnoaaDoorGT
import Derived.Test.YtpkbjbhmghdnoaaDoorCodeSame
import Derived.Deep.RegionHeld3
namespace Go.Proofs.YtpkbjbhmghdnoaaDoor

open Go.RowKit

set_option linter.unusedVariables false

theorem cm_ok {w : World} {x : CmM} {rs : List RdM} {ws : List WrM} (h : CmAt w x rs ws) : CmOk (cmT x rs ws) := by
  refine ⟨fun z hz => ?_, fun z hz => ?_, h.2⟩
  · obtain ⟨u, hu, rfl⟩ := List.mem_map.1 hz
    exact (h.1.okR u hu).2
  · obtain ⟨u, hu, rfl⟩ := List.mem_map.1 hz
    exact (h.1.okW u hu).2.1

set_option maxRecDepth 100000 in
set_option maxHeartbeats 8000000 in
theorem one9_gen (x y : CmM) (rs rs' : List RdM) (ws ws' : List WrM) (L L' : List UInt8) (w : World) (hA : ∀ W, Below w.heap.size w W → Calls Tryd.prog 7 #[] W (Says W true))
    (cW : ∀ W, Below w.heap.size w W → Calls Tryd.prog 8 #[.agg (cmV x)] W (Says W true)) (cW' : ∀ W, Below w.heap.size w W → Calls Tryd.prog 8 #[.agg (cmV y)] W (Says W true))
    (cF : ∀ W, Below w.heap.size w W → Calls Tryd.prog 9 #[.agg (cmV x)] W (Says W true)) (cF' : ∀ W, Below w.heap.size w W → Calls Tryd.prog 9 #[.agg (cmV y)] W (Says W true))
    (cP : ∀ W, Below w.heap.size w W → Calls Tryd.prog 19 #[.slice none 0 0, .agg (cmV x)] W (NewB W L)) (cP' : ∀ W, Below w.heap.size w W → Calls Tryd.prog 19 #[.slice none 0 0, .agg (cmV y)] W (NewB W L'))
    (cS : ∀ W, Below w.heap.size w W → Calls Tryd.prog 13 #[.agg (cmV x), .agg (cmV y)] W (Says W (decide (L = L'))))
    (p1 : 0 < L.length) (p2 : 0 < L'.length) (m1 : L.length ≤ 1179728) (m2 : L'.length ≤ 1179728) (hap : L.length < L'.length → ¬ L = L'.take L.length) :
    Calls Tryd.prog 6 #[.agg (cmV x), .agg (cmV y)] w (Says w true) := by
  have cA := hA
  have H0 := Lib.hid (((Boxs.start w).more (cmV x) 30).more (cmV y) 30)
  have hs : (w.alloc (.cells (cmV x) 30)).heap.size = w.heap.size + 1 := by simp
  rw [hs] at H0
  obtain ⟨x0, x1, x2, x3, x4, x5, x6, x7, x8, x9⟩ := (H0.out.get 1 _ _ _ rfl).ten; obtain ⟨y0, y1, y2, y3, y4, y5, y6, y7, y8, y9⟩ := (H0.out.get 0 _ _ _ rfl).ten
  clear hA
  go_enter Tryd.func6, Tryd.ntmps6
  go_upto_region 3 with (first | (go_at_call 7; ((with_reducible refine (cA _ H0.out.bel).mono ?_); rintro e w1 ⟨rfl, hb1⟩; have H1 := Lib.hid (H0.out.below hb1); (clear x0 x1 x2 x3 x4 x5 x6 x7 x8 x9 y0 y1 y2 y3 y4 y5 y6 y7 y8 y9); obtain ⟨x0, x1, x2, x3, x4, x5, x6, x7, x8, x9⟩ := (H1.out.get 1 _ _ _ rfl).ten; obtain ⟨y0, y1, y2, y3, y4, y5, y6, y7, y8, y9⟩ := (H1.out.get 0 _ _ _ rfl).ten)) | (go_at_call 8; ((with_reducible refine (cW _ H1.out.bel).mono ?_); rintro e w2 ⟨rfl, hb2⟩; have H2 := Lib.hid (H1.out.below hb2); (clear x0 x1 x2 x3 x4 x5 x6 x7 x8 x9 y0 y1 y2 y3 y4 y5 y6 y7 y8 y9); obtain ⟨x0, x1, x2, x3, x4, x5, x6, x7, x8, x9⟩ := (H2.out.get 1 _ _ _ rfl).ten; obtain ⟨y0, y1, y2, y3, y4, y5, y6, y7, y8, y9⟩ := (H2.out.get 0 _ _ _ rfl).ten)) | (go_at_call 8; ((with_reducible refine (cW' _ H2.out.bel).mono ?_); rintro e w3 ⟨rfl, hb3⟩; have H3 := Lib.hid (H2.out.below hb3); (clear x0 x1 x2 x3 x4 x5 x6 x7 x8 x9 y0 y1 y2 y3 y4 y5 y6 y7 y8 y9); obtain ⟨x0, x1, x2, x3, x4, x5, x6, x7, x8, x9⟩ := (H3.out.get 1 _ _ _ rfl).ten; obtain ⟨y0, y1, y2, y3, y4, y5, y6, y7, y8, y9⟩ := (H3.out.get 0 _ _ _ rfl).ten)) | (go_at_call 9; ((with_reducible refine (cF _ H3.out.bel).mono ?_); rintro e w4 ⟨rfl, hb4⟩; have H4 := Lib.hid (H3.out.below hb4); (clear x0 x1 x2 x3 x4 x5 x6 x7 x8 x9 y0 y1 y2 y3 y4 y5 y6 y7 y8 y9); obtain ⟨x0, x1, x2, x3, x4, x5, x6, x7, x8, x9⟩ := (H4.out.get 1 _ _ _ rfl).ten; obtain ⟨y0, y1, y2, y3, y4, y5, y6, y7, y8, y9⟩ := (H4.out.get 0 _ _ _ rfl).ten)) | (go_at_call 9; ((with_reducible refine (cF' _ H4.out.bel).mono ?_); rintro e w5 ⟨rfl, hb5⟩; have H5 := Lib.hid (H4.out.below hb5))))
  have HS : Hid (∀ W, Boxs w W [(w.heap.size + 1, cmV y, 30), (w.heap.size, cmV x, 30)] → ((W.cell? ⟨w.heap.size, 0, none⟩ = some (.int .i64 x.k) ∧ W.cell? ⟨w.heap.size, 1, none⟩ = some (.int .i64 x.s) ∧ W.cell? ⟨w.heap.size, 2, none⟩ = some (.int .i64 x.q) ∧ W.cell? ⟨w.heap.size, 3, none⟩ = some (.slice x.a x.n x.c) ∧ W.cell? ⟨w.heap.size, 4, none⟩ = some (.slice x.b x.m x.d) ∧ W.cell? ⟨w.heap.size, 5, none⟩ = some (.int .i64 x.i) ∧ W.cell? ⟨w.heap.size, 6, none⟩ = some (.int .i64 x.j) ∧ W.cell? ⟨w.heap.size, 7, none⟩ = some (.int .i64 x.g) ∧ W.cell? ⟨w.heap.size, 8, none⟩ = some (.int .u64 ((x.st : Nat) : Int)) ∧ W.cell? ⟨w.heap.size, 9, none⟩ = some (.bool x.y)) ∧ (W.cell? ⟨(w.heap.size + 1), 0, none⟩ = some (.int .i64 y.k) ∧ W.cell? ⟨(w.heap.size + 1), 1, none⟩ = some (.int .i64 y.s) ∧ W.cell? ⟨(w.heap.size + 1), 2, none⟩ = some (.int .i64 y.q) ∧ W.cell? ⟨(w.heap.size + 1), 3, none⟩ = some (.slice y.a y.n y.c) ∧ W.cell? ⟨(w.heap.size + 1), 4, none⟩ = some (.slice y.b y.m y.d) ∧ W.cell? ⟨(w.heap.size + 1), 5, none⟩ = some (.int .i64 y.i) ∧ W.cell? ⟨(w.heap.size + 1), 6, none⟩ = some (.int .i64 y.j) ∧ W.cell? ⟨(w.heap.size + 1), 7, none⟩ = some (.int .i64 y.g) ∧ W.cell? ⟨(w.heap.size + 1), 8, none⟩ = some (.int .u64 ((y.st : Nat) : Int)) ∧ W.cell? ⟨(w.heap.size + 1), 9, none⟩ = some (.bool y.y)))) := fun W hW => ⟨(hW.get 1 _ _ _ rfl).ten, (hW.get 0 _ _ _ rfl).ten⟩
  have X0 := Lib.hid H5.out.drew
  have s0 := HS.out _ X0.out
  (clear x0 x1 x2 x3 x4 x5 x6 x7 x8 x9 y0 y1 y2 y3 y4 y5 y6 y7 y8 y9)
  clear H0 H1 H2 H3 H4 H5 cA cW cW' cF cF'
  go_region_held3 (fun W => ((W.cell? ⟨w.heap.size, 0, none⟩ = some (.int .i64 x.k) ∧ W.cell? ⟨w.heap.size, 1, none⟩ = some (.int .i64 x.s) ∧ W.cell? ⟨w.heap.size, 2, none⟩ = some (.int .i64 x.q) ∧ W.cell? ⟨w.heap.size, 3, none⟩ = some (.slice x.a x.n x.c) ∧ W.cell? ⟨w.heap.size, 4, none⟩ = some (.slice x.b x.m x.d) ∧ W.cell? ⟨w.heap.size, 5, none⟩ = some (.int .i64 x.i) ∧ W.cell? ⟨w.heap.size, 6, none⟩ = some (.int .i64 x.j) ∧ W.cell? ⟨w.heap.size, 7, none⟩ = some (.int .i64 x.g) ∧ W.cell? ⟨w.heap.size, 8, none⟩ = some (.int .u64 ((x.st : Nat) : Int)) ∧ W.cell? ⟨w.heap.size, 9, none⟩ = some (.bool x.y)) ∧ (W.cell? ⟨(w.heap.size + 1), 0, none⟩ = some (.int .i64 y.k) ∧ W.cell? ⟨(w.heap.size + 1), 1, none⟩ = some (.int .i64 y.s) ∧ W.cell? ⟨(w.heap.size + 1), 2, none⟩ = some (.int .i64 y.q) ∧ W.cell? ⟨(w.heap.size + 1), 3, none⟩ = some (.slice y.a y.n y.c) ∧ W.cell? ⟨(w.heap.size + 1), 4, none⟩ = some (.slice y.b y.m y.d) ∧ W.cell? ⟨(w.heap.size + 1), 5, none⟩ = some (.int .i64 y.i) ∧ W.cell? ⟨(w.heap.size + 1), 6, none⟩ = some (.int .i64 y.j) ∧ W.cell? ⟨(w.heap.size + 1), 7, none⟩ = some (.int .i64 y.g) ∧ W.cell? ⟨(w.heap.size + 1), 8, none⟩ = some (.int .u64 ((y.st : Nat) : Int)) ∧ W.cell? ⟨(w.heap.size + 1), 9, none⟩ = some (.bool y.y)))) (first | (with_reducible exact s0) | (with_reducible exact s1) | (with_reducible exact s2))
    (first | (go_at_call 19; ((with_reducible refine (cP _ X0.out.bel).mono ?_); rintro e v1 ⟨a1, n1, c1, rfl, ho1, hb1⟩; have X1 := Lib.hid (X0.out.below hb1); have s1 := HS.out _ X1.out)) | (go_at_call 19; ((with_reducible refine (cP' _ X1.out.bel).mono ?_); rintro e v2 ⟨a2, n2, c2, rfl, ho2, hb2⟩; have X2 := Lib.hid (X1.out.below hb2); have s2 := HS.out _ X2.out)))
  have B1 := Lib.hid (BAt.of_own (own_below ho1 hb2))
  have B2 := Lib.hid (BAt.of_own ho2)
  have l1 := own_len ho1
  have l2 := own_len ho2
  obtain ⟨_, _, e6, hc4, hc4'⟩ := ownk_form ho2
  injection e6 with e6 e7 e8
  subst e6; subst e8
  have hM1 : n1 ≤ maxLen := by unfold maxLen; omega
  have hM2 : n2 ≤ maxLen := by unfold maxLen; omega
  have q1 : ((n1 : Int) == 0) = false := by simp; omega
  have q2 : ((n2 : Int) == 0) = false := by simp; omega
  clear s0 s1 X0 X1 ho1 ho2 hb1 hb2 cP cP'
  go_upto_region 4 with (fail)
  have Y0 := Lib.hid X2.out.drew
  have s0 := HS.out _ Y0.out
  clear s2
  generalize hB : decide (L = L') = B at *
  have qB : (B != B) = false := by cases B <;> rfl
  have cSame : ∀ W, W = v2.drew → Calls Tryd.prog 18 #[.slice a1 n1 c1, .slice a2 n2 c2] W (Reads1 W (.bool B)) := fun W e => by
    rw [← hB, e]
    exact same_any a1 a2 n1 n2 c1 c2 v2.heap.size v2.heap.size L L' v2.drew B1.out B2.out hM1 hM2
  clear hB
  go_region_held3 (fun W => ((W.cell? ⟨w.heap.size, 0, none⟩ = some (.int .i64 x.k) ∧ W.cell? ⟨w.heap.size, 1, none⟩ = some (.int .i64 x.s) ∧ W.cell? ⟨w.heap.size, 2, none⟩ = some (.int .i64 x.q) ∧ W.cell? ⟨w.heap.size, 3, none⟩ = some (.slice x.a x.n x.c) ∧ W.cell? ⟨w.heap.size, 4, none⟩ = some (.slice x.b x.m x.d) ∧ W.cell? ⟨w.heap.size, 5, none⟩ = some (.int .i64 x.i) ∧ W.cell? ⟨w.heap.size, 6, none⟩ = some (.int .i64 x.j) ∧ W.cell? ⟨w.heap.size, 7, none⟩ = some (.int .i64 x.g) ∧ W.cell? ⟨w.heap.size, 8, none⟩ = some (.int .u64 ((x.st : Nat) : Int)) ∧ W.cell? ⟨w.heap.size, 9, none⟩ = some (.bool x.y)) ∧ (W.cell? ⟨(w.heap.size + 1), 0, none⟩ = some (.int .i64 y.k) ∧ W.cell? ⟨(w.heap.size + 1), 1, none⟩ = some (.int .i64 y.s) ∧ W.cell? ⟨(w.heap.size + 1), 2, none⟩ = some (.int .i64 y.q) ∧ W.cell? ⟨(w.heap.size + 1), 3, none⟩ = some (.slice y.a y.n y.c) ∧ W.cell? ⟨(w.heap.size + 1), 4, none⟩ = some (.slice y.b y.m y.d) ∧ W.cell? ⟨(w.heap.size + 1), 5, none⟩ = some (.int .i64 y.i) ∧ W.cell? ⟨(w.heap.size + 1), 6, none⟩ = some (.int .i64 y.j) ∧ W.cell? ⟨(w.heap.size + 1), 7, none⟩ = some (.int .i64 y.g) ∧ W.cell? ⟨(w.heap.size + 1), 8, none⟩ = some (.int .u64 ((y.st : Nat) : Int)) ∧ W.cell? ⟨(w.heap.size + 1), 9, none⟩ = some (.bool y.y)))) (first | (with_reducible exact s0) | (with_reducible exact s1) | (with_reducible exact s2))
    (first | (go_at_call 18; ((with_reducible refine (cSame _ rfl).mono ?_); rintro e w' ⟨rfl, z2, rfl⟩; have Y1 := Lib.hid (X2.out.drewN (1 + z2)); have s1 := HS.out _ Y1.out)) | (go_at_call 13; ((with_reducible refine (cS _ Y1.out.bel).mono ?_); rintro e v3 ⟨rfl, hb3⟩; have Y2 := Lib.hid (Y1.out.below hb3); have s2 := HS.out _ Y2.out)))
  have D1 : Hid (BAt v3 v3.heap.size a1 n1 L) := ((show BAt (v2.drewN (1 + z2)) (v2.drewN (1 + z2)).heap.size a1 n1 L from B1.out).below hb3 (Nat.le_refl _)).more hb3.size
  have D2 : Hid (BAt v3 v3.heap.size a2 n2 L') := ((show BAt (v2.drewN (1 + z2)) (v2.drewN (1 + z2)).heap.size a2 n2 L' from B2.out).below hb3 (Nat.le_refl _)).more hb3.size
  clear s0 s1 s2 Y0 Y1 B1 B2 cS cSame
  by_cases hn : n2 ≤ n1
  · have i1 : (n2 : Int) ≤ (n1 : Int) := by omega
    clear hap
    go_wp2
    go_ret
    exact ⟨rfl, Y2.out.bel⟩
  · have i1 : ¬ (n2 : Int) ≤ (n1 : Int) := by omega
    have d1 : decide ((n2 : Int) ≤ (n1 : Int)) = false := decide_eq_false i1
    have hL := hap (by omega)
    rw [l1] at hL
    have hcc : n1 ≤ c2 := by omega
    have cT : Calls Tryd.prog 18 #[.slice a1 n1 c1, .slice a2 n1 c2] v3 (Reads1 v3 (.bool false)) := by
      have h := same_any a1 a2 n1 n1 c1 c2 _ _ L (L'.take n1) v3 D1.out (D2.out.take (by omega)) hM1 hM1
      rw [decide_eq_false hL] at h; exact h
    unfold maxLen at hc4' hM1 hM2
    clear hL hap D1 D2
    go_wp2_with (go_at_call 18; ((with_reducible refine cT.mono ?_); rintro e w' ⟨rfl, z3, rfl⟩))
    go_ret
    exact ⟨rfl, below_drewN z3 Y2.out.bel⟩

set_option maxRecDepth 100000 in
set_option maxHeartbeats 4000000 in
theorem one9_walk (x y : CmM) (rs rs' : List RdM) (ws ws' : List WrM) (w : World) (h : CmAt w x rs ws) (h' : CmAt w y rs' ws') (hU : Tabs w) :
    Calls Tryd.prog 6 #[.agg (cmV x), .agg (cmV y)] w (Says w true) := by
  have H0 := Lib.hid (((Boxs.start w).more (cmV x) 30).more (cmV y) 30)
  have hs : (w.alloc (.cells (cmV x) 30)).heap.size = w.heap.size + 1 := by simp
  rw [hs] at H0
  have cA := fun W (hW : Below w.heap.size w W) => awake9_any W (hU.below hW)
  have cW := fun W (hW : Below w.heap.size w W) => few9_any x rs ws W (h.later hW)
  have cW' := fun W (hW : Below w.heap.size w W) => few9_any y rs' ws' W (h'.later hW)
  have hl := h.tx.lenR
  have hk := h.tx.lenW
  have hl' := h'.tx.lenR
  have hk' := h'.tx.lenW
  obtain ⟨x0, x1, x2, x3, x4, x5, x6, x7, x8, x9⟩ := (H0.out.get 1 _ _ _ rfl).ten; obtain ⟨y0, y1, y2, y3, y4, y5, y6, y7, y8, y9⟩ := (H0.out.get 0 _ _ _ rfl).ten
  cases hf : fewT rs ws
  · rw [hf] at cW
    clear hf cW' hl hk hl' hk' h h' hU
    go_enter Tryd.func6, Tryd.ntmps6
    go_upto_region 2 with (first | (go_at_call 7; ((with_reducible refine (cA _ H0.out.bel).mono ?_); rintro e w1 ⟨rfl, hb1⟩; have H1 := Lib.hid (H0.out.below hb1); (clear x0 x1 x2 x3 x4 x5 x6 x7 x8 x9 y0 y1 y2 y3 y4 y5 y6 y7 y8 y9); obtain ⟨x0, x1, x2, x3, x4, x5, x6, x7, x8, x9⟩ := (H1.out.get 1 _ _ _ rfl).ten; obtain ⟨y0, y1, y2, y3, y4, y5, y6, y7, y8, y9⟩ := (H1.out.get 0 _ _ _ rfl).ten)) | (go_at_call 8; ((with_reducible refine (cW _ H1.out.bel).mono ?_); rintro e w2 ⟨rfl, hb2⟩; have H2 := Lib.hid (H1.out.below hb2))))
    go_wp2_with (go_at_call 7; ((with_reducible refine (cA _ H2.out.bel).mono ?_); rintro e w9 ⟨rfl, hb9⟩; have H9 := Lib.hid (H2.out.below hb9)))
    go_ret
    exact ⟨rfl, H9.out.bel⟩
  rw [hf] at cW
  cases hf' : fewT rs' ws'
  · rw [hf'] at cW'
    clear hf hf' hl hk hl' hk' h h' hU
    go_enter Tryd.func6, Tryd.ntmps6
    go_upto_region 2 with (first | (go_at_call 7; ((with_reducible refine (cA _ H0.out.bel).mono ?_); rintro e w1 ⟨rfl, hb1⟩; have H1 := Lib.hid (H0.out.below hb1); (clear x0 x1 x2 x3 x4 x5 x6 x7 x8 x9 y0 y1 y2 y3 y4 y5 y6 y7 y8 y9); obtain ⟨x0, x1, x2, x3, x4, x5, x6, x7, x8, x9⟩ := (H1.out.get 1 _ _ _ rfl).ten; obtain ⟨y0, y1, y2, y3, y4, y5, y6, y7, y8, y9⟩ := (H1.out.get 0 _ _ _ rfl).ten)) | (go_at_call 8; ((with_reducible refine (cW _ H1.out.bel).mono ?_); rintro e w2 ⟨rfl, hb2⟩; have H2 := Lib.hid (H1.out.below hb2); (clear x0 x1 x2 x3 x4 x5 x6 x7 x8 x9 y0 y1 y2 y3 y4 y5 y6 y7 y8 y9); obtain ⟨x0, x1, x2, x3, x4, x5, x6, x7, x8, x9⟩ := (H2.out.get 1 _ _ _ rfl).ten; obtain ⟨y0, y1, y2, y3, y4, y5, y6, y7, y8, y9⟩ := (H2.out.get 0 _ _ _ rfl).ten)) | (go_at_call 8; ((with_reducible refine (cW' _ H2.out.bel).mono ?_); rintro e w3 ⟨rfl, hb3⟩; have H3 := Lib.hid (H2.out.below hb3))))
    go_wp2_with (go_at_call 7; ((with_reducible refine (cA _ H3.out.bel).mono ?_); rintro e w9 ⟨rfl, hb9⟩; have H9 := Lib.hid (H3.out.below hb9)))
    go_ret
    exact ⟨rfl, H9.out.bel⟩
  rw [hf'] at cW'
  have hn : x.n ≤ 1000000 := by have := (fewT_len hf).1; omega
  have hm : x.m ≤ 1000000 := by have := (fewT_len hf).2; omega
  have hn' : y.n ≤ 1000000 := by have := (fewT_len hf').1; omega
  have hm' : y.m ≤ 1000000 := by have := (fewT_len hf').2; omega
  have cF := fun W (hW : Below w.heap.size w W) => kFormed_any x rs ws W (h.later hW) hn hm (hU.below hW)
  have cF' := fun W (hW : Below w.heap.size w W) => kFormed_any y rs' ws' W (h'.later hW) hn' hm' (hU.below hW)
  cases ha : formCm (cmT x rs ws)
  · rw [ha] at cF
    clear hf hf' hl hk hl' hk' hn hm hn' hm' ha cF' h h' hU
    go_enter Tryd.func6, Tryd.ntmps6
    go_upto_region 2 with (first | (go_at_call 7; ((with_reducible refine (cA _ H0.out.bel).mono ?_); rintro e w1 ⟨rfl, hb1⟩; have H1 := Lib.hid (H0.out.below hb1); (clear x0 x1 x2 x3 x4 x5 x6 x7 x8 x9 y0 y1 y2 y3 y4 y5 y6 y7 y8 y9); obtain ⟨x0, x1, x2, x3, x4, x5, x6, x7, x8, x9⟩ := (H1.out.get 1 _ _ _ rfl).ten; obtain ⟨y0, y1, y2, y3, y4, y5, y6, y7, y8, y9⟩ := (H1.out.get 0 _ _ _ rfl).ten)) | (go_at_call 8; ((with_reducible refine (cW _ H1.out.bel).mono ?_); rintro e w2 ⟨rfl, hb2⟩; have H2 := Lib.hid (H1.out.below hb2); (clear x0 x1 x2 x3 x4 x5 x6 x7 x8 x9 y0 y1 y2 y3 y4 y5 y6 y7 y8 y9); obtain ⟨x0, x1, x2, x3, x4, x5, x6, x7, x8, x9⟩ := (H2.out.get 1 _ _ _ rfl).ten; obtain ⟨y0, y1, y2, y3, y4, y5, y6, y7, y8, y9⟩ := (H2.out.get 0 _ _ _ rfl).ten)) | (go_at_call 8; ((with_reducible refine (cW' _ H2.out.bel).mono ?_); rintro e w3 ⟨rfl, hb3⟩; have H3 := Lib.hid (H2.out.below hb3); (clear x0 x1 x2 x3 x4 x5 x6 x7 x8 x9 y0 y1 y2 y3 y4 y5 y6 y7 y8 y9); obtain ⟨x0, x1, x2, x3, x4, x5, x6, x7, x8, x9⟩ := (H3.out.get 1 _ _ _ rfl).ten; obtain ⟨y0, y1, y2, y3, y4, y5, y6, y7, y8, y9⟩ := (H3.out.get 0 _ _ _ rfl).ten)) | (go_at_call 9; ((with_reducible refine (cF _ H3.out.bel).mono ?_); rintro e w4 ⟨rfl, hb4⟩; have H4 := Lib.hid (H3.out.below hb4))))
    go_wp2_with (go_at_call 7; ((with_reducible refine (cA _ H4.out.bel).mono ?_); rintro e w9 ⟨rfl, hb9⟩; have H9 := Lib.hid (H4.out.below hb9)))
    go_ret
    exact ⟨rfl, H9.out.bel⟩
  rw [ha] at cF
  cases hb : formCm (cmT y rs' ws')
  · rw [hb] at cF'
    clear hf hf' hl hk hl' hk' hn hm hn' hm' ha hb h h' hU
    go_enter Tryd.func6, Tryd.ntmps6
    go_upto_region 2 with (first | (go_at_call 7; ((with_reducible refine (cA _ H0.out.bel).mono ?_); rintro e w1 ⟨rfl, hb1⟩; have H1 := Lib.hid (H0.out.below hb1); (clear x0 x1 x2 x3 x4 x5 x6 x7 x8 x9 y0 y1 y2 y3 y4 y5 y6 y7 y8 y9); obtain ⟨x0, x1, x2, x3, x4, x5, x6, x7, x8, x9⟩ := (H1.out.get 1 _ _ _ rfl).ten; obtain ⟨y0, y1, y2, y3, y4, y5, y6, y7, y8, y9⟩ := (H1.out.get 0 _ _ _ rfl).ten)) | (go_at_call 8; ((with_reducible refine (cW _ H1.out.bel).mono ?_); rintro e w2 ⟨rfl, hb2⟩; have H2 := Lib.hid (H1.out.below hb2); (clear x0 x1 x2 x3 x4 x5 x6 x7 x8 x9 y0 y1 y2 y3 y4 y5 y6 y7 y8 y9); obtain ⟨x0, x1, x2, x3, x4, x5, x6, x7, x8, x9⟩ := (H2.out.get 1 _ _ _ rfl).ten; obtain ⟨y0, y1, y2, y3, y4, y5, y6, y7, y8, y9⟩ := (H2.out.get 0 _ _ _ rfl).ten)) | (go_at_call 8; ((with_reducible refine (cW' _ H2.out.bel).mono ?_); rintro e w3 ⟨rfl, hb3⟩; have H3 := Lib.hid (H2.out.below hb3); (clear x0 x1 x2 x3 x4 x5 x6 x7 x8 x9 y0 y1 y2 y3 y4 y5 y6 y7 y8 y9); obtain ⟨x0, x1, x2, x3, x4, x5, x6, x7, x8, x9⟩ := (H3.out.get 1 _ _ _ rfl).ten; obtain ⟨y0, y1, y2, y3, y4, y5, y6, y7, y8, y9⟩ := (H3.out.get 0 _ _ _ rfl).ten)) | (go_at_call 9; ((with_reducible refine (cF _ H3.out.bel).mono ?_); rintro e w4 ⟨rfl, hb4⟩; have H4 := Lib.hid (H3.out.below hb4); (clear x0 x1 x2 x3 x4 x5 x6 x7 x8 x9 y0 y1 y2 y3 y4 y5 y6 y7 y8 y9); obtain ⟨x0, x1, x2, x3, x4, x5, x6, x7, x8, x9⟩ := (H4.out.get 1 _ _ _ rfl).ten; obtain ⟨y0, y1, y2, y3, y4, y5, y6, y7, y8, y9⟩ := (H4.out.get 0 _ _ _ rfl).ten)) | (go_at_call 9; ((with_reducible refine (cF' _ H4.out.bel).mono ?_); rintro e w5 ⟨rfl, hb5⟩; have H5 := Lib.hid (H4.out.below hb5))))
    go_wp2_with (go_at_call 7; ((with_reducible refine (cA _ H5.out.bel).mono ?_); rintro e w9 ⟨rfl, hb9⟩; have H9 := Lib.hid (H5.out.below hb9)))
    go_ret
    exact ⟨rfl, H9.out.bel⟩
  rw [hb] at cF'
  have oa := cm_ok h
  have ob := cm_ok h'
  have e : sameC x y rs rs' ws ws' = decide (cmB (cmT x rs ws) = cmB (cmT y rs' ws')) := by
    cases es : sameC x y rs rs' ws ws'
    · exact (decide_eq_false (fun e => by rw [(sameC_iff _ _ _ _ _ _).2 (cmB_inj ha hb oa ob e)] at es; cases es)).symm
    · exact (decide_eq_true (by rw [(sameC_iff _ _ _ _ _ _).1 es])).symm
  refine one9_gen x y rs rs' ws ws' (cmB (cmT x rs ws)) (cmB (cmT y rs' ws')) w cA cW cW' cF cF' (fun W hW => ?_) (fun W hW => ?_) (fun W hW => ?_) (cmB_pos _) (cmB_pos _) (cmB_max _ ha) (cmB_max _ hb) (fun hlt e => cmB_apart ha hb oa ob hlt e.symm)
  · have h1 := kPut_any none 0 0 [] x rs ws W BAt.nil (by omega) (h.later hW) hn hm (hU.below hW)
    unfold putC at h1; rw [if_pos ha] at h1; exact h1
  · have h1 := kPut_any none 0 0 [] y rs' ws' W BAt.nil (by omega) (h'.later hW) hn' hm' (hU.below hW)
    unfold putC at h1; rw [if_pos hb] at h1; exact h1
  · have h1 := kSame_any x y rs rs' ws ws' W (h.later hW) (h'.later hW) hn hm
    rw [e] at h1; exact h1
end Go.Proofs.YtpkbjbhmghdnoaaDoor
