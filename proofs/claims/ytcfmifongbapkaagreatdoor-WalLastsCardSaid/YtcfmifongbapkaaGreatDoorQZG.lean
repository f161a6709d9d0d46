/- Contracts of command.putSource, putYes and Put. Conditions: what they are handed lies in memory; the tables of utf8 lie there. Append of bytes onto a row of the call's own at a step of a region that draws its order. No condition. -/
import Derived.Test.YtcfmifongbapkaaGreatDoorQV
import Derived.Test.YtcfmifongbapkaaGreatDoorQL
import Derived.Test.YtcfmifongbapkaaGreatDoorQZF
import Derived.Deep.RegionHeld3
import Derived.Test.YtcfmifongbapkaaGreatDoorQA
import Derived.Test.YtcfmifongbapkaaGreatDoorQO
/- CommandPut -/
namespace Go.Proofs.YtcfmifongbapkaaGreatDoor

open Go.RowKit

set_option linter.unusedVariables false

/-- Bytes with a command behind them. -/
noncomputable def putC (l : List UInt8) (c : Cm) : List UInt8 := if formCm c = true then l ++ cmB c else l
theorem form_M {x : CmM} {rs : List RdM} {ws : List WrM} (h : formCm (cmT x rs ws) = true) : (x.k = 0 ∧ cmB (cmT x rs ws) = putB 0 1) ∨ (x.k = 1 ∧ formT formedB (txT (x.s, x.q) rs ws) = true ∧ cmB (cmT x rs ws) = putB 1 1 ++ txnB bytesV (txT (x.s, x.q) rs ws)) ∨
    (x.k = 2 ∧ (idB (x.i, x.j) = true ∧ 0 ≤ x.g ∧ x.g < 4) ∧ cmB (cmT x rs ws) = putB 2 1 ++ (idBytes (x.i, x.j) ++ (putB x.g.toNat 1 ++ putB x.st 8))) ∨ (x.k = 3 ∧ (idB (x.i, x.j) = true ∧ 0 ≤ x.g ∧ x.g < 4) ∧ cmB (cmT x rs ws) = putB 3 1 ++ (idBytes (x.i, x.j) ++ (putB x.g.toNat 1 ++ putB (yesN x.y) 1))) := by
  have hk := form_kinds h
  rcases hk with e | ⟨h1, e⟩ | ⟨⟨h1, h2, h3, h4, h5⟩, e⟩ | ⟨⟨h1, h2, h3⟩, e⟩
  · exact .inl ⟨congrArg Cm.k e, by rw [e]; exact List.append_nil _⟩
  · exact .inr (.inl ⟨congrArg Cm.k e, h1, by rw [e]; rfl⟩)
  · exact .inr (.inr (.inl ⟨congrArg Cm.k e, ⟨h1, h2, h3⟩, by rw [e]; rfl⟩))
  · exact .inr (.inr (.inr ⟨congrArg Cm.k e, ⟨h1, h2, h3⟩, by rw [e]; rfl⟩))

set_option maxRecDepth 100000 in
set_option maxHeartbeats 2000000 in
theorem kPutSource_any (pa : Option Addr) (pk pc : Nat) (l : List UInt8) (x : CmM) (w : World) (hl : BAt w w.heap.size pa pk l) (hk : pk ≤ 1099511000000) (hi : idB (x.i, x.j) = true) (hg : 0 ≤ x.g) (hg4 : x.g < 4) :
    Calls Tryz.prog 74 #[.slice pa pk pc, .agg (cmV x)] w (NewB w (l ++ (idBytes (x.i, x.j) ++ putB x.g.toNat 1))) := by
  have H0 := Lib.hid ((Boxs.start w).more (cmV x) 33)
  have HL : Hid (∀ W, Below w.heap.size w W → BAt W W.heap.size pa pk l) := fun W hW => (hl.below hW (Nat.le_refl _)).more hW.size
  have hll := hl.len
  have cI : ∀ W, BAt W W.heap.size pa pk l → Calls Tryz.prog 103 #[.slice pa pk pc, .agg #[.int .i64 x.i, .int .i64 x.j]] W (NewB W (l ++ idBytes (x.i, x.j))) := fun W h => (tPutId_any pa pk pc x.i x.j l W h (by omega)).mono fun e w' h => h.cast (by unfold putId; rw [if_pos hi])
  have cP : ∀ a1 n1 c1 L W, BAt W W.heap.size a1 n1 L → n1 ≤ 1099511627776 → Calls Tryz.prog 34 #[.slice a1 n1 c1, .int .u64 (IntKind.u64.wrap x.g), .int .i64 1] W (NewB W (L ++ putB x.g.toNat 1)) := fun a1 n1 c1 L W h1 h2 => by
    have h := putw_any a1 n1 c1 x.g.toNat 1 L W h1 h2 (by omega)
    rw [Int.toNat_of_nonneg hg] at h; exact h
  have HM : Hid (∀ r : Nat, (l ++ idBytes (x.i, x.j)).length = r → r ≤ 1099511627776) := fun r hr => by rw [List.length_append, idBytes_len] at hr; omega
  have HE : Hid (l ++ (idBytes (x.i, x.j) ++ putB x.g.toNat 1) = (l ++ idBytes (x.i, x.j)) ++ putB x.g.toNat 1) := by unfold Hid; rw [List.append_assoc]
  rw [HE.out]
  clear hl hi hll
  generalize idBytes (x.i, x.j) = I at *
  generalize putB x.g.toNat 1 = J at *
  go_enter Tryz.func74, Tryz.ntmps74
  go_upto_region 1 with (fail)
  have X0 := Lib.hid H0.out.drew
  have s0 := (X0.out.get 0 _ _ _ rfl).ten
  go_region_held3 (fun W => (W.cell? ⟨w.heap.size, 0, none⟩ = some (.int .i64 x.k) ∧ W.cell? ⟨w.heap.size, 1, none⟩ = some (.int .i64 x.s) ∧ W.cell? ⟨w.heap.size, 2, none⟩ = some (.int .i64 x.q) ∧ W.cell? ⟨w.heap.size, 3, none⟩ = some (.slice x.a x.n x.c) ∧ W.cell? ⟨w.heap.size, 4, none⟩ = some (.slice x.b x.m x.d) ∧ W.cell? ⟨w.heap.size, 5, none⟩ = some (.int .i64 x.i) ∧ W.cell? ⟨w.heap.size, 6, none⟩ = some (.int .i64 x.j) ∧ W.cell? ⟨w.heap.size, 7, none⟩ = some (.int .i64 x.g) ∧ W.cell? ⟨w.heap.size, 8, none⟩ = some (.int .u64 ((x.st : Nat) : Int)) ∧ W.cell? ⟨w.heap.size, 9, none⟩ = some (.bool x.y))) (first | (with_reducible exact s0) | (with_reducible exact s1) | (with_reducible exact s2))
    (first | (go_at_call 103; ((with_reducible refine (cI _ (HL.out _ X0.out.bel)).mono ?_); rintro e v1 ⟨a1, n1, c1, rfl, ho1, hb1⟩; have X1 := Lib.hid (X0.out.below hb1); have s1 := (X1.out.get 0 _ _ _ rfl).ten; have L1 := Lib.hid (BAt.of_own ho1); have L2 := Lib.hid (HM.out _ (own_len ho1)))) | (go_at_call 34; ((with_reducible refine (cP a1 n1 c1 _ _ L1.out L2.out).mono ?_); intro e v2 h2; have N2 := Lib.hid (NewB.on h2 X1.out.bel); obtain ⟨a2, n2, c2, rfl, ho2, hb2⟩ := h2; have X2 := Lib.hid (X1.out.below hb2); have s2 := (X2.out.get 0 _ _ _ rfl).ten)))
  go_wp2
  go_ret
  exact N2.out

set_option maxHeartbeats 1000000 in
theorem kPutYes_any (pa : Option Addr) (pk pc : Nat) (l : List UInt8) (y : Bool) (w : World) (hl : BAt w w.heap.size pa pk l) (hk : pk ≤ 1099511000000) :
    Calls Tryz.prog 75 #[.slice pa pk pc, .bool y] w (NewB w (l ++ putB (yesN y) 1)) := by
  have c1 : Calls Tryz.prog 34 #[.slice pa pk pc, .int .u64 1, .int .i64 1] w (NewB w (l ++ putB 1 1)) := put_any pa pk pc 1 1 l w hl (by omega) (by omega)
  have c0 : Calls Tryz.prog 34 #[.slice pa pk pc, .int .u64 0, .int .i64 1] w (NewB w (l ++ putB 0 1)) := put_any pa pk pc 0 1 l w hl (by omega) (by omega)
  clear hl
  cases y
  · show Calls _ _ _ _ (NewB w (l ++ putB 0 1))
    generalize l ++ putB 0 1 = M at *
    go_enter Tryz.func75, Tryz.ntmps75
    go_wp2_with (go_at_call 34; ((with_reducible refine c0.mono ?_); intro e w2 h2; have N2 := Lib.hid h2; obtain ⟨a2, n2, c2, rfl, ho2, hb2⟩ := h2))
    go_ret
    exact N2.out
  · show Calls _ _ _ _ (NewB w (l ++ putB 1 1))
    generalize l ++ putB 1 1 = M at *
    go_enter Tryz.func75, Tryz.ntmps75
    go_wp2_with (go_at_call 34; ((with_reducible refine c1.mono ?_); intro e w2 h2; have N2 := Lib.hid h2; obtain ⟨a2, n2, c2, rfl, ho2, hb2⟩ := h2))
    go_ret
    exact N2.out

set_option maxRecDepth 100000 in
set_option maxHeartbeats 4000000 in
theorem kPut_any (pa : Option Addr) (pk pc : Nat) (l : List UInt8) (x : CmM) (rs : List RdM) (ws : List WrM) (w : World) (hl : BAt w w.heap.size pa pk l) (hpk : pk ≤ 1099510000000) (h : CmAt w x rs ws) (hn : x.n ≤ 1000000) (hm : x.m ≤ 1000000) (hU : Tabs w) :
    Calls Tryz.prog 36 #[.slice pa pk pc, .agg (cmV x)] w (NewB w (putC l (cmT x rs ws))) := by
  have H0 := Lib.hid ((Boxs.start w).more (cmV x) 33)
  have cF := fun W (hW : Below w.heap.size w W) => kFormed_any x rs ws W (h.later hW) hn hm (hU.below hW)
  have HL : Hid (∀ W, Below w.heap.size w W → BAt W W.heap.size pa pk l) := fun W hW => (hl.below hW (Nat.le_refl _)).more hW.size
  clear hl
  unfold putC
  cases hf : formCm (cmT x rs ws)
  · rw [hf] at cF
    rw [if_neg (by decide)]
    obtain ⟨x0, x1, x2, x3, x4, x5, x6, x7, x8, x9⟩ := (H0.out.get 0 _ _ _ rfl).ten
    clear hf h hU
    go_enter Tryz.func36, Tryz.ntmps36
    go_wp2_with (first | (go_at_call 50; ((with_reducible refine (cF _ H0.out.bel).mono ?_); rintro e w1 ⟨rfl, hb1⟩; have H1 := Lib.hid (H0.out.below hb1))) | (go_at_call 65; ((with_reducible refine (bclone_any pa pk pc l _ (HL.out _ H1.out.bel) (by omega)).mono ?_); intro e w2 h2; have N2 := Lib.hid (NewB.on h2 H1.out.bel); obtain ⟨a2, n2, c2, rfl, ho2, hb2⟩ := h2)))
    go_ret
    exact N2.out
  rw [hf] at cF
  rw [if_pos rfl]
  have hst := h.st
  rcases form_M hf with ⟨hk, e⟩ | ⟨hk, ht, e⟩ | ⟨hk, ⟨hi, hg, hg4⟩, e⟩ | ⟨hk, ⟨hi, hg, hg4⟩, e⟩
  · rw [e]
    clear e hf h hU
    obtain ⟨k, s, q, a, n, c, b, m, d, i, j, g, st, y⟩ := x
    simp only at hk
    subst hk
    have cK : ∀ W, Calls Tryz.prog 34 #[.slice none 0 0, .int .u64 0, .int .i64 1] W (NewB W (putB 0 1)) := fun W => put_any none 0 0 0 1 [] W BAt.nil (by omega) (by omega)
    obtain ⟨x0, x1, x2, x3, x4, x5, x6, x7, x8, x9⟩ := (H0.out.get 0 _ _ _ rfl).ten
    go_enter Tryz.func36, Tryz.ntmps36
    go_wp2_with (first | (go_at_call 50; ((with_reducible refine (cF _ H0.out.bel).mono ?_); rintro e w1 ⟨rfl, hb1⟩; have H1 := Lib.hid (H0.out.below hb1); (clear x0 x1 x2 x3 x4 x5 x6 x7 x8 x9); obtain ⟨x0, x1, x2, x3, x4, x5, x6, x7, x8, x9⟩ := (H1.out.get 0 _ _ _ rfl).ten)) | (go_at_call 34; ((with_reducible refine (cK _).mono ?_); rintro e w2 ⟨a2, n2, c2, rfl, ho2, hb2⟩; have H2 := Lib.hid (H1.out.below hb2); (clear x0 x1 x2 x3 x4 x5 x6 x7 x8 x9); obtain ⟨x0, x1, x2, x3, x4, x5, x6, x7, x8, x9⟩ := (H2.out.get 0 _ _ _ rfl).ten; have B2 := Lib.hid (BAt.of_own ho2); have hn2 : n2 ≤ 1 := by (have := own_len ho2; rw [putB_len] at this; omega))) | (go_at_call 76; ((with_reducible refine (concatBytes_any w2 _ pa pk pc l a2 n2 c2 _ (HL.out _ H2.out.bel) B2.out (by omega) (by omega)).mono ?_); intro e w9 h9; have N9 := Lib.hid (NewB.on h9 H2.out.bel); obtain ⟨a9, n9, c9, rfl, ho9, hb9⟩ := h9)))
    go_ret
    exact N9.out
  · rw [e]
    have hmx := txnB_max _ ht
    have hX := h.tx
    obtain ⟨k, s, q, a, n, c, b, m, d, i, j, g, st, y⟩ := x
    simp only at hk
    subst hk
    have cK : ∀ W, Calls Tryz.prog 34 #[.slice none 0 0, .int .u64 1, .int .i64 1] W (NewB W (putB 1 1)) := fun W => put_any none 0 0 1 1 [] W BAt.nil (by omega) (by omega)
    have cT : ∀ a1 n1 c1 W, Below w.heap.size w W → BAt W W.heap.size a1 n1 (putB 1 1) → n1 ≤ 1 → Calls Tryz.prog 73 #[.slice a1 n1 c1, .agg (txV s q a n c b m d)] W (NewB W (putB 1 1 ++ txnB bytesV (txT (s, q) rs ws))) := fun a1 n1 c1 W hW h1 h2 => (tPut_any a1 n1 c1 (putB 1 1) s q a n c b m d rs ws W h1 (by omega) (hX.later hW) (hU.below hW)).mono fun e w' h => h.cast (by unfold putT; rw [if_pos ht])
    have HM : Hid (∀ z : Nat, (putB 1 1 ++ txnB bytesV (txT (s, q) rs ws)).length = z → z ≤ 1179728) := fun z hz => by rw [List.length_append, putB_len] at hz; have h1 : (txnB bytesV (txT (s, q) rs ws)).length ≤ 1179727 := hmx; omega
    show Calls _ _ _ _ (NewB w (l ++ (putB 1 1 ++ txnB bytesV (txT (s, q) rs ws))))
    generalize putB 1 1 ++ txnB bytesV (txT (s, q) rs ws) = K2 at *
    obtain ⟨x0, x1, x2, x3, x4, x5, x6, x7, x8, x9⟩ := (H0.out.get 0 _ _ _ rfl).ten
    clear e hf h hU hX ht hmx
    go_enter Tryz.func36, Tryz.ntmps36
    go_wp2_with (first | (go_at_call 50; ((with_reducible refine (cF _ H0.out.bel).mono ?_); rintro e w1 ⟨rfl, hb1⟩; have H1 := Lib.hid (H0.out.below hb1); (clear x0 x1 x2 x3 x4 x5 x6 x7 x8 x9); obtain ⟨x0, x1, x2, x3, x4, x5, x6, x7, x8, x9⟩ := (H1.out.get 0 _ _ _ rfl).ten)) | (go_at_call 34; ((with_reducible refine (cK _).mono ?_); rintro e w2 ⟨a2, n2, c2, rfl, ho2, hb2⟩; have H2 := Lib.hid (H1.out.below hb2); (clear x0 x1 x2 x3 x4 x5 x6 x7 x8 x9); obtain ⟨x0, x1, x2, x3, x4, x5, x6, x7, x8, x9⟩ := (H2.out.get 0 _ _ _ rfl).ten; have B2 := Lib.hid (BAt.of_own ho2); have hn2 : n2 ≤ 1 := by (have := own_len ho2; rw [putB_len] at this; omega))) | (go_at_call 73; ((with_reducible refine (cT a2 n2 c2 _ H2.out.bel B2.out hn2).mono ?_); rintro e w3 ⟨a3, n3, c3, rfl, ho3, hb3⟩; have H3 := Lib.hid (H2.out.below hb3); have B3 := Lib.hid (BAt.of_own ho3); have hn3 := HM.out _ (own_len ho3))) | (go_at_call 76; ((with_reducible refine (concatBytes_any w3 _ pa pk pc l a3 n3 c3 _ (HL.out _ H3.out.bel) B3.out (by omega) (by omega)).mono ?_); intro e w9 h9; have N9 := Lib.hid (NewB.on h9 H3.out.bel); obtain ⟨a9, n9, c9, rfl, ho9, hb9⟩ := h9)))
    go_ret
    exact N9.out
  · rw [e]
    clear e hf h hU
    obtain ⟨k, s, q, a, n, c, b, m, d, i, j, g, st, y⟩ := x
    simp only at hk
    subst hk
    have cK : ∀ W, Calls Tryz.prog 34 #[.slice none 0 0, .int .u64 2, .int .i64 1] W (NewB W (putB 2 1)) := fun W => put_any none 0 0 2 1 [] W BAt.nil (by omega) (by omega)
    have cO : ∀ a1 n1 c1 L W, BAt W W.heap.size a1 n1 L → n1 ≤ 1 → Calls Tryz.prog 74 #[.slice a1 n1 c1, .agg (cmV ⟨2, s, q, a, n, c, b, m, d, i, j, g, st, y⟩)] W (NewB W (L ++ (idBytes (i, j) ++ putB g.toNat 1))) := fun a1 n1 c1 L W h1 h2 => kPutSource_any a1 n1 c1 L ⟨2, s, q, a, n, c, b, m, d, i, j, g, st, y⟩ W h1 (by omega) hi hg hg4
    have cP : ∀ a1 n1 c1 L W, BAt W W.heap.size a1 n1 L → n1 ≤ 1099511627776 → Calls Tryz.prog 34 #[.slice a1 n1 c1, .int .u64 ((st : Nat) : Int), .int .i64 8] W (NewB W (L ++ putB st 8)) := fun a1 n1 c1 L W h1 h2 => put_any a1 n1 c1 st 8 L W h1 h2 hst
    have HE : Hid (putB 2 1 ++ (idBytes (i, j) ++ (putB g.toNat 1 ++ putB st 8)) = (putB 2 1 ++ (idBytes (i, j) ++ putB g.toNat 1)) ++ putB st 8) := by unfold Hid; simp only [List.append_assoc]
    have HM4 : Hid (∀ z : Nat, (putB 2 1 ++ (idBytes (i, j) ++ putB g.toNat 1)).length = z → z ≤ 7) := fun z hz => by simp only [List.length_append, putB_len, idBytes_len] at hz; omega
    have HM5 : Hid (∀ z : Nat, ((putB 2 1 ++ (idBytes (i, j) ++ putB g.toNat 1)) ++ putB st 8).length = z → z ≤ 15) := fun z hz => by simp only [List.length_append, putB_len, idBytes_len] at hz; omega
    show Calls _ _ _ _ (NewB w (l ++ (putB 2 1 ++ (idBytes (i, j) ++ (putB g.toNat 1 ++ putB st 8)))))
    rw [HE.out]
    generalize idBytes (i, j) ++ putB g.toNat 1 = K2 at *
    generalize putB st 8 = K3 at *
    obtain ⟨x0, x1, x2, x3, x4, x5, x6, x7, x8, x9⟩ := (H0.out.get 0 _ _ _ rfl).ten
    clear hi hg hg4 HE
    go_enter Tryz.func36, Tryz.ntmps36
    go_upto_region 8 with (first | (go_at_call 50; ((with_reducible refine (cF _ H0.out.bel).mono ?_); rintro e w1 ⟨rfl, hb1⟩; have H1 := Lib.hid (H0.out.below hb1); (clear x0 x1 x2 x3 x4 x5 x6 x7 x8 x9); obtain ⟨x0, x1, x2, x3, x4, x5, x6, x7, x8, x9⟩ := (H1.out.get 0 _ _ _ rfl).ten)) | (go_at_call 34; ((with_reducible refine (cK _).mono ?_); rintro e w2 ⟨a2, n2, c2, rfl, ho2, hb2⟩; have H2 := Lib.hid (H1.out.below hb2); (clear x0 x1 x2 x3 x4 x5 x6 x7 x8 x9); obtain ⟨x0, x1, x2, x3, x4, x5, x6, x7, x8, x9⟩ := (H2.out.get 0 _ _ _ rfl).ten; have B2 := Lib.hid (BAt.of_own ho2); have hn2 : n2 ≤ 1 := by (have := own_len ho2; rw [putB_len] at this; omega))))
    (clear x0 x1 x2 x3 x4 x5 x6 x7 x8 x9)
    have X0 := Lib.hid H2.out.drew
    have s0 := (X0.out.get 0 _ _ _ rfl).ten
    have L0 : Hid (BAt w2.drew w2.drew.heap.size a2 n2 (putB 2 1)) := BAt.of_own (own_below ho2 (below_drewN 1 (Below.refl _ _)))
    go_region_held3 (fun W => (W.cell? ⟨w.heap.size, 0, none⟩ = some (.int .i64 2) ∧ W.cell? ⟨w.heap.size, 1, none⟩ = some (.int .i64 s) ∧ W.cell? ⟨w.heap.size, 2, none⟩ = some (.int .i64 q) ∧ W.cell? ⟨w.heap.size, 3, none⟩ = some (.slice a n c) ∧ W.cell? ⟨w.heap.size, 4, none⟩ = some (.slice b m d) ∧ W.cell? ⟨w.heap.size, 5, none⟩ = some (.int .i64 i) ∧ W.cell? ⟨w.heap.size, 6, none⟩ = some (.int .i64 j) ∧ W.cell? ⟨w.heap.size, 7, none⟩ = some (.int .i64 g) ∧ W.cell? ⟨w.heap.size, 8, none⟩ = some (.int .u64 ((st : Nat) : Int)) ∧ W.cell? ⟨w.heap.size, 9, none⟩ = some (.bool y))) (first | (with_reducible exact s0) | (with_reducible exact s1) | (with_reducible exact s2))
      (first | (go_at_call 74; ((with_reducible refine (cO a2 n2 c2 _ _ L0.out hn2).mono ?_); rintro e v4 ⟨a4, n4, c4, rfl, ho4, hb4⟩; have X4 := Lib.hid (X0.out.below hb4); have s1 := (X4.out.get 0 _ _ _ rfl).ten; have L4 := Lib.hid (BAt.of_own ho4); have hn4 := HM4.out _ (own_len ho4))) | (go_at_call 34; ((with_reducible refine (cP a4 n4 c4 _ _ L4.out (by omega)).mono ?_); rintro e v5 ⟨a5, n5, c5, rfl, ho5, hb5⟩; have X5 := Lib.hid (X4.out.below hb5); have s2 := (X5.out.get 0 _ _ _ rfl).ten; have L5 := Lib.hid (BAt.of_own ho5); have hn5 := HM5.out _ (own_len ho5))))
    obtain ⟨x0, x1, x2, x3, x4, x5, x6, x7, x8, x9⟩ := (X5.out.get 0 _ _ _ rfl).ten
    (clear s0 s1 s2 X0 L0 X4 L4)
    go_wp2_with (go_at_call 76; ((with_reducible refine (concatBytes_any v5 _ pa pk pc l a5 n5 c5 _ (HL.out _ X5.out.bel) L5.out (by omega) (by omega)).mono ?_); intro e w9 h9; have N9 := Lib.hid (NewB.on h9 X5.out.bel); obtain ⟨a9, n9, c9, rfl, ho9, hb9⟩ := h9))
    go_ret
    exact N9.out
  · rw [e]
    clear e hf h hU
    obtain ⟨k, s, q, a, n, c, b, m, d, i, j, g, st, y⟩ := x
    simp only at hk
    subst hk
    have cK : ∀ W, Calls Tryz.prog 34 #[.slice none 0 0, .int .u64 3, .int .i64 1] W (NewB W (putB 3 1)) := fun W => put_any none 0 0 3 1 [] W BAt.nil (by omega) (by omega)
    have cO : ∀ a1 n1 c1 L W, BAt W W.heap.size a1 n1 L → n1 ≤ 1 → Calls Tryz.prog 74 #[.slice a1 n1 c1, .agg (cmV ⟨3, s, q, a, n, c, b, m, d, i, j, g, st, y⟩)] W (NewB W (L ++ (idBytes (i, j) ++ putB g.toNat 1))) := fun a1 n1 c1 L W h1 h2 => kPutSource_any a1 n1 c1 L ⟨3, s, q, a, n, c, b, m, d, i, j, g, st, y⟩ W h1 (by omega) hi hg hg4
    have cP : ∀ a1 n1 c1 L W, BAt W W.heap.size a1 n1 L → n1 ≤ 1099511000000 → Calls Tryz.prog 75 #[.slice a1 n1 c1, .bool y] W (NewB W (L ++ putB (yesN y) 1)) := fun a1 n1 c1 L W h1 h2 => kPutYes_any a1 n1 c1 L y W h1 h2
    have HE : Hid (putB 3 1 ++ (idBytes (i, j) ++ (putB g.toNat 1 ++ putB (yesN y) 1)) = (putB 3 1 ++ (idBytes (i, j) ++ putB g.toNat 1)) ++ putB (yesN y) 1) := by unfold Hid; simp only [List.append_assoc]
    have HM4 : Hid (∀ z : Nat, (putB 3 1 ++ (idBytes (i, j) ++ putB g.toNat 1)).length = z → z ≤ 7) := fun z hz => by simp only [List.length_append, putB_len, idBytes_len] at hz; omega
    have HM5 : Hid (∀ z : Nat, ((putB 3 1 ++ (idBytes (i, j) ++ putB g.toNat 1)) ++ putB (yesN y) 1).length = z → z ≤ 15) := fun z hz => by simp only [List.length_append, putB_len, idBytes_len] at hz; omega
    show Calls _ _ _ _ (NewB w (l ++ (putB 3 1 ++ (idBytes (i, j) ++ (putB g.toNat 1 ++ putB (yesN y) 1)))))
    rw [HE.out]
    generalize idBytes (i, j) ++ putB g.toNat 1 = K2 at *
    generalize putB (yesN y) 1 = K3 at *
    obtain ⟨x0, x1, x2, x3, x4, x5, x6, x7, x8, x9⟩ := (H0.out.get 0 _ _ _ rfl).ten
    clear hi hg hg4 HE
    go_enter Tryz.func36, Tryz.ntmps36
    go_upto_region 10 with (first | (go_at_call 50; ((with_reducible refine (cF _ H0.out.bel).mono ?_); rintro e w1 ⟨rfl, hb1⟩; have H1 := Lib.hid (H0.out.below hb1); (clear x0 x1 x2 x3 x4 x5 x6 x7 x8 x9); obtain ⟨x0, x1, x2, x3, x4, x5, x6, x7, x8, x9⟩ := (H1.out.get 0 _ _ _ rfl).ten)) | (go_at_call 34; ((with_reducible refine (cK _).mono ?_); rintro e w2 ⟨a2, n2, c2, rfl, ho2, hb2⟩; have H2 := Lib.hid (H1.out.below hb2); (clear x0 x1 x2 x3 x4 x5 x6 x7 x8 x9); obtain ⟨x0, x1, x2, x3, x4, x5, x6, x7, x8, x9⟩ := (H2.out.get 0 _ _ _ rfl).ten; have B2 := Lib.hid (BAt.of_own ho2); have hn2 : n2 ≤ 1 := by (have := own_len ho2; rw [putB_len] at this; omega))))
    (clear x0 x1 x2 x3 x4 x5 x6 x7 x8 x9)
    have X0 := Lib.hid H2.out.drew
    have s0 := (X0.out.get 0 _ _ _ rfl).ten
    have L0 : Hid (BAt w2.drew w2.drew.heap.size a2 n2 (putB 3 1)) := BAt.of_own (own_below ho2 (below_drewN 1 (Below.refl _ _)))
    go_region_held3 (fun W => (W.cell? ⟨w.heap.size, 0, none⟩ = some (.int .i64 3) ∧ W.cell? ⟨w.heap.size, 1, none⟩ = some (.int .i64 s) ∧ W.cell? ⟨w.heap.size, 2, none⟩ = some (.int .i64 q) ∧ W.cell? ⟨w.heap.size, 3, none⟩ = some (.slice a n c) ∧ W.cell? ⟨w.heap.size, 4, none⟩ = some (.slice b m d) ∧ W.cell? ⟨w.heap.size, 5, none⟩ = some (.int .i64 i) ∧ W.cell? ⟨w.heap.size, 6, none⟩ = some (.int .i64 j) ∧ W.cell? ⟨w.heap.size, 7, none⟩ = some (.int .i64 g) ∧ W.cell? ⟨w.heap.size, 8, none⟩ = some (.int .u64 ((st : Nat) : Int)) ∧ W.cell? ⟨w.heap.size, 9, none⟩ = some (.bool y))) (first | (with_reducible exact s0) | (with_reducible exact s1) | (with_reducible exact s2))
      (first | (go_at_call 74; ((with_reducible refine (cO a2 n2 c2 _ _ L0.out hn2).mono ?_); rintro e v4 ⟨a4, n4, c4, rfl, ho4, hb4⟩; have X4 := Lib.hid (X0.out.below hb4); have s1 := (X4.out.get 0 _ _ _ rfl).ten; have L4 := Lib.hid (BAt.of_own ho4); have hn4 := HM4.out _ (own_len ho4))) | (go_at_call 75; ((with_reducible refine (cP a4 n4 c4 _ _ L4.out (by omega)).mono ?_); rintro e v5 ⟨a5, n5, c5, rfl, ho5, hb5⟩; have X5 := Lib.hid (X4.out.below hb5); have s2 := (X5.out.get 0 _ _ _ rfl).ten; have L5 := Lib.hid (BAt.of_own ho5); have hn5 := HM5.out _ (own_len ho5))))
    obtain ⟨x0, x1, x2, x3, x4, x5, x6, x7, x8, x9⟩ := (X5.out.get 0 _ _ _ rfl).ten
    (clear s0 s1 s2 X0 L0 X4 L4)
    go_wp2_with (go_at_call 76; ((with_reducible refine (concatBytes_any v5 _ pa pk pc l a5 n5 c5 _ (HL.out _ X5.out.bel) L5.out (by omega) (by omega)).mono ?_); intro e w9 h9; have N9 := Lib.hid (NewB.on h9 X5.out.bel); obtain ⟨a9, n9, c9, rfl, ho9, hb9⟩ := h9))
    go_ret
    exact N9.out
end Go.Proofs.YtcfmifongbapkaaGreatDoor

/- StepAppend -/
namespace Go.Proofs.YtcfmifongbapkaaGreatDoor

open Go.RowKit

set_option linter.unusedVariables false

/-- Append of bytes at a step of a region that draws its order. -/
theorem step_append_bytes {P : Program} (w : World) {ops : Array Oper} {o : Oper} {a' : Act} {K : Act → World → Prop} {Q : Exit → Act → World → Prop} {E : Prop} (hgd : o.guard = none) (s x : Operand) (t : TypeId)
    (ho : o.op = .call { callee := .builtin .append, args := #[s, x], argTypes := #[t, t] })
    (base : Nat) (e : TypeId) (i : TypeInfo) (ht : P.underlying t = some (.slice e)) (hi : P.info? e = some i) (hz : i.zero = some (.int .u8 0))
    (hsize : i.size = 1) (hby : i.bytes = 1) (v : Value) (n : Nat) (l : List UInt8) (hs : a'.eval s = v) (hown : w.ownsRow base e 1 v n (bcells l))
    (B : Nat) (a : Option Addr) (m : Nat) (news : List UInt8) (c : Nat) (hx : a'.eval x = .slice a m c) (hr : BAt w B a m news)
    (hlen : n + m ≤ 140737488355328) (hbase : base ≤ w.heap.size)
    (h : ∀ v' w', w'.ownsRow base e 1 v' (n + m) (bcells (l ++ news)) → w.grownBy w' v.ownBlock → K (a'.put o.dst v') w') :
    if Region.wanted o (yielded ops a'.tmps) = true then Oper.wp P o a' w K Q else E := by
  have hw : Region.wanted o (yielded ops a'.tmps) = true := by simp [Region.wanted, hgd]
  rw [if_pos hw]
  obtain ⟨v', w', hrun, h2, h3⟩ := run_append_bytes (P := P) w base t o.type e i ht hi hz hsize hby v n l hown B a m news c hr hlen hbase
  unfold Oper.wp execOp
  simp only [ho, resolve, invoke, builtin, Sem.run_bind, Sem.run_pure, Result.andThen_ok, List.map_toArray, List.map_cons, List.map_nil, hs, hx, hrun]
  exact h v' w' h2 h3
end Go.Proofs.YtcfmifongbapkaaGreatDoor
