/- Contract of the document's Put of commands. Conditions: what it is handed lies in memory. -/
import Derived.Test.YtpkbjbhmghdnoaaDoorCommandRefFormed
import Derived.Test.YtpkbjbhmghdnoaaDoorGT
import Derived.Test.YtpkbjbhmghdnoaaDoorGO
namespace Go.Proofs.YtpkbjbhmghdnoaaDoor

open Go.RowKit

set_option linter.unusedVariables false

set_option maxRecDepth 100000 in
set_option maxHeartbeats 4000000 in
theorem dPut_any (pa : Option Addr) (pk pc : Nat) (l : List UInt8) (x : CmM) (rs : List RdM) (ws : List WrM) (w : World) (hl : BAt w w.heap.size pa pk l) (hpk : pk ≤ 1099490000000) (h : CmAt w x rs ws) (hn : x.n ≤ 1000000) (hm : x.m ≤ 1000000) :
    Calls Tryd.prog 20 #[.slice pa pk pc, .agg (cmV x)] w (NewB w (putC l (cmT x rs ws))) := by
  obtain ⟨i0, hi, hz0, hz1, hz2⟩ := info_parts Tryd.info5
  have H0 := Lib.hid ((Boxs.start w).more (cmV x) 33)
  have hl1 := (hl.below H0.out.bel (Nat.le_refl _)).more H0.out.bel.size
  have cF := fun W (hW : Below w.heap.size w W) => dFormed_any x rs ws W (h.later hW) hn hm
  have hll := hl.len
  clear hl
  unfold putC
  cases hf : formCm (cmT x rs ws)
  · rw [hf] at cF
    rw [if_neg (by decide)]
    clear hf h
    go_enter Tryd.func20, Tryd.ntmps20
    go_upto_region 2 with (fail)
    generalize w.alloc (.cells (cmV x) 33) = w0 at *
    obtain ⟨x0, x1, x2, x3, x4, x5, x6, x7, x8, x9⟩ := (H0.out.get 0 _ _ _ rfl).ten
    go_wp2_with (first | (at_builtin; (refine wpList_append_bytes _ rfl _ _ 39 rfl w0.heap.size 5 i0 Tryd.underlying39 hi hz0 hz1 hz2 _ 0 [] rfl (World.ownsRow_nil _ _ _ _) w0.heap.size pa pk l pc rfl hl1 (by omega) (Nat.le_refl _) ?_; intro v1 w1 ho1 hg1; rw [Nat.zero_add, List.nil_append] at ho1; have P1 : Hid (PutIn w0 w1 v1 pk l) := ⟨ho1, (Below.refl _ _).grown hg1 (Nat.le_refl _) (by intro j hj; cases hj)⟩; clear ho1 hg1; have H1 := Lib.hid (H0.out.below P1.out.bel); (clear x0 x1 x2 x3 x4 x5 x6 x7 x8 x9); obtain ⟨x0, x1, x2, x3, x4, x5, x6, x7, x8, x9⟩ := (H1.out.get 0 _ _ _ rfl).ten)) | (go_at_call 10; ((with_reducible refine (cF _ H1.out.bel).mono ?_); rintro e w2 ⟨rfl, hb2⟩; have P2 := Lib.hid (P1.out.below hb2))))
    go_ret
    exact P2.out.out.on H0.out.bel
  rw [hf] at cF
  rw [if_pos rfl]
  have hst := h.st
  have hX := h.tx
  rcases form_M hf with ⟨hk, e⟩ | ⟨hk, ht, e⟩ | ⟨hk, ⟨hid, hg, hg4⟩, e⟩ | ⟨hk, ⟨hid, hg, hg4⟩, e⟩
  · rw [e]
    clear e hf h
    obtain ⟨k, s, q, a, n, c, b, m, d, i, j, g, st, y⟩ := x
    simp only at hk
    subst hk
    show Calls _ _ _ _ (NewB w (l ++ putB 0 1))
    have HE : Hid (l ++ putB 0 1 = l ++ [UInt8.ofNat 0]) := by unfold Hid; rw [put_one]
    rw [HE.out]
    clear hX
    go_enter Tryd.func20, Tryd.ntmps20
    go_upto_region 2 with (fail)
    generalize w.alloc (.cells (cmV ⟨0, s, q, a, n, c, b, m, d, i, j, g, st, y⟩) 33) = w0 at *
    obtain ⟨x0, x1, x2, x3, x4, x5, x6, x7, x8, x9⟩ := (H0.out.get 0 _ _ _ rfl).ten
    go_upto_region 5 with (first | (at_builtin; (refine wpList_append_bytes _ rfl _ _ 39 rfl w0.heap.size 5 i0 Tryd.underlying39 hi hz0 hz1 hz2 _ 0 [] rfl (World.ownsRow_nil _ _ _ _) w0.heap.size pa pk l pc rfl hl1 (by omega) (Nat.le_refl _) ?_; intro v1 w1 ho1 hg1; rw [Nat.zero_add, List.nil_append] at ho1; have P1 : Hid (PutIn w0 w1 v1 pk l) := ⟨ho1, (Below.refl _ _).grown hg1 (Nat.le_refl _) (by intro j hj; cases hj)⟩; clear ho1 hg1; have H1 := Lib.hid (H0.out.below P1.out.bel); (clear x0 x1 x2 x3 x4 x5 x6 x7 x8 x9); obtain ⟨x0, x1, x2, x3, x4, x5, x6, x7, x8, x9⟩ := (H1.out.get 0 _ _ _ rfl).ten)) | (go_at_call 10; ((with_reducible refine (cF _ H1.out.bel).mono ?_); rintro e w2 ⟨rfl, hb2⟩; have P2 := Lib.hid (P1.out.below hb2))))
    have H2 := Lib.hid (H0.out.below P2.out.bel)
    (clear x0 x1 x2 x3 x4 x5 x6 x7 x8 x9)
    obtain ⟨x0, x1, x2, x3, x4, x5, x6, x7, x8, x9⟩ := (H2.out.get 0 _ _ _ rfl).ten
    have hsz2 := P2.out.bel.size
    go_upto_region 6 with (at_builtin; (refine wpList_append_bytes _ rfl _ _ 39 rfl w0.heap.size 5 i0 Tryd.underlying39 hi hz0 hz1 hz2 _ pk l rfl (P2.out.own.alloc _) (w2.heap.size + 1) (some ⟨w2.heap.size, 0, none⟩) 1 [UInt8.ofNat 0] 1 rfl (BAt.one _ _ _ _ (by first | rfl | decide)) (by omega) (by simp; omega) ?_; intro v3 w3 ho3 hg3; have P3 := Lib.hid (P2.out.next ho3 hg3); clear ho3 hg3))
    obtain ⟨a3, c3, rfl⟩ := P3.out.form
    have H3 := Lib.hid (H0.out.below P3.out.bel)
    (clear x0 x1 x2 x3 x4 x5 x6 x7 x8 x9)
    obtain ⟨x0, x1, x2, x3, x4, x5, x6, x7, x8, x9⟩ := (H3.out.get 0 _ _ _ rfl).ten
    have hl3 := P3.out.len
    (clear P1 P2 H1 H2 cF)
    generalize l ++ [UInt8.ofNat 0] = l3 at *
    go_wp2
    go_ret
    exact P3.out.out.on H0.out.bel
  · rw [e]
    clear e hf h
    obtain ⟨k, s, q, a, n, c, b, m, d, i, j, g, st, y⟩ := x
    simp only at hk
    subst hk
    show Calls _ _ _ _ (NewB w (l ++ (putB 1 1 ++ txnB bytesV (txT (s, q) rs ws))))
    have HE : Hid (l ++ (putB 1 1 ++ txnB bytesV (txT (s, q) rs ws)) = (l ++ [UInt8.ofNat 1]) ++ txnB bytesV (txT (s, q) rs ws)) := by unfold Hid; rw [put_one, List.append_assoc]
    have cT : ∀ a1 n1 c1 L W, Below w.heap.size w W → BAt W W.heap.size a1 n1 L → n1 ≤ 1099500000000 → Calls Tryd.prog 45 #[.slice a1 n1 c1, .agg (txV s q a n c b m d)] W (NewB W (L ++ txnB bytesV (txT (s, q) rs ws))) := fun a1 n1 c1 L W hW h1 h2 => (rPutT_any a1 n1 c1 L s q a n c b m d rs ws W h1 h2 (hX.later hW)).mono fun e w' h => h.cast (by unfold putT; rw [if_pos ht])
    rw [HE.out]
    generalize txnB bytesV (txT (s, q) rs ws) = K2 at *
    clear hX
    go_enter Tryd.func20, Tryd.ntmps20
    go_upto_region 2 with (fail)
    generalize w.alloc (.cells (cmV ⟨1, s, q, a, n, c, b, m, d, i, j, g, st, y⟩) 33) = w0 at *
    obtain ⟨x0, x1, x2, x3, x4, x5, x6, x7, x8, x9⟩ := (H0.out.get 0 _ _ _ rfl).ten
    go_upto_region 5 with (first | (at_builtin; (refine wpList_append_bytes _ rfl _ _ 39 rfl w0.heap.size 5 i0 Tryd.underlying39 hi hz0 hz1 hz2 _ 0 [] rfl (World.ownsRow_nil _ _ _ _) w0.heap.size pa pk l pc rfl hl1 (by omega) (Nat.le_refl _) ?_; intro v1 w1 ho1 hg1; rw [Nat.zero_add, List.nil_append] at ho1; have P1 : Hid (PutIn w0 w1 v1 pk l) := ⟨ho1, (Below.refl _ _).grown hg1 (Nat.le_refl _) (by intro j hj; cases hj)⟩; clear ho1 hg1; have H1 := Lib.hid (H0.out.below P1.out.bel); (clear x0 x1 x2 x3 x4 x5 x6 x7 x8 x9); obtain ⟨x0, x1, x2, x3, x4, x5, x6, x7, x8, x9⟩ := (H1.out.get 0 _ _ _ rfl).ten)) | (go_at_call 10; ((with_reducible refine (cF _ H1.out.bel).mono ?_); rintro e w2 ⟨rfl, hb2⟩; have P2 := Lib.hid (P1.out.below hb2))))
    have H2 := Lib.hid (H0.out.below P2.out.bel)
    (clear x0 x1 x2 x3 x4 x5 x6 x7 x8 x9)
    obtain ⟨x0, x1, x2, x3, x4, x5, x6, x7, x8, x9⟩ := (H2.out.get 0 _ _ _ rfl).ten
    have hsz2 := P2.out.bel.size
    go_upto_region 6 with (at_builtin; (refine wpList_append_bytes _ rfl _ _ 39 rfl w0.heap.size 5 i0 Tryd.underlying39 hi hz0 hz1 hz2 _ pk l rfl (P2.out.own.alloc _) (w2.heap.size + 1) (some ⟨w2.heap.size, 0, none⟩) 1 [UInt8.ofNat 1] 1 rfl (BAt.one _ _ _ _ (by first | rfl | decide)) (by omega) (by simp; omega) ?_; intro v3 w3 ho3 hg3; have P3 := Lib.hid (P2.out.next ho3 hg3); clear ho3 hg3))
    obtain ⟨a3, c3, rfl⟩ := P3.out.form
    have H3 := Lib.hid (H0.out.below P3.out.bel)
    (clear x0 x1 x2 x3 x4 x5 x6 x7 x8 x9)
    obtain ⟨x0, x1, x2, x3, x4, x5, x6, x7, x8, x9⟩ := (H3.out.get 0 _ _ _ rfl).ten
    have hl3 := P3.out.len
    (clear P1 P2 H1 H2 cF)
    generalize l ++ [UInt8.ofNat 1] = l3 at *
    go_wp2_with (go_at_call 45; ((with_reducible refine (cT a3 _ c3 _ _ H3.out.bel P3.out.bat (by omega)).mono ?_); intro e w4 h4; have N4 := Lib.hid (NewB.on h4 H3.out.bel); obtain ⟨a4, n4, c4, rfl, ho4, hb4⟩ := h4))
    go_ret
    exact N4.out
  · rw [e]
    clear e hf h
    obtain ⟨k, s, q, a, n, c, b, m, d, i, j, g, st, y⟩ := x
    simp only at hk
    subst hk
    simp only at hid hg hg4
    obtain ⟨D, rfl⟩ : ∃ D : Nat, g = (D : Int) := ⟨g.toNat, by omega⟩
    show Calls _ _ _ _ (NewB w (l ++ (putB 2 1 ++ (idBytes (i, j) ++ (putB D 1 ++ putB st 8)))))
    have HE : Hid (l ++ (putB 2 1 ++ (idBytes (i, j) ++ (putB D 1 ++ putB st 8))) = (((l ++ [UInt8.ofNat 2]) ++ idBytes (i, j)) ++ [UInt8.ofNat D]) ++ putB st 8) := by unfold Hid; rw [put_one 2, put_one D]; simp only [List.append_assoc]
    have cI : ∀ a1 n1 c1 L W, BAt W W.heap.size a1 n1 L → n1 ≤ 1099511600000 → Calls Tryd.prog 46 #[.slice a1 n1 c1, .agg #[.int .i64 i, .int .i64 j]] W (NewB W (L ++ idBytes (i, j))) := fun a1 n1 c1 L W h1 h2 => (rPutId_any a1 n1 c1 i j L W h1 h2).mono fun e w' h => h.cast (by unfold putId; rw [if_pos hid])
    have hI5 := idBytes_len (i, j)
    rw [HE.out]
    generalize idBytes (i, j) = I at *
    clear hX
    go_enter Tryd.func20, Tryd.ntmps20
    go_upto_region 2 with (fail)
    generalize w.alloc (.cells (cmV ⟨2, s, q, a, n, c, b, m, d, i, j, ((D : Nat) : Int), st, y⟩) 33) = w0 at *
    obtain ⟨x0, x1, x2, x3, x4, x5, x6, x7, x8, x9⟩ := (H0.out.get 0 _ _ _ rfl).ten
    go_upto_region 5 with (first | (at_builtin; (refine wpList_append_bytes _ rfl _ _ 39 rfl w0.heap.size 5 i0 Tryd.underlying39 hi hz0 hz1 hz2 _ 0 [] rfl (World.ownsRow_nil _ _ _ _) w0.heap.size pa pk l pc rfl hl1 (by omega) (Nat.le_refl _) ?_; intro v1 w1 ho1 hg1; rw [Nat.zero_add, List.nil_append] at ho1; have P1 : Hid (PutIn w0 w1 v1 pk l) := ⟨ho1, (Below.refl _ _).grown hg1 (Nat.le_refl _) (by intro j hj; cases hj)⟩; clear ho1 hg1; have H1 := Lib.hid (H0.out.below P1.out.bel); (clear x0 x1 x2 x3 x4 x5 x6 x7 x8 x9); obtain ⟨x0, x1, x2, x3, x4, x5, x6, x7, x8, x9⟩ := (H1.out.get 0 _ _ _ rfl).ten)) | (go_at_call 10; ((with_reducible refine (cF _ H1.out.bel).mono ?_); rintro e w2 ⟨rfl, hb2⟩; have P2 := Lib.hid (P1.out.below hb2))))
    have H2 := Lib.hid (H0.out.below P2.out.bel)
    (clear x0 x1 x2 x3 x4 x5 x6 x7 x8 x9)
    obtain ⟨x0, x1, x2, x3, x4, x5, x6, x7, x8, x9⟩ := (H2.out.get 0 _ _ _ rfl).ten
    have hsz2 := P2.out.bel.size
    go_upto_region 6 with (at_builtin; (refine wpList_append_bytes _ rfl _ _ 39 rfl w0.heap.size 5 i0 Tryd.underlying39 hi hz0 hz1 hz2 _ pk l rfl (P2.out.own.alloc _) (w2.heap.size + 1) (some ⟨w2.heap.size, 0, none⟩) 1 [UInt8.ofNat 2] 1 rfl (BAt.one _ _ _ _ (by first | rfl | decide)) (by omega) (by simp; omega) ?_; intro v3 w3 ho3 hg3; have P3 := Lib.hid (P2.out.next ho3 hg3); clear ho3 hg3))
    obtain ⟨a3, c3, rfl⟩ := P3.out.form
    have H3 := Lib.hid (H0.out.below P3.out.bel)
    (clear x0 x1 x2 x3 x4 x5 x6 x7 x8 x9)
    obtain ⟨x0, x1, x2, x3, x4, x5, x6, x7, x8, x9⟩ := (H3.out.get 0 _ _ _ rfl).ten
    have hl3 := P3.out.len
    (clear P1 P2 H1 H2 cF)
    generalize l ++ [UInt8.ofNat 2] = l3 at *
    go_upto_region 11 with (go_at_call 46; ((with_reducible refine (cI a3 _ c3 _ _ P3.out.bat (by omega)).mono ?_); rintro e w4 ⟨a4, n4, c4, rfl, ho4, hb4⟩; have P4 := Lib.hid (PutIn.call P3.out.bel ho4 hb4)))
    have hn4 : n4 = pk + 6 := by have := P4.out.len; rw [List.length_append] at this; omega
    have H4 := Lib.hid (H0.out.below P4.out.bel)
    (clear x0 x1 x2 x3 x4 x5 x6 x7 x8 x9)
    obtain ⟨x0, x1, x2, x3, x4, x5, x6, x7, x8, x9⟩ := (H4.out.get 0 _ _ _ rfl).ten
    have hsz4 := P4.out.bel.size
    (clear P3 H3 cI ho4 hb4)
    generalize l3 ++ I = l4 at *
    have hn4' : n4 ≤ 1099490000006 := by omega
    clear hn4
    go_upto_region 12 with (at_builtin; (refine wpList_append_bytes _ rfl _ _ 39 rfl w0.heap.size 5 i0 Tryd.underlying39 hi hz0 hz1 hz2 _ n4 l4 rfl (P4.out.own.alloc _) (w4.heap.size + 1) (some ⟨w4.heap.size, 0, none⟩) 1 [UInt8.ofNat D] 1 rfl (BAt.one _ _ _ _ (by first | exact byte_nat D (by omega) | exact byte_mod D)) (by omega) (by simp; omega) ?_; intro v5 w5 ho5 hg5; have P5 := Lib.hid (P4.out.next ho5 hg5); clear ho5 hg5))
    obtain ⟨a5, c5, rfl⟩ := P5.out.form
    have H5 := Lib.hid (H0.out.below P5.out.bel)
    (clear x0 x1 x2 x3 x4 x5 x6 x7 x8 x9)
    obtain ⟨x0, x1, x2, x3, x4, x5, x6, x7, x8, x9⟩ := (H5.out.get 0 _ _ _ rfl).ten
    have hsz5 := P5.out.bel.size
    (clear P4 H4)
    generalize l4 ++ [UInt8.ofNat D] = l5 at *
    have cP : ∀ a1 n1 c1 L W, BAt W W.heap.size a1 n1 L → n1 ≤ 1099511627776 → Calls Tryd.prog 47 #[.slice a1 n1 c1, .int .u64 ((st : Nat) : Int), .int .i64 8] W (NewB W (L ++ putB st 8)) := fun a1 n1 c1 L W h1 h2 => refPut_any a1 n1 c1 st 8 L W h1 h2 hst (by omega) (by omega)
    go_wp2_with (go_at_call 47; ((with_reducible refine (cP a5 _ c5 _ _ P5.out.bat (by omega)).mono ?_); intro e w6 h6; have N6 := Lib.hid (NewB.on h6 H5.out.bel); obtain ⟨a6, n6, c6, rfl, ho6, hb6⟩ := h6))
    go_ret
    exact N6.out
  · rw [e]
    clear e hf h
    obtain ⟨k, s, q, a, n, c, b, m, d, i, j, g, st, y⟩ := x
    simp only at hk
    subst hk
    simp only at hid hg hg4
    obtain ⟨D, rfl⟩ : ∃ D : Nat, g = (D : Int) := ⟨g.toNat, by omega⟩
    show Calls _ _ _ _ (NewB w (l ++ (putB 3 1 ++ (idBytes (i, j) ++ (putB D 1 ++ putB (yesN y) 1)))))
    have HE : Hid (l ++ (putB 3 1 ++ (idBytes (i, j) ++ (putB D 1 ++ putB (yesN y) 1))) = (((l ++ [UInt8.ofNat 3]) ++ idBytes (i, j)) ++ [UInt8.ofNat D]) ++ putB (yesN y) 1) := by unfold Hid; rw [put_one 3, put_one D]; simp only [List.append_assoc]
    have cI : ∀ a1 n1 c1 L W, BAt W W.heap.size a1 n1 L → n1 ≤ 1099511600000 → Calls Tryd.prog 46 #[.slice a1 n1 c1, .agg #[.int .i64 i, .int .i64 j]] W (NewB W (L ++ idBytes (i, j))) := fun a1 n1 c1 L W h1 h2 => (rPutId_any a1 n1 c1 i j L W h1 h2).mono fun e w' h => h.cast (by unfold putId; rw [if_pos hid])
    have hI5 := idBytes_len (i, j)
    rw [HE.out]
    generalize idBytes (i, j) = I at *
    clear hX
    go_enter Tryd.func20, Tryd.ntmps20
    go_upto_region 2 with (fail)
    generalize w.alloc (.cells (cmV ⟨3, s, q, a, n, c, b, m, d, i, j, ((D : Nat) : Int), st, y⟩) 33) = w0 at *
    obtain ⟨x0, x1, x2, x3, x4, x5, x6, x7, x8, x9⟩ := (H0.out.get 0 _ _ _ rfl).ten
    go_upto_region 5 with (first | (at_builtin; (refine wpList_append_bytes _ rfl _ _ 39 rfl w0.heap.size 5 i0 Tryd.underlying39 hi hz0 hz1 hz2 _ 0 [] rfl (World.ownsRow_nil _ _ _ _) w0.heap.size pa pk l pc rfl hl1 (by omega) (Nat.le_refl _) ?_; intro v1 w1 ho1 hg1; rw [Nat.zero_add, List.nil_append] at ho1; have P1 : Hid (PutIn w0 w1 v1 pk l) := ⟨ho1, (Below.refl _ _).grown hg1 (Nat.le_refl _) (by intro j hj; cases hj)⟩; clear ho1 hg1; have H1 := Lib.hid (H0.out.below P1.out.bel); (clear x0 x1 x2 x3 x4 x5 x6 x7 x8 x9); obtain ⟨x0, x1, x2, x3, x4, x5, x6, x7, x8, x9⟩ := (H1.out.get 0 _ _ _ rfl).ten)) | (go_at_call 10; ((with_reducible refine (cF _ H1.out.bel).mono ?_); rintro e w2 ⟨rfl, hb2⟩; have P2 := Lib.hid (P1.out.below hb2))))
    have H2 := Lib.hid (H0.out.below P2.out.bel)
    (clear x0 x1 x2 x3 x4 x5 x6 x7 x8 x9)
    obtain ⟨x0, x1, x2, x3, x4, x5, x6, x7, x8, x9⟩ := (H2.out.get 0 _ _ _ rfl).ten
    have hsz2 := P2.out.bel.size
    go_upto_region 6 with (at_builtin; (refine wpList_append_bytes _ rfl _ _ 39 rfl w0.heap.size 5 i0 Tryd.underlying39 hi hz0 hz1 hz2 _ pk l rfl (P2.out.own.alloc _) (w2.heap.size + 1) (some ⟨w2.heap.size, 0, none⟩) 1 [UInt8.ofNat 3] 1 rfl (BAt.one _ _ _ _ (by first | rfl | decide)) (by omega) (by simp; omega) ?_; intro v3 w3 ho3 hg3; have P3 := Lib.hid (P2.out.next ho3 hg3); clear ho3 hg3))
    obtain ⟨a3, c3, rfl⟩ := P3.out.form
    have H3 := Lib.hid (H0.out.below P3.out.bel)
    (clear x0 x1 x2 x3 x4 x5 x6 x7 x8 x9)
    obtain ⟨x0, x1, x2, x3, x4, x5, x6, x7, x8, x9⟩ := (H3.out.get 0 _ _ _ rfl).ten
    have hl3 := P3.out.len
    (clear P1 P2 H1 H2 cF)
    generalize l ++ [UInt8.ofNat 3] = l3 at *
    go_upto_region 11 with (go_at_call 46; ((with_reducible refine (cI a3 _ c3 _ _ P3.out.bat (by omega)).mono ?_); rintro e w4 ⟨a4, n4, c4, rfl, ho4, hb4⟩; have P4 := Lib.hid (PutIn.call P3.out.bel ho4 hb4)))
    have hn4 : n4 = pk + 6 := by have := P4.out.len; rw [List.length_append] at this; omega
    have H4 := Lib.hid (H0.out.below P4.out.bel)
    (clear x0 x1 x2 x3 x4 x5 x6 x7 x8 x9)
    obtain ⟨x0, x1, x2, x3, x4, x5, x6, x7, x8, x9⟩ := (H4.out.get 0 _ _ _ rfl).ten
    have hsz4 := P4.out.bel.size
    (clear P3 H3 cI ho4 hb4)
    generalize l3 ++ I = l4 at *
    have hn4' : n4 ≤ 1099490000006 := by omega
    clear hn4
    go_upto_region 12 with (at_builtin; (refine wpList_append_bytes _ rfl _ _ 39 rfl w0.heap.size 5 i0 Tryd.underlying39 hi hz0 hz1 hz2 _ n4 l4 rfl (P4.out.own.alloc _) (w4.heap.size + 1) (some ⟨w4.heap.size, 0, none⟩) 1 [UInt8.ofNat D] 1 rfl (BAt.one _ _ _ _ (by first | exact byte_nat D (by omega) | exact byte_mod D)) (by omega) (by simp; omega) ?_; intro v5 w5 ho5 hg5; have P5 := Lib.hid (P4.out.next ho5 hg5); clear ho5 hg5))
    obtain ⟨a5, c5, rfl⟩ := P5.out.form
    have H5 := Lib.hid (H0.out.below P5.out.bel)
    (clear x0 x1 x2 x3 x4 x5 x6 x7 x8 x9)
    obtain ⟨x0, x1, x2, x3, x4, x5, x6, x7, x8, x9⟩ := (H5.out.get 0 _ _ _ rfl).ten
    have hsz5 := P5.out.bel.size
    (clear P4 H4)
    generalize l4 ++ [UInt8.ofNat D] = l5 at *
    cases y
    · show _
      go_wp2_with (at_builtin; (refine wpList_append_bytes _ rfl _ _ 39 rfl w0.heap.size 5 i0 Tryd.underlying39 hi hz0 hz1 hz2 _ (n4 + 1) l5 rfl (P5.out.own.alloc _) (w5.heap.size + 1) (some ⟨w5.heap.size, 0, none⟩) 1 [UInt8.ofNat 0] 1 rfl (BAt.one _ _ _ _ (by first | rfl | decide)) (by omega) (by simp; omega) ?_; intro v6 w6 ho6 hg6; have P6 := Lib.hid (P5.out.next ho6 hg6); clear ho6 hg6))
      go_ret
      exact (P6.out.out.on H0.out.bel).cast (by rw [← put_one]; rfl)
    · show _
      go_wp2_with (at_builtin; (refine wpList_append_bytes _ rfl _ _ 39 rfl w0.heap.size 5 i0 Tryd.underlying39 hi hz0 hz1 hz2 _ (n4 + 1) l5 rfl (P5.out.own.alloc _) (w5.heap.size + 1) (some ⟨w5.heap.size, 0, none⟩) 1 [UInt8.ofNat 1] 1 rfl (BAt.one _ _ _ _ (by first | rfl | decide)) (by omega) (by simp; omega) ?_; intro v6 w6 ho6 hg6; have P6 := Lib.hid (P5.out.next ho6 hg6); clear ho6 hg6))
      go_ret
      exact (P6.out.out.on H0.out.bel).cast (by rw [← put_one]; rfl)
end Go.Proofs.YtpkbjbhmghdnoaaDoor
