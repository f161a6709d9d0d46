
/- Contracts of the document's Write and Frame. Conditions: the record's lists lie in memory, and are no longer than a million. -/
import Derived.Test.YtcfmifongbapkaaGreatDoorQU
import Derived.Test.YtcfmifongbapkaaGreatDoorQZD
import Derived.Test.YtcfmifongbapkaaGreatDoorQZE
import Derived.Test.YtcfmifongbapkaaGreatDoorQY
/- WalRefWrite -/
namespace Go.Proofs.YtcfmifongbapkaaGreatDoor

open Go.RowKit

set_option linter.unusedVariables false
set_option linter.unusedSimpArgs false

theorem BoxC.allR {w : World} {g : Nat} {x : RcM} (h : BoxC w g (rcV x) 47) : w.cell? ⟨g, 0, none⟩ = some (.int .i64 x.k) ∧ w.cell? ⟨g, 1, none⟩ = some (.int .u32 ((x.br : Nat) : Int)) ∧ w.cell? ⟨g, 2, none⟩ = some (.int .i64 x.bn) ∧ w.cell? ⟨g, 3, none⟩ = some (.int .i64 x.sl) ∧ w.cell? ⟨g, 4, none⟩ = some (.int .i64 x.cm.k) ∧ w.cell? ⟨g, 5, none⟩ = some (.int .i64 x.cm.s) ∧ w.cell? ⟨g, 6, none⟩ = some (.int .i64 x.cm.q) ∧ w.cell? ⟨g, 7, none⟩ = some (.slice x.cm.a x.cm.n x.cm.c) ∧ w.cell? ⟨g, 8, none⟩ = some (.slice x.cm.b x.cm.m x.cm.d) ∧ w.cell? ⟨g, 9, none⟩ = some (.int .i64 x.cm.i) ∧ w.cell? ⟨g, 10, none⟩ = some (.int .i64 x.cm.j) ∧ w.cell? ⟨g, 11, none⟩ = some (.int .i64 x.cm.g) ∧ w.cell? ⟨g, 12, none⟩ = some (.int .u64 ((x.cm.st : Nat) : Int)) ∧ w.cell? ⟨g, 13, none⟩ = some (.bool x.cm.y) ∧ w.cell? ⟨g, 14, none⟩ = some (.slice x.da x.dn x.dc) ∧ (Go.Proofs.YtcfmifongbapkaaGreatDoor.ldR (.pointer (some ⟨g, 0, none⟩))).run Tryz.prog w = .ok (.agg (rcV x)) w :=
  ⟨h.cell 0 _ rfl, h.cell 1 _ rfl, h.cell 2 _ rfl, h.cell 3 _ rfl, h.cell 4 _ rfl, h.cell 5 _ rfl, h.cell 6 _ rfl, h.cell 7 _ rfl, h.cell 8 _ rfl, h.cell 9 _ rfl, h.cell 10 _ rfl, h.cell 11 _ rfl, h.cell 12 _ rfl, h.cell 13 _ rfl, h.cell 14 _ rfl, h.ldR⟩
set_option maxRecDepth 100000 in
set_option maxHeartbeats 2000000 in
theorem rWrite_no (x : RcM) (L : RcL) (w : World) (h : RcAt w x L) (hf : RcF x) (hF : formR (rcT x L) = false) :
    Calls Tryz.prog 11 #[.agg (rcV x)] w (NoForm w) := by
  have H0 := Lib.hid ((Boxs.start w).more (rcV x) 47)
  have cF : ∀ W, Below w.heap.size w W → Calls Tryz.prog 16 #[.agg (rcV x)] W (Says W false) := fun W hW => by have := rFormed13_any x L W (h.later hW) hf; rw [hF] at this; exact this
  have xR := (H0.out.get 0 _ _ _ rfl).ldR
  clear h hf
  go_enter Tryz.func11, Tryz.ntmps11
  go_wp2_with (go_at_call 16; ((with_reducible refine (cF _ H0.out.bel).mono ?_); rintro e w1 ⟨rfl, hb1⟩; have H1 := Lib.hid (H0.out.below hb1)))
  go_ret2
  exact ⟨rfl, H1.out.bel⟩
set_option maxRecDepth 100000 in
set_option maxHeartbeats 8000000 in
theorem rWrite_yes (x : RcM) (L : RcL) (w : World) (h : RcAt w x L) (hf : RcF x) (hF : formR (rcT x L) = true) :
    Calls Tryz.prog 11 #[.agg (rcV x)] w (NewB2 w (rcB (rcT x L))) := by
  obtain ⟨i0, hi, hz0, hz1, hz2⟩ := info_parts Tryz.info5
  have H0 := Lib.hid ((Boxs.start w).more (rcV x) 47)
  have cF : ∀ W, Below w.heap.size w W → Calls Tryz.prog 16 #[.agg (rcV x)] W (Says W true) := fun W hW => by have := rFormed13_any x L W (h.later hW) hf; rw [hF] at this; exact this
  have cS : ∀ a n c (l : List UInt8) (S : Nat) W, BAt W W.heap.size a n l → n ≤ 1000000 → S ≤ 1000000 → Calls Tryz.prog 40 #[.slice a n c, .int .u64 ((S : Nat) : Int), .int .i64 4] W (NewB W (l ++ putB S 4)) := fun a n c l S W h1 h2 h3 => refPut_any a n c S 4 l W h1 (by omega) (by omega) (by omega) (by omega)
  have cB : ∀ a n c (l : List UInt8) W, BAt W W.heap.size a n l → n ≤ 1000000 → formB x.bn = true → Calls Tryz.prog 39 #[.slice a n c, .agg #[.int .u32 ((x.br : Nat) : Int), .int .i64 x.bn]] W (NewB W (l ++ balBytes (((x.br : Nat) : Int), x.bn))) := fun a n c l W h1 h2 h3 => by
    have h4 := rPut_any a n c x.br x.bn l W h1 (by omega) h.br
    rw [bal_put _ _ h3] at h4; exact h4
  have cC : ∀ a n c (l : List UInt8) W, BAt W W.heap.size a n l → n ≤ 1000000 → Below w.heap.size w W → formCm (cmT x.cm L.rs L.ws) = true → Calls Tryz.prog 41 #[.slice a n c, .agg (cmV x.cm)] W (NewB W (l ++ cmB (cmT x.cm L.rs L.ws))) := fun a n c l W h1 h2 hW h3 => (dPut_any a n c l x.cm L.rs L.ws W h1 (by omega) (h.cm.later hW) hf.n hf.m).mono fun e w' h => h.cast (by unfold putC; rw [if_pos h3])
  have HD : Hid (∀ W, Below w.heap.size w W → BAt W w.heap.size x.da x.dn L.dl) := fun W hW => h.da.below hW (Nat.le_refl _)
  have hdl := h.da.len
  have hFR := (formR_iff _).1 hF
  clear h hf hF
  obtain ⟨x0, x1, x2, x3, x4, x5, x6, x7, x8, x9, x10, x11, x12, x13, x14, xR⟩ := (H0.out.get 0 _ _ _ rfl).allR
  unfold FormR slotP rcT at hFR
  simp only at hFR
  unfold rcT
  unfold rcB
  simp only
  rcases hFR with ⟨hk, f1, f2, f3, f4⟩ | ⟨hk, f1, f2, f3, f4⟩ | ⟨hk, f1, f2, f3, f4⟩ | ⟨hk, f1, f2, f3, f4⟩
  · clear hdl
    obtain ⟨k, br, bn, sl, cm, da, dn, dc⟩ := x
    simp only at hk
    subst hk
    dsimp only at cB cC cF f1 f2 f3 f4
    clear HD
    subst f2
    show Calls _ _ _ _ (NewB2 w (putB 1 1 ++ (balBytes (((br : Nat) : Int), bn))))
    rw [put_one 1]
    go_enter Tryz.func11, Tryz.ntmps11
    go_upto_region 4 with (go_at_call 16; ((with_reducible refine (cF _ H0.out.bel).mono ?_); rintro e w1 ⟨rfl, hb1⟩; have H1 := Lib.hid (H0.out.below hb1); (clear x0 x1 x2 x3 x4 x5 x6 x7 x8 x9 x10 x11 x12 x13 x14 xR); obtain ⟨x0, x1, x2, x3, x4, x5, x6, x7, x8, x9, x10, x11, x12, x13, x14, xR⟩ := (H1.out.get 0 _ _ _ rfl).allR))
    have X2 : Hid (Boxs w (w1.alloc (.cells #[.int .u8 1] 5)) [(w.heap.size, rcV ⟨1, br, bn, 0, cm, da, dn, dc⟩, 47)]) := H1.out.below ((Below.refl _ _).alloc (Nat.le_refl _) _)
    have L2 : Hid (BAt (w1.alloc (.cells #[.int .u8 1] 5)) (w1.alloc (.cells #[.int .u8 1] 5)).heap.size (some ⟨w1.heap.size, 0, none⟩) 1 [UInt8.ofNat 1]) := (BAt.one _ _ _ _ rfl).more (by simp)
    clear H0 H1 x0 x1 x2 x3 x4 x5 x6 x7 x8 x9 x10 x11 x12 x13 x14 xR cF hb1
    generalize w1.alloc (.cells #[.int .u8 1] 5) = v2 at *
    generalize w1.heap.size = b2 at *
    obtain ⟨x0, x1, x2, x3, x4, x5, x6, x7, x8, x9, x10, x11, x12, x13, x14, xR⟩ := (X2.out.get 0 _ _ _ rfl).allR
    go_wp2_with ((go_at_call 39; ((with_reducible refine (cB _ _ _ _ _ L2.out (by omega) f1).mono ?_); rintro e v3 ⟨a3, n3, c3, rfl, ho3, hb3⟩; have X3 := Lib.hid (X2.out.below hb3); have L3 := Lib.hid (BAt.of_own ho3); have hn3 := own_len ho3; have P3 := Lib.hid (PutIn.call X2.out.bel ho3 hb3); (clear x0 x1 x2 x3 x4 x5 x6 x7 x8 x9 x10 x11 x12 x13 x14 xR); obtain ⟨x0, x1, x2, x3, x4, x5, x6, x7, x8, x9, x10, x11, x12, x13, x14, xR⟩ := (X3.out.get 0 _ _ _ rfl).allR; clear ho3 hb3)))
    go_ret2
    have E := P3.out.out2
    try simp only [List.append_assoc] at E
    exact E
  · clear hdl
    obtain ⟨k, br, bn, sl, cm, da, dn, dc⟩ := x
    simp only at hk
    subst hk
    dsimp only at cB cC cF f1 f2 f3 f4
    clear HD
    obtain ⟨g1, g2⟩ := f2
    obtain ⟨S, rfl⟩ : ∃ S : Nat, sl = ((S : Nat) : Int) := ⟨sl.toNat, by omega⟩
    have hS : S ≤ 1000000 := by omega
    have eS : (((S : Nat) : Int)).toNat = S := Int.toNat_natCast S
    clear g1 g2
    show Calls _ _ _ _ (NewB2 w (putB 2 1 ++ (balBytes (((br : Nat) : Int), bn) ++ (putB (((S : Nat) : Int)).toNat 4 ++ cmB (cmT cm L.rs L.ws)))))
    rw [eS]
    clear eS
    rw [put_one 2]
    go_enter Tryz.func11, Tryz.ntmps11
    go_upto_region 4 with (go_at_call 16; ((with_reducible refine (cF _ H0.out.bel).mono ?_); rintro e w1 ⟨rfl, hb1⟩; have H1 := Lib.hid (H0.out.below hb1); (clear x0 x1 x2 x3 x4 x5 x6 x7 x8 x9 x10 x11 x12 x13 x14 xR); obtain ⟨x0, x1, x2, x3, x4, x5, x6, x7, x8, x9, x10, x11, x12, x13, x14, xR⟩ := (H1.out.get 0 _ _ _ rfl).allR))
    have X2 : Hid (Boxs w (w1.alloc (.cells #[.int .u8 2] 5)) [(w.heap.size, rcV ⟨2, br, bn, ((S : Nat) : Int), cm, da, dn, dc⟩, 47)]) := H1.out.below ((Below.refl _ _).alloc (Nat.le_refl _) _)
    have L2 : Hid (BAt (w1.alloc (.cells #[.int .u8 2] 5)) (w1.alloc (.cells #[.int .u8 2] 5)).heap.size (some ⟨w1.heap.size, 0, none⟩) 1 [UInt8.ofNat 2]) := (BAt.one _ _ _ _ rfl).more (by simp)
    clear H0 H1 x0 x1 x2 x3 x4 x5 x6 x7 x8 x9 x10 x11 x12 x13 x14 xR cF hb1
    generalize w1.alloc (.cells #[.int .u8 2] 5) = v2 at *
    generalize w1.heap.size = b2 at *
    obtain ⟨x0, x1, x2, x3, x4, x5, x6, x7, x8, x9, x10, x11, x12, x13, x14, xR⟩ := (X2.out.get 0 _ _ _ rfl).allR
    go_wp2_with (first | (go_at_call 39; ((with_reducible refine (cB _ _ _ _ _ L2.out (by omega) f1).mono ?_); rintro e v3 ⟨a3, n3, c3, rfl, ho3, hb3⟩; have X3 := Lib.hid (X2.out.below hb3); have L3 := Lib.hid (BAt.of_own ho3); have hn3 := own_len ho3; have P3 := Lib.hid (PutIn.call X2.out.bel ho3 hb3); (clear x0 x1 x2 x3 x4 x5 x6 x7 x8 x9 x10 x11 x12 x13 x14 xR); obtain ⟨x0, x1, x2, x3, x4, x5, x6, x7, x8, x9, x10, x11, x12, x13, x14, xR⟩ := (X3.out.get 0 _ _ _ rfl).allR; clear ho3 hb3)) | (go_at_call 40; ((with_reducible refine (cS _ _ _ _ S _ L3.out (by have := hn3; simp only [List.length_append, putB_len, balBytes_len, List.length_cons, List.length_nil] at this; omega) hS).mono ?_); rintro e v4 ⟨a4, n4, c4, rfl, ho4, hb4⟩; have X4 := Lib.hid (X3.out.below hb4); have L4 := Lib.hid (BAt.of_own ho4); have hn4 := own_len ho4; have P4 := Lib.hid (PutIn.call X3.out.bel ho4 hb4); (clear x0 x1 x2 x3 x4 x5 x6 x7 x8 x9 x10 x11 x12 x13 x14 xR); obtain ⟨x0, x1, x2, x3, x4, x5, x6, x7, x8, x9, x10, x11, x12, x13, x14, xR⟩ := (X4.out.get 0 _ _ _ rfl).allR; clear ho4 hb4)) | (go_at_call 41; ((with_reducible refine (cC _ _ _ _ _ L4.out (by have := hn4; simp only [List.length_append, putB_len, balBytes_len, List.length_cons, List.length_nil] at this; omega) X4.out.bel f3).mono ?_); rintro e v5 ⟨a5, n5, c5, rfl, ho5, hb5⟩; have X5 := Lib.hid (X4.out.below hb5); have L5 := Lib.hid (BAt.of_own ho5); have hn5 := own_len ho5; have P5 := Lib.hid (PutIn.call X4.out.bel ho5 hb5); (clear x0 x1 x2 x3 x4 x5 x6 x7 x8 x9 x10 x11 x12 x13 x14 xR); obtain ⟨x0, x1, x2, x3, x4, x5, x6, x7, x8, x9, x10, x11, x12, x13, x14, xR⟩ := (X5.out.get 0 _ _ _ rfl).allR; clear ho5 hb5)))
    go_ret2
    have E := P5.out.out2
    try simp only [List.append_assoc] at E
    exact E
  · clear hdl
    obtain ⟨k, br, bn, sl, cm, da, dn, dc⟩ := x
    simp only at hk
    subst hk
    dsimp only at cB cC cF f1 f2 f3 f4
    clear HD
    obtain ⟨g1, g2⟩ := f2
    obtain ⟨S, rfl⟩ : ∃ S : Nat, sl = ((S : Nat) : Int) := ⟨sl.toNat, by omega⟩
    have hS : S ≤ 1000000 := by omega
    have eS : (((S : Nat) : Int)).toNat = S := Int.toNat_natCast S
    clear g1 g2
    show Calls _ _ _ _ (NewB2 w (putB 3 1 ++ (putB (((S : Nat) : Int)).toNat 4 ++ cmB (cmT cm L.rs L.ws))))
    rw [eS]
    clear eS
    rw [put_one 3]
    go_enter Tryz.func11, Tryz.ntmps11
    go_upto_region 4 with (go_at_call 16; ((with_reducible refine (cF _ H0.out.bel).mono ?_); rintro e w1 ⟨rfl, hb1⟩; have H1 := Lib.hid (H0.out.below hb1); (clear x0 x1 x2 x3 x4 x5 x6 x7 x8 x9 x10 x11 x12 x13 x14 xR); obtain ⟨x0, x1, x2, x3, x4, x5, x6, x7, x8, x9, x10, x11, x12, x13, x14, xR⟩ := (H1.out.get 0 _ _ _ rfl).allR))
    have X2 : Hid (Boxs w (w1.alloc (.cells #[.int .u8 3] 5)) [(w.heap.size, rcV ⟨3, br, bn, ((S : Nat) : Int), cm, da, dn, dc⟩, 47)]) := H1.out.below ((Below.refl _ _).alloc (Nat.le_refl _) _)
    have L2 : Hid (BAt (w1.alloc (.cells #[.int .u8 3] 5)) (w1.alloc (.cells #[.int .u8 3] 5)).heap.size (some ⟨w1.heap.size, 0, none⟩) 1 [UInt8.ofNat 3]) := (BAt.one _ _ _ _ rfl).more (by simp)
    clear H0 H1 x0 x1 x2 x3 x4 x5 x6 x7 x8 x9 x10 x11 x12 x13 x14 xR cF hb1
    generalize w1.alloc (.cells #[.int .u8 3] 5) = v2 at *
    generalize w1.heap.size = b2 at *
    obtain ⟨x0, x1, x2, x3, x4, x5, x6, x7, x8, x9, x10, x11, x12, x13, x14, xR⟩ := (X2.out.get 0 _ _ _ rfl).allR
    go_wp2_with (first | (go_at_call 40; ((with_reducible refine (cS _ _ _ _ S _ L2.out (by omega) hS).mono ?_); rintro e v3 ⟨a3, n3, c3, rfl, ho3, hb3⟩; have X3 := Lib.hid (X2.out.below hb3); have L3 := Lib.hid (BAt.of_own ho3); have hn3 := own_len ho3; have P3 := Lib.hid (PutIn.call X2.out.bel ho3 hb3); (clear x0 x1 x2 x3 x4 x5 x6 x7 x8 x9 x10 x11 x12 x13 x14 xR); obtain ⟨x0, x1, x2, x3, x4, x5, x6, x7, x8, x9, x10, x11, x12, x13, x14, xR⟩ := (X3.out.get 0 _ _ _ rfl).allR; clear ho3 hb3)) | (go_at_call 41; ((with_reducible refine (cC _ _ _ _ _ L3.out (by have := hn3; simp only [List.length_append, putB_len, balBytes_len, List.length_cons, List.length_nil] at this; omega) X3.out.bel f3).mono ?_); rintro e v4 ⟨a4, n4, c4, rfl, ho4, hb4⟩; have X4 := Lib.hid (X3.out.below hb4); have L4 := Lib.hid (BAt.of_own ho4); have hn4 := own_len ho4; have P4 := Lib.hid (PutIn.call X3.out.bel ho4 hb4); (clear x0 x1 x2 x3 x4 x5 x6 x7 x8 x9 x10 x11 x12 x13 x14 xR); obtain ⟨x0, x1, x2, x3, x4, x5, x6, x7, x8, x9, x10, x11, x12, x13, x14, xR⟩ := (X4.out.get 0 _ _ _ rfl).allR; clear ho4 hb4)))
    go_ret2
    have E := P4.out.out2
    try simp only [List.append_assoc] at E
    exact E
  · have hd : x.dn ≤ 59900 := by omega
    obtain ⟨k, br, bn, sl, cm, da, dn, dc⟩ := x
    simp only at hk
    subst hk
    dsimp only at cB cC cF f1 f2 f3 f4 HD hd hdl
    obtain ⟨g1, g2⟩ := f2
    obtain ⟨S, rfl⟩ : ∃ S : Nat, sl = ((S : Nat) : Int) := ⟨sl.toNat, by omega⟩
    have hS : S ≤ 1000000 := by omega
    have eS : (((S : Nat) : Int)).toNat = S := Int.toNat_natCast S
    clear g1 g2
    show Calls _ _ _ _ (NewB2 w (putB 4 1 ++ (putB (((S : Nat) : Int)).toNat 4 ++ dataB L.dl)))
    rw [eS]
    clear eS
    have eDD : dataB L.dl = putB dn 4 ++ L.dl := by unfold dataB; rw [hdl]
    rw [eDD]
    clear eDD
    rw [put_one 4]
    go_enter Tryz.func11, Tryz.ntmps11
    go_upto_region 4 with (go_at_call 16; ((with_reducible refine (cF _ H0.out.bel).mono ?_); rintro e w1 ⟨rfl, hb1⟩; have H1 := Lib.hid (H0.out.below hb1); (clear x0 x1 x2 x3 x4 x5 x6 x7 x8 x9 x10 x11 x12 x13 x14 xR); obtain ⟨x0, x1, x2, x3, x4, x5, x6, x7, x8, x9, x10, x11, x12, x13, x14, xR⟩ := (H1.out.get 0 _ _ _ rfl).allR))
    have X2 : Hid (Boxs w (w1.alloc (.cells #[.int .u8 4] 5)) [(w.heap.size, rcV ⟨4, br, bn, ((S : Nat) : Int), cm, da, dn, dc⟩, 47)]) := H1.out.below ((Below.refl _ _).alloc (Nat.le_refl _) _)
    have L2 : Hid (BAt (w1.alloc (.cells #[.int .u8 4] 5)) (w1.alloc (.cells #[.int .u8 4] 5)).heap.size (some ⟨w1.heap.size, 0, none⟩) 1 [UInt8.ofNat 4]) := (BAt.one _ _ _ _ rfl).more (by simp)
    clear H0 H1 x0 x1 x2 x3 x4 x5 x6 x7 x8 x9 x10 x11 x12 x13 x14 xR cF hb1
    generalize w1.alloc (.cells #[.int .u8 4] 5) = v2 at *
    generalize w1.heap.size = b2 at *
    obtain ⟨x0, x1, x2, x3, x4, x5, x6, x7, x8, x9, x10, x11, x12, x13, x14, xR⟩ := (X2.out.get 0 _ _ _ rfl).allR
    go_upto_region 12 with (first | (go_at_call 40; ((with_reducible refine (cS _ _ _ _ S _ L2.out (by omega) hS).mono ?_); rintro e v3 ⟨a3, n3, c3, rfl, ho3, hb3⟩; have X3 := Lib.hid (X2.out.below hb3); have L3 := Lib.hid (BAt.of_own ho3); have hn3 := own_len ho3; have P3 := Lib.hid (PutIn.call X2.out.bel ho3 hb3); (clear x0 x1 x2 x3 x4 x5 x6 x7 x8 x9 x10 x11 x12 x13 x14 xR); obtain ⟨x0, x1, x2, x3, x4, x5, x6, x7, x8, x9, x10, x11, x12, x13, x14, xR⟩ := (X3.out.get 0 _ _ _ rfl).allR; clear ho3 hb3)) | (go_at_call 40; ((with_reducible refine (cS _ _ _ _ dn _ L3.out (by have := hn3; simp only [List.length_append, putB_len, balBytes_len, List.length_cons, List.length_nil] at this; omega) (by omega)).mono ?_); rintro e v4 ⟨a4, n4, c4, rfl, ho4, hb4⟩; have X4 := Lib.hid (X3.out.below hb4); have L4 := Lib.hid (BAt.of_own ho4); have hn4 := own_len ho4; have P4 := Lib.hid (PutIn.call X3.out.bel ho4 hb4); (clear x0 x1 x2 x3 x4 x5 x6 x7 x8 x9 x10 x11 x12 x13 x14 xR); obtain ⟨x0, x1, x2, x3, x4, x5, x6, x7, x8, x9, x10, x11, x12, x13, x14, xR⟩ := (X4.out.get 0 _ _ _ rfl).allR; clear ho4 hb4)))
    have hm4 : n4 ≤ 1000000 := (by have := hn4; simp only [List.length_append, putB_len, balBytes_len, List.length_cons, List.length_nil] at this; omega)
    go_wp2_with (at_builtin; (refine wpList_append_bytes _ rfl _ _ 34 rfl w.heap.size 5 i0 Tryz.underlying34 hi hz0 hz1 hz2 _ n4 _ rfl P4.out.own w.heap.size da dn L.dl dc rfl (HD.out _ X4.out.bel) (by omega) X4.out.bel.size ?_; intro v9 w9 ho9 hg9; have P9 := Lib.hid (P4.out.next0 ho9 hg9); clear ho9 hg9))
    obtain ⟨a9, c9, rfl⟩ := P9.out.form
    go_ret2
    have E := P9.out.out2
    try simp only [List.append_assoc] at E
    exact E
end Go.Proofs.YtcfmifongbapkaaGreatDoor
