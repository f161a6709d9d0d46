
/- The walk of the statement WalForms. Conditions: the records and the bytes lie in memory; the tables of utf8 lie there. What came in, opened: a struct by value, whatever its fields; a list of elements of k cells, also as a field. No condition. What came in, opened: a struct of one-cell fields, by value. No condition. What came in, opened: a value by value. No condition. What came in, opened: a transaction by value. No condition. -/
import Derived.Test.YtcfmifongbapkaaGreatDoorQZQ
import Derived.Test.YtcfmifongbapkaaGreatDoorQZU
import Derived.Test.YtcfmifongbapkaaGreatDoorQR
import Derived.Deep.Fields
import Derived.Deep.Slices
import Derived.Test.YtcfmifongbapkaaGreatDoorQD
import Derived.Test.YtcfmifongbapkaaGreatDoorQG
/- WalFormsWalk -/
namespace Go.Proofs.YtcfmifongbapkaaGreatDoor

open Go.RowKit

set_option linter.unusedVariables false
set_option linter.unusedSimpArgs false

theorem two_raw {W : World} {x y : RcM} {Lx Ly : RcL} (h : RcAt W x Lx) (h' : RcAt W y Ly) : RcsRaw (W.alloc (.cells #[.int .i64 x.k, .int .u32 ((x.br : Nat) : Int), .int .i64 x.bn, .int .i64 x.sl, .int .i64 x.cm.k, .int .i64 x.cm.s, .int .i64 x.cm.q, .slice x.cm.a x.cm.n x.cm.c, .slice x.cm.b x.cm.m x.cm.d, .int .i64 x.cm.i, .int .i64 x.cm.j, .int .i64 x.cm.g, .int .u64 ((x.cm.st : Nat) : Int), .bool x.cm.y, .slice x.da x.dn x.dc, .int .i64 y.k, .int .u32 ((y.br : Nat) : Int), .int .i64 y.bn, .int .i64 y.sl, .int .i64 y.cm.k, .int .i64 y.cm.s, .int .i64 y.cm.q, .slice y.cm.a y.cm.n y.cm.c, .slice y.cm.b y.cm.m y.cm.d, .int .i64 y.cm.i, .int .i64 y.cm.j, .int .i64 y.cm.g, .int .u64 ((y.cm.st : Nat) : Int), .bool y.cm.y, .slice y.da y.dn y.dc] 36)) (some ⟨W.heap.size, 0, none⟩) 2 [(x, Lx), (y, Ly)] := by
  have hb : Below W.heap.size W (W.alloc (.cells #[.int .i64 x.k, .int .u32 ((x.br : Nat) : Int), .int .i64 x.bn, .int .i64 x.sl, .int .i64 x.cm.k, .int .i64 x.cm.s, .int .i64 x.cm.q, .slice x.cm.a x.cm.n x.cm.c, .slice x.cm.b x.cm.m x.cm.d, .int .i64 x.cm.i, .int .i64 x.cm.j, .int .i64 x.cm.g, .int .u64 ((x.cm.st : Nat) : Int), .bool x.cm.y, .slice x.da x.dn x.dc, .int .i64 y.k, .int .u32 ((y.br : Nat) : Int), .int .i64 y.bn, .int .i64 y.sl, .int .i64 y.cm.k, .int .i64 y.cm.s, .int .i64 y.cm.q, .slice y.cm.a y.cm.n y.cm.c, .slice y.cm.b y.cm.m y.cm.d, .int .i64 y.cm.i, .int .i64 y.cm.j, .int .i64 y.cm.g, .int .u64 ((y.cm.st : Nat) : Int), .bool y.cm.y, .slice y.da y.dn y.dc] 36)) := (Below.refl _ _).alloc (Nat.le_refl _) _
  refine ⟨rfl, ?_, fun z hz => ?_⟩
  · obtain ⟨_, h1⟩ := RowAt.one W #[.int .i64 x.k, .int .u32 ((x.br : Nat) : Int), .int .i64 x.bn, .int .i64 x.sl, .int .i64 x.cm.k, .int .i64 x.cm.s, .int .i64 x.cm.q, .slice x.cm.a x.cm.n x.cm.c, .slice x.cm.b x.cm.m x.cm.d, .int .i64 x.cm.i, .int .i64 x.cm.j, .int .i64 x.cm.g, .int .u64 ((x.cm.st : Nat) : Int), .bool x.cm.y, .slice x.da x.dn x.dc, .int .i64 y.k, .int .u32 ((y.br : Nat) : Int), .int .i64 y.bn, .int .i64 y.sl, .int .i64 y.cm.k, .int .i64 y.cm.s, .int .i64 y.cm.q, .slice y.cm.a y.cm.n y.cm.c, .slice y.cm.b y.cm.m y.cm.d, .int .i64 y.cm.i, .int .i64 y.cm.j, .int .i64 y.cm.g, .int .u64 ((y.cm.st : Nat) : Int), .bool y.cm.y, .slice y.da y.dn y.dc] 36
    refine ⟨rfl, .inr ?_⟩
    rcases h1 with h0 | ⟨b, off, e, hlt, hc⟩
    · cases h0
    · exact ⟨b, off, e, by simpa using hlt, hc⟩
  · rcases List.mem_cons.1 hz with rfl | hz
    · exact h.later hb
    · rw [List.mem_singleton.1 hz]; exact h'.later hb
set_option maxRecDepth 100000 in
set_option maxHeartbeats 8000000 in
theorem forms_walk (x : RcM) (Lx : RcL) (y : RcM) (Ly : RcL) (a : Option Addr) (k kc : Nat) (l : List UInt8) (w : World) (hX : RcAt w x Lx) (hY : RcAt w y Ly) (hl : BAt w w.heap.size a k l) (hkc : k ≤ kc) (hkm : kc ≤ maxLen) (hU : Tabs w) :
    Calls Tryz.prog 3 #[.agg (rcV x), .agg (rcV y), .slice a k kc] w (Says w true) := by
  have H0 := Lib.hid (((Boxs.start w).more (rcV x) 36).more (rcV y) 36)
  have hs : (w.alloc (.cells (rcV x) 36)).heap.size = w.heap.size + 1 := by simp
  rw [hs] at H0
  clear hs
  have TU : Hid (∀ W, Below w.heap.size w W → Tabs W) := fun W hW => hU.below hW
  have cA := fun W (hW : Below w.heap.size w W) => awake13_any W (TU.out W hW)
  have cF := fun W (hW : Below w.heap.size w W) => few_any (some ⟨W.heap.size, 0, none⟩) 2 2 [(x, Lx), (y, Ly)] 2 (W.alloc (.cells #[.int .i64 x.k, .int .u32 ((x.br : Nat) : Int), .int .i64 x.bn, .int .i64 x.sl, .int .i64 x.cm.k, .int .i64 x.cm.s, .int .i64 x.cm.q, .slice x.cm.a x.cm.n x.cm.c, .slice x.cm.b x.cm.m x.cm.d, .int .i64 x.cm.i, .int .i64 x.cm.j, .int .i64 x.cm.g, .int .u64 ((x.cm.st : Nat) : Int), .bool x.cm.y, .slice x.da x.dn x.dc, .int .i64 y.k, .int .u32 ((y.br : Nat) : Int), .int .i64 y.bn, .int .i64 y.sl, .int .i64 y.cm.k, .int .i64 y.cm.s, .int .i64 y.cm.q, .slice y.cm.a y.cm.n y.cm.c, .slice y.cm.b y.cm.m y.cm.d, .int .i64 y.cm.i, .int .i64 y.cm.j, .int .i64 y.cm.g, .int .u64 ((y.cm.st : Nat) : Int), .bool y.cm.y, .slice y.da y.dn y.dc] 36)) (two_raw (hX.later hW) (hY.later hW)) (Nat.le_refl _) (by unfold maxLen; omega)
  have xK := (H0.out.get 1 _ _ _ rfl).ldK (x := x)
  have yK := (H0.out.get 0 _ _ _ rfl).ldK (x := y)
  clear hU
  cases f1 : fewL [(x, Lx), (y, Ly)] 2
  · rw [f1] at cF
    go_enter Tryz.func3, Tryz.ntmps3
    go_wp2_with (first | (go_at_call 8; ((with_reducible refine (cA _ H0.out.bel).mono ?_); rintro e w1 ⟨rfl, hb1⟩; have H1 := Lib.hid (H0.out.below hb1); clear xK yK; have xK := (H1.out.get 1 _ _ _ rfl).ldK (x := x); have yK := (H1.out.get 0 _ _ _ rfl).ldK (x := y); clear hb1)) | (go_at_call 9; ((with_reducible refine (cF _ H1.out.bel).mono ?_); rintro e w2 ⟨rfl, hb2⟩; have H2 := Lib.hid ((H1.out.below ((Below.refl _ _).alloc (Nat.le_refl _) _)).below hb2); clear xK yK; have xK := (H2.out.get 1 _ _ _ rfl).ldK (x := x); have yK := (H2.out.get 0 _ _ _ rfl).ldK (x := y); clear hb2)) | (go_at_call 8; ((with_reducible refine (cA _ H2.out.bel).mono ?_); rintro e w3 ⟨rfl, hb3⟩; have H3 := Lib.hid (H2.out.below hb3); clear hb3)))
    go_ret
    exact ⟨rfl, H3.out.bel⟩
  rw [f1] at cF
  by_cases hk : k ≤ 70000
  rotate_left
  · have ik : (70000 : Int) < ((k : Nat) : Int) := by omega
    go_enter Tryz.func3, Tryz.ntmps3
    go_wp2_with (first | (go_at_call 8; ((with_reducible refine (cA _ H0.out.bel).mono ?_); rintro e w1 ⟨rfl, hb1⟩; have H1 := Lib.hid (H0.out.below hb1); clear xK yK; have xK := (H1.out.get 1 _ _ _ rfl).ldK (x := x); have yK := (H1.out.get 0 _ _ _ rfl).ldK (x := y); clear hb1)) | (go_at_call 9; ((with_reducible refine (cF _ H1.out.bel).mono ?_); rintro e w2 ⟨rfl, hb2⟩; have H2 := Lib.hid ((H1.out.below ((Below.refl _ _).alloc (Nat.le_refl _) _)).below hb2); clear xK yK; have xK := (H2.out.get 1 _ _ _ rfl).ldK (x := x); have yK := (H2.out.get 0 _ _ _ rfl).ldK (x := y); clear hb2)) | (go_at_call 8; ((with_reducible refine (cA _ H2.out.bel).mono ?_); rintro e w3 ⟨rfl, hb3⟩; have H3 := Lib.hid (H2.out.below hb3); clear hb3)))
    go_ret
    exact ⟨rfl, H3.out.bel⟩
  have ik : ¬ (70000 : Int) < ((k : Nat) : Int) := by omega
  obtain ⟨hXF, hYF⟩ : RcF x ∧ RcF y := by
    have h := (fewL_all (two_raw hX hY) (by omega) f1).1
    exact ⟨(h.all _ (List.mem_cons_self ..)).2, (h.all _ (List.mem_cons_of_mem _ (List.mem_singleton.2 rfl))).2⟩
  have cWr := fun W (hW : Below w.heap.size w W) => wWrite_any x Lx W (hX.later hW) hXF (TU.out W hW)
  have rWr := fun W (hW : Below w.heap.size w W) => rWrite_any x Lx W (hX.later hW) hXF
  have cRd := fun W (hW : Below w.heap.size w W) => wRead_u a k kc l W ((hl.below hW (Nat.le_refl _)).more hW.size) (by omega) (TU.out W hW)
  have rRd := fun W (hW : Below w.heap.size w W) => rRead_u a k kc l W ((hl.below hW (Nat.le_refl _)).more hW.size) hkc hkm (by omega)
  have cFo := fun W (hW : Below w.heap.size w W) => wFormed_any x Lx W (hX.later hW) hXF (TU.out W hW)
  have rFo := fun W (hW : Below w.heap.size w W) => rFormed13_any x Lx W (hX.later hW) hXF
  have cSm := fun W (hW : Below w.heap.size w W) => wSame_any x y Lx Ly W (hX.later hW) (hY.later hW) hXF hYF
  have rSm := fun W (hW : Below w.heap.size w W) => rSameR_any x y Lx Ly W (hX.later hW) (hY.later hW) hXF hYF
  have cSx : ∀ W, Below w.heap.size w W → Calls Tryz.prog 17 #[.agg (rcV x), .agg (rcV x)] W (Says W true) := fun W hW => by
    have h := wSame_any x x Lx Lx W (hX.later hW) (hX.later hW) hXF hXF
    rw [(sameR_iff _ _ _ _).2 rfl] at h; exact h
  have cP1 := fun W => plain_any x W
  have cP2 := fun W => plain_any y W
  clear hX hY hl f1 hXF hYF
  generalize formR (rcT x Lx) = F at *
  generalize sameR x y Lx Ly = S at *
  have HE : Hid (∀ z u Lz Lu W, RcAt W z Lz → RcF z → RcAt W u Lu → RcF u → rcT z Lz = rcT u Lu → Calls Tryz.prog 18 #[.agg (rcV z), .agg (rcV u)] W (Says W true)) := fun z u Lz Lu W h1 h2 h3 h4 he => by
    have h := rSameR_any z u Lz Lu W h1 h3 h2 h4
    rw [(sameR_iff _ _ _ _).2 he] at h; exact h
  go_enter Tryz.func3, Tryz.ntmps3
  go_upto_region 3 with (first | (go_at_call 8; ((with_reducible refine (cA _ H0.out.bel).mono ?_); rintro e w1 ⟨rfl, hb1⟩; have H1 := Lib.hid (H0.out.below hb1); clear xK yK; have xK := (H1.out.get 1 _ _ _ rfl).ldK (x := x); have yK := (H1.out.get 0 _ _ _ rfl).ldK (x := y); clear hb1)) | (go_at_call 9; ((with_reducible refine (cF _ H1.out.bel).mono ?_); rintro e w2 ⟨rfl, hb2⟩; have H2 := Lib.hid ((H1.out.below ((Below.refl _ _).alloc (Nat.le_refl _) _)).below hb2); clear xK yK; have xK := (H2.out.get 1 _ _ _ rfl).ldK (x := x); have yK := (H2.out.get 0 _ _ _ rfl).ldK (x := y); clear hb2)))
  clear H0 H1 cA cF
  go_upto_region 4 with ((go_at_call 10; ((with_reducible refine (cWr _ H2.out.bel).mono ?_); rintro e w3 ⟨a3, n3, c3, rfl, hl3, hn3, hb3⟩; have H3 := Lib.hid (H2.out.below hb3); have L3 := Lib.hid hl3; clear xK yK; have xK := (H3.out.get 1 _ _ _ rfl).ldK (x := x); have yK := (H3.out.get 0 _ _ _ rfl).ldK (x := y); clear hb3 hl3)))
  go_upto_region 5 with (first | (go_at_call 12; ((with_reducible refine (cP1 _).mono ?_); rintro e w4 ⟨rfl, hb4⟩; have H4 := Lib.hid (H3.out.below hb4); have B4 := Lib.hid hb4; clear hb4)) | (go_at_call 11; ((with_reducible refine (rWr _ H4.out.bel).mono ?_); rintro e w5 ⟨a5, n5, c5, rfl, hl5, hn5, hb5⟩; have H5 := Lib.hid (H4.out.below hb5); have L5 := Lib.hid hl5; have B5 := Lib.hid (B4.out.trans (hb5.mono B4.out.size)); clear hb5 hl5)))
  have cB : Hid (∀ W, Below w5.heap.size w5 W → Calls Tryz.prog 19 #[.slice a3 n3 c3, .slice a5 n5 c5] W (Reads1 W (.bool true))) := fun W hW => by
    have h := same_any a3 a5 n3 n5 c3 c5 _ _ _ _ W (L3.out.below (B5.out.trans (hW.mono B5.out.size)) (Nat.le_refl _)) (L5.out.below hW (Nat.le_refl _)) hn3 hn5
    rw [decide_eq_true rfl] at h; exact h
  clear xK yK H2 H3 H4 B4 B5 L3 L5 cWr rWr hn3 hn5
  generalize wrE (rcT x Lx) = E at *
  go_upto_region 6 with (first | (go_at_call 13; ((with_reducible refine (cRd _ H5.out.bel).mono ?_); rintro e w6 ⟨z, Lz, rfl, hb6, hz, hzF, hze⟩; have H6 := Lib.hid (H5.out.below hb6); have Z6 := Lib.hid hz; have ZF := Lib.hid hzF; have ZE := Lib.hid hze; have HM := Lib.hid (made_k w6 z); have B6 := Lib.hid hb6; clear hb6 hz hzF hze)) | (refine wpList_store_k rfl _ _ rfl w6.heap.size z rfl rfl zeroR HM.out.1 ?_))
  have H7 := Lib.hid (H6.out.below HM.out.2.1)
  have B7 := Lib.hid (B6.out.trans (HM.out.2.1.mono B6.out.size))
  have Z7 := Lib.hid (Z6.out.later HM.out.2.1)
  have X7 := Lib.hid HM.out.2.2
  clear H5 H6 HM B6 Z6 cRd
  generalize (w6.alloc (.cells zeroRV 36)).setRow w6.heap.size (rcV z) = V7 at *
  generalize w6.heap.size = gz at *
  go_upto_region 7 with (first | (go_at_call 14; ((with_reducible refine (rRd _ H7.out.bel).mono ?_); rintro e w8 ⟨u, Lu, rfl, hb8, hu, huF, hue⟩; have H8 := Lib.hid (H7.out.below hb8); have U8 := Lib.hid hu; have UF := Lib.hid huF; have UE := Lib.hid hue; have HM := Lib.hid (made_r w8 u); have B8 := Lib.hid hb8; clear hb8 hu huF hue)) | (refine wpList_store_r rfl _ _ rfl w8.heap.size u rfl rfl zeroR HM.out.1 ?_))
  have H9 := Lib.hid (H8.out.below HM.out.2.1)
  have B89 := Lib.hid (B8.out.trans (HM.out.2.1.mono B8.out.size))
  have B9 := Lib.hid (B7.out.trans (B89.out.mono B7.out.size))
  have Z9 := Lib.hid (Z7.out.later B89.out)
  have X9 := Lib.hid (X7.out.below B89.out)
  have U9 := Lib.hid (U8.out.later HM.out.2.1)
  have Y9 := Lib.hid HM.out.2.2
  clear H7 H8 HM B8 B89 B7 Z7 X7 U8 rRd
  generalize (w8.alloc (.cells zeroRV 47)).setRow w8.heap.size (rcV u) = V9 at *
  generalize w8.heap.size = gu at *
  have LD : Hid (∀ W, Below V9.heap.size V9 W → (Go.Proofs.YtcfmifongbapkaaGreatDoor.ldK (.pointer (some ⟨w.heap.size, 0, none⟩))).run Tryz.prog W = .ok (.agg (rcV x)) W ∧ (Go.Proofs.YtcfmifongbapkaaGreatDoor.ldK (.pointer (some ⟨w.heap.size + 1, 0, none⟩))).run Tryz.prog W = .ok (.agg (rcV y)) W) := fun W hW => ⟨((H9.out.below hW).get 1 _ _ _ rfl).ldK (x := x), ((H9.out.below hW).get 0 _ _ _ rfl).ldK (x := y)⟩
  have LD2 : Hid (∀ W, Below V9.heap.size V9 W → (Go.Proofs.YtcfmifongbapkaaGreatDoor.ldK (.pointer (some ⟨gz, 0, none⟩))).run Tryz.prog W = .ok (.agg (rcV z)) W ∧ (Go.Proofs.YtcfmifongbapkaaGreatDoor.ldR (.pointer (some ⟨gu, 0, none⟩))).run Tryz.prog W = .ok (.agg (rcV u)) W) := fun W hW => ⟨(X9.out.below hW).ldK (x := z), (Y9.out.below hW).ldR (x := u)⟩
  have BW : Hid (∀ W, Below V9.heap.size V9 W → Below w.heap.size w W) := fun W hW => H9.out.bel.trans (hW.mono H9.out.bel.size)
  have cB9 : Hid (∀ W, Below V9.heap.size V9 W → Calls Tryz.prog 19 #[.slice a3 n3 c3, .slice a5 n5 c5] W (Reads1 W (.bool true))) := fun W hW => cB.out W (B9.out.trans (hW.mono B9.out.size))
  have cE9 : Hid (∀ W, Below V9.heap.size V9 W → Calls Tryz.prog 18 #[.agg (rcV z), .agg (rcV u)] W (Says W true)) := fun W hW => HE.out z u Lz Lu W (Z9.out.later hW) ZF.out (U9.out.later hW) UF.out (ZE.out.trans UE.out.symm)
  clear cB HE H9 B9 Z9 X9 U9 Y9 ZF ZE UF UE
  generalize rdE l = D at *
  have X0 : Hid (Below V9.heap.size V9 V9.drew) := below_drewN 1 (Below.refl _ _)
  have s0 := LD.out _ X0.out
  go_region_held3 (fun W => ((Go.Proofs.YtcfmifongbapkaaGreatDoor.ldK (.pointer (some ⟨w.heap.size, 0, none⟩))).run Tryz.prog W = .ok (.agg (rcV x)) W ∧ (Go.Proofs.YtcfmifongbapkaaGreatDoor.ldK (.pointer (some ⟨w.heap.size + 1, 0, none⟩))).run Tryz.prog W = .ok (.agg (rcV y)) W)) (first | (with_reducible exact s0) | (with_reducible exact s1) | (with_reducible exact s2) | (with_reducible exact s3) | (with_reducible exact s4) | (with_reducible exact s5) | (with_reducible exact s6) | (with_reducible exact s7) | (with_reducible exact s8))
    (first | (go_at_call 17; ((with_reducible refine (cSx _ (BW.out _ X7.out)).mono ?_); rintro e y8 ⟨rfl, hb8⟩; have X8 := Lib.hid (X7.out.trans (hb8.mono X7.out.size)); have s8 := LD.out _ X8.out; clear hb8)) | (go_at_call 18; ((with_reducible refine (rSm _ (BW.out _ X6.out)).mono ?_); rintro e y7 ⟨rfl, hb7⟩; have X7 := Lib.hid (X6.out.trans (hb7.mono X6.out.size)); have s7 := LD.out _ X7.out; clear hb7)) | (go_at_call 12; ((with_reducible refine (cP2 _).mono ?_); rintro e y6 ⟨rfl, hb6⟩; have X6 := Lib.hid (X5.out.trans (hb6.mono X5.out.size)); have s6 := LD.out _ X6.out; clear hb6)) | (go_at_call 12; ((with_reducible refine (cP1 _).mono ?_); rintro e y5 ⟨rfl, hb5⟩; have X5 := Lib.hid (X4.out.trans (hb5.mono X4.out.size)); have s5 := LD.out _ X5.out; clear hb5)) | (go_at_call 17; ((with_reducible refine (cSm _ (BW.out _ X3.out)).mono ?_); rintro e y4 ⟨rfl, hb4⟩; have X4 := Lib.hid (X3.out.trans (hb4.mono X3.out.size)); have s4 := LD.out _ X4.out; clear hb4)) | (go_at_call 16; ((with_reducible refine (rFo _ (BW.out _ X2.out)).mono ?_); rintro e y3 ⟨rfl, hb3⟩; have X3 := Lib.hid (X2.out.trans (hb3.mono X2.out.size)); have s3 := LD.out _ X3.out; clear hb3)) | (go_at_call 12; ((with_reducible refine (cP1 _).mono ?_); rintro e y2 ⟨rfl, hb2⟩; have X2 := Lib.hid (X1.out.trans (hb2.mono X1.out.size)); have s2 := LD.out _ X2.out; clear hb2)) | (go_at_call 15; ((with_reducible refine (cFo _ (BW.out _ X0.out)).mono ?_); rintro e y1 ⟨rfl, hb1⟩; have X1 := Lib.hid (X0.out.trans (hb1.mono X0.out.size)); have s1 := LD.out _ X1.out; clear hb1)))
  clear s0 s1 s2 s3 s4 s5 s6 s7 s8 cFo rFo cSm rSm cSx LD
  go_upto_region 9 with (fail)
  have cP3 := fun W => plain_any z W
  have Y0 : Hid (Below V9.heap.size V9 y8.drew) := below_drewN 1 X8.out
  have t0 := LD2.out _ Y0.out
  go_region_held3 (fun W => ((Go.Proofs.YtcfmifongbapkaaGreatDoor.ldK (.pointer (some ⟨gz, 0, none⟩))).run Tryz.prog W = .ok (.agg (rcV z)) W ∧ (Go.Proofs.YtcfmifongbapkaaGreatDoor.ldR (.pointer (some ⟨gu, 0, none⟩))).run Tryz.prog W = .ok (.agg (rcV u)) W)) (first | (with_reducible exact t0) | (with_reducible exact t1) | (with_reducible exact t2) | (with_reducible exact t3))
    (first | (go_at_call 19; ((with_reducible refine (cB9.out _ Y0.out).mono ?_); rintro e z1 ⟨rfl, q1, rfl⟩; have Y1 : Hid (Below V9.heap.size V9 (y8.drewN (1 + q1))) := below_drewN (1 + q1) X8.out; have t1 := LD2.out _ Y1.out)) | (go_at_call 12; ((with_reducible refine (cP3 _).mono ?_); rintro e z2 ⟨rfl, hb2⟩; have Y2 := Lib.hid (Y1.out.trans (hb2.mono Y1.out.size)); have t2 := LD2.out _ Y2.out; clear hb2)) | (go_at_call 18; ((with_reducible refine (cE9.out _ Y2.out).mono ?_); rintro e z3 ⟨rfl, hb3⟩; have Y3 := Lib.hid (Y2.out.trans (hb3.mono Y2.out.size)); have t3 := LD2.out _ Y3.out; clear hb3)))
  go_wp2
  go_ret
  exact ⟨rfl, BW.out _ Y3.out⟩
end Go.Proofs.YtcfmifongbapkaaGreatDoor

/- OpenDeep -/
namespace Go.Proofs.YtcfmifongbapkaaGreatDoor

open Go.ChangeShapes Go.WideShapes Go.ChangeAt Go.RowKit

section

variable {H : Type} {enc : TypeId × Value → H} {P : Program} {w : World} {base : Nat} {spare : Nat → Bool} {held : Bool}

/-- A struct by value: its cells, trodden as one. -/
theorem open_agg {r : Reach} {b0 : Nat} {t : TypeId} {fs : Array Field} {v : Value} {d : DataW H} {p : List MemPlace} (ht : P.underlying t = some (.struct fs))
    (hv : Value.okWide P w r b0 t v) (h : DataW.Trod enc P w base spare held t v d p) :
    ∃ cs : List Value, v = .agg ⟨cs⟩ ∧ cs.length = P.cellsOf t ∧ ∃ fuel y, DataW.trod enc P w base spare held fuel t cs = some y := by
  simp only [Value.okWide, ht] at hv
  obtain ⟨cs, rfl, hsz, _⟩ := hv
  obtain ⟨fuel, hf⟩ := h
  obtain ⟨l⟩ := cs
  exact ⟨l, rfl, hsz, fuel, _, hf⟩
/-- A struct's field: its cells. -/
theorem trod_field {t : TypeId} {fs : Array Field} {fuel : Nat} {cs : List Value} {x : DataW H × List MemPlace} (ht : P.underlying t = some (.struct fs)) (h : DataW.trod enc P w base spare held fuel t cs = some x) :
    ∀ (j : Nat) (f : Field), fs[j]? = some f → ∃ (n : Nat) (y : DataW H × List MemPlace), DataW.trod enc P w base spare held n f.type ((cs.drop f.offset).take (P.cellsOf f.type)) = some y := by
  obtain ⟨ys, n, _, _, _, hyl, hg⟩ := DataW.trod_struct ht h
  intro j f hj
  have hjl : j < ys.length := by rw [hyl]; exact (Array.getElem?_eq_some_iff.1 hj).1
  exact ⟨n, ys[j], (hg j f hj).trans (List.getElem?_eq_getElem hjl)⟩
/-- A list of elements of k cells each. -/
theorem trod_rowk {α : Type} (f : α → List Value) (Q : α → Prop) (k : Nat) (hk : 0 < k) (hf : ∀ x, (f x).length = k) {t e : TypeId} {fuel : Nat} {u : Value} {x : DataW H × List MemPlace} (ht : P.underlying t = some (.slice e)) (hc : P.cellsOf e = k) (h : DataW.trod enc P w base spare held fuel t [u] = some x)
    (hE : ∀ (n : Nat) (cs : List Value) (y : DataW H × List MemPlace), cs.length = k → DataW.trod enc P w base spare held n e cs = some y → ∃ z : α, cs = f z ∧ Q z) :
    ∃ a n c, u = .slice a n c ∧ n ≤ c ∧ c ≤ maxLen ∧ ∃ l : List α, l.length = n ∧ RowAt w w.heap.size a n k (l.flatMap f) ∧ ∀ z ∈ l, Q z := by
  rcases Deep.open_slice ht h with ⟨h0, _⟩ | ⟨ad, len, cap, m, n', D, Pl, h0, hb, hl, hm, hmm, _, hi⟩
  · injection h0 with h0
    exact ⟨_, _, _, h0, Nat.le_refl _, by unfold maxLen; omega, [], rfl, RowAt.nil, fun z hz => by cases hz⟩
  · injection h0 with h0
    have hnm : len ≤ m := by rw [hmm]; split <;> omega
    have key : ∀ i, ∃ z : Option α, i < len → ∃ z', z = some z' ∧ (∀ j, j < k → w.cell? ((ad.add (i * k)).add j) = (f z')[j]?) ∧ Q z' := by
      intro i
      by_cases hil : i < len
      · obtain ⟨cs', h1, h2⟩ := hi i (by omega)
        rw [hc] at h1
        obtain ⟨_, hcl, hat⟩ := World.cells?_some h1
        obtain ⟨z, hz, hq⟩ := hE _ _ _ hcl h2
        exact ⟨some z, fun _ => ⟨z, rfl, fun j hj => by rw [hat j hj, hz], hq⟩⟩
      · exact ⟨none, fun h => absurd h hil⟩
    obtain ⟨Z, hZ⟩ := Classical.axiomOfChoice key
    by_cases h00 : len = 0
    · subst h00
      exact ⟨_, _, _, h0, hl, hm, [], rfl, RowAt.nil, fun z hz => by cases hz⟩
    · obtain ⟨b, off, spot⟩ := ad
      obtain ⟨z0, _, hc0, _⟩ := hZ 0 (by omega)
      have hc00 := hc0 0 hk
      rw [List.getElem?_eq_getElem (by rw [hf]; exact hk)] at hc00
      have hspot : spot = none := by simpa [Addr.add] using World.cell?_spot hc00
      subst hspot
      have hbl : b < w.heap.size := by simpa [Addr.add] using block_lt hc00
      have hlen : ((List.range len).filterMap Z).length = len ∧ ∀ i, i < len → ∃ z, ((List.range len).filterMap Z)[i]? = some z ∧ Z i = some z := by
        have : ∀ q, q ≤ len → ((List.range q).filterMap Z).length = q ∧ ∀ i, i < q → ∃ z, ((List.range q).filterMap Z)[i]? = some z ∧ Z i = some z := by
          intro q
          induction q with
          | zero => intro _; exact ⟨rfl, fun i hi => by omega⟩
          | succ q ih =>
            intro hq
            obtain ⟨h1, h2⟩ := ih (by omega)
            obtain ⟨z, hz, _⟩ := hZ q (by omega)
            have e : (List.range (q + 1)).filterMap Z = (List.range q).filterMap Z ++ [z] := by rw [List.range_succ, List.filterMap_append]; simp [hz]
            refine ⟨by rw [e]; simp [h1], fun i hi => ?_⟩
            rw [e]
            by_cases hik : i < q
            · obtain ⟨z', hz', hz''⟩ := h2 i hik
              exact ⟨z', by rw [List.getElem?_append_left (by omega)]; exact hz', hz''⟩
            · obtain rfl : i = q := by omega
              exact ⟨z, by rw [List.getElem?_append_right (by omega)]; simp [h1], hz⟩
        exact this len (Nat.le_refl _)
      refine ⟨_, _, _, h0, hl, hm, (List.range len).filterMap Z, hlen.1, ⟨by rw [flat_len f k hf, hlen.1], .inr ⟨b, off, rfl, hbl, fun j u hu => ?_⟩⟩, fun z hz => ?_⟩
      · have hj : j < len * k := by
          rcases Nat.lt_or_ge j (len * k) with h | h
          · exact h
          · rw [List.getElem?_eq_none (by rw [flat_len f k hf, hlen.1]; exact h)] at hu; cases hu
        have hq : j / k < len := Nat.div_lt_of_lt_mul (by rw [Nat.mul_comm]; exact hj)
        have hr : j % k < k := Nat.mod_lt _ hk
        have ej : j / k * k + j % k = j := by rw [Nat.mul_comm]; exact Nat.div_add_mod j k
        obtain ⟨z, h1, h2⟩ := hlen.2 (j / k) hq
        obtain ⟨z', h3, h4, _⟩ := hZ (j / k) hq
        rw [h2] at h3; injection h3 with h3; subst h3
        have e := flat_get f k hf ((List.range len).filterMap Z) (j / k) (j % k) (by rw [hlen.1]; exact hq) hr
        have ez : ((List.range len).filterMap Z)[j / k]'(by rw [hlen.1]; exact hq) = z := by
          have := List.getElem?_eq_getElem (l := (List.range len).filterMap Z) (i := j / k) (by rw [hlen.1]; exact hq)
          rw [h1] at this; injection this with this; exact this.symm
        rw [ej, hu, ez] at e
        have h5 := h4 (j % k) hr
        rw [add_plain, add_plain, Nat.add_assoc, ej] at h5
        rw [h5, ← e]
      · obtain ⟨i, hi', hz'⟩ := List.mem_filterMap.1 hz
        have hi2 : i < len := by simpa using hi'
        obtain ⟨z', h3, _, h5⟩ := hZ i hi2
        rw [h3] at hz'; injection hz' with hz'; subst hz'
        exact h5
end

end Go.Proofs.YtcfmifongbapkaaGreatDoor

/- OpenStruct -/
namespace Go.Proofs.YtcfmifongbapkaaGreatDoor

open Go.ChangeShapes Go.WideShapes Go.ChangeAt Go.RowKit

section

variable {H : Type} {enc : TypeId × Value → H} {P : Program} {w : World} {base : Nat} {spare : Nat → Bool} {held : Bool}

end

end Go.Proofs.YtcfmifongbapkaaGreatDoor

/- ValueOpenOne -/
namespace Go.Proofs.YtcfmifongbapkaaGreatDoor

open Go.ChangeShapes Go.WideShapes Go.ChangeAt Go.RowKit

theorem u64_of {x : Int} (wx : (Lit.int .u64 x).wf = true) : ∃ n : Nat, x = (n : Int) ∧ n < 18446744073709551616 := by
  have bx : 0 ≤ x ∧ x < 18446744073709551616 := by simp [Lit.wf, IntKind.min, IntKind.max, IntKind.bits, IntKind.signed] at wx; omega
  obtain ⟨x, rfl⟩ := Int.eq_ofNat_of_zero_le bx.1
  exact ⟨x, rfl, by omega⟩
end Go.Proofs.YtcfmifongbapkaaGreatDoor

/- TxnOpen -/
namespace Go.Proofs.YtcfmifongbapkaaGreatDoor

open Go.ChangeShapes Go.WideShapes Go.ChangeAt Go.RowKit

section

variable {H : Type} {enc : TypeId × Value → H} {w : World} {base b0 : Nat} {r : Reach} {spare : Nat → Bool} {held : Bool}

set_option maxRecDepth 100000 in
theorem trod_read (n : Nat) (cs : List Value) (y : DataW H × List MemPlace) (hl : cs.length = 2) (h : DataW.trod enc Tryz.prog w base spare held n 153 cs = some y) : ∃ z : RdM, cs = readC z ∧ RdOk z := by
  match cs, hl with
  | [c0, c1], _ =>
    have hfd := trod_field Tryz.underlying153 h
    obtain ⟨n0, y0, h0⟩ := hfd 0 _ rfl
    obtain ⟨n1, y1, h1⟩ := hfd 1 _ rfl
    have k0 : Tryz.prog.cellsOf 9 = 1 := by kernel_rfl
    have k1 : Tryz.prog.cellsOf 31 = 1 := by kernel_rfl
    replace h0 : DataW.trod enc Tryz.prog w base spare held n0 9 (([c0, c1].drop 0).take (Tryz.prog.cellsOf 9)) = some y0 := h0
    rw [k0] at h0
    replace h1 : DataW.trod enc Tryz.prog w base spare held n1 31 (([c0, c1].drop 1).take (Tryz.prog.cellsOf 31)) = some y1 := h1
    rw [k1] at h1
    obtain ⟨z, e0, _, hz⟩ := DataW.trod_string Tryz.underlying9 h0
    obtain ⟨x, e1, _, wx⟩ := DataW.trod_int Tryz.underlying31 h1
    simp at e0 e1
    subst e0; subst e1
    obtain ⟨x, rfl, hx⟩ := u64_of wx
    exact ⟨(z, x), rfl, hz, hx⟩
set_option maxRecDepth 100000 in
theorem trod_write (n : Nat) (cs : List Value) (y : DataW H × List MemPlace) (hl : cs.length = 4) (h : DataW.trod enc Tryz.prog w base spare held n 157 cs = some y) : ∃ z : WrM, cs = writeC z ∧ WrOk z := by
  match cs, hl with
  | [c0, c1, c2, c3], _ =>
    have hfd := trod_field Tryz.underlying157 h
    obtain ⟨n0, y0, h0⟩ := hfd 0 _ rfl
    obtain ⟨n1, y1, h1⟩ := hfd 1 _ rfl
    have k0 : Tryz.prog.cellsOf 9 = 1 := by kernel_rfl
    have k1 : Tryz.prog.cellsOf 155 = 3 := by kernel_rfl
    have k2 : Tryz.prog.cellsOf 31 = 1 := by kernel_rfl
    have k3 : Tryz.prog.cellsOf 3 = 1 := by kernel_rfl
    replace h0 : DataW.trod enc Tryz.prog w base spare held n0 9 (([c0, c1, c2, c3].drop 0).take (Tryz.prog.cellsOf 9)) = some y0 := h0
    rw [k0] at h0
    replace h1 : DataW.trod enc Tryz.prog w base spare held n1 155 (([c0, c1, c2, c3].drop 1).take (Tryz.prog.cellsOf 155)) = some y1 := h1
    rw [k1] at h1
    replace h1 : DataW.trod enc Tryz.prog w base spare held n1 155 [c1, c2, c3] = some y1 := h1
    have hfv := trod_field Tryz.underlying155 h1
    obtain ⟨m0, u0, g0⟩ := hfv 0 _ rfl
    obtain ⟨m1, u1, g1⟩ := hfv 1 _ rfl
    obtain ⟨m2, u2, g2⟩ := hfv 2 _ rfl
    replace g0 : DataW.trod enc Tryz.prog w base spare held m0 3 (([c1, c2, c3].drop 0).take (Tryz.prog.cellsOf 3)) = some u0 := g0
    rw [k3] at g0
    replace g1 : DataW.trod enc Tryz.prog w base spare held m1 31 (([c1, c2, c3].drop 1).take (Tryz.prog.cellsOf 31)) = some u1 := g1
    rw [k2] at g1
    replace g2 : DataW.trod enc Tryz.prog w base spare held m2 9 (([c1, c2, c3].drop 2).take (Tryz.prog.cellsOf 9)) = some u2 := g2
    rw [k0] at g2
    obtain ⟨z, e0, _, hz⟩ := DataW.trod_string Tryz.underlying9 h0
    obtain ⟨x, e1, _, _⟩ := DataW.trod_int Tryz.underlying3 g0
    obtain ⟨u, e2, _, wu⟩ := DataW.trod_int Tryz.underlying31 g1
    obtain ⟨t, e3, _, ht⟩ := DataW.trod_string Tryz.underlying9 g2
    simp at e0 e1 e2 e3
    subst e0; subst e1; subst e2; subst e3
    obtain ⟨u, rfl, hu⟩ := u64_of wu
    exact ⟨⟨z, x, u, t⟩, rfl, hz, hu, ht⟩
end

end Go.Proofs.YtcfmifongbapkaaGreatDoor
