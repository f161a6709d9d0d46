/- The walk of the statement ValueBytes, over contracts of the program's Take and Put. Conditions: what came in lies in memory and fits its kinds; utf8's tables; these contracts. -/
import Derived.Test.YtmaohddmhdhkkaaDoorValueTake

import Derived.Test.YtmaohddmhdhkkaaDoorValueTextsWalk

import Derived.Deep.RegionHeld3

namespace Go.Proofs.YtmaohddmhdhkkaaDoor

open Go.RowKit

theorem RefAt.far {w w' : World} {B g G k : Nat} {L : List UInt8} {ok : Bool} (h : RefAt w B G L k ok) (ho : Only g w w') (hg : B ≤ g) (hne : G ≠ g) : RefAt w' B G L k ok := by
  obtain ⟨a, n, c, hh, h1, h2, hl, h3, h4⟩ := h
  refine ⟨a, n, c, (ho.block G (lt_of_heap hh) (fun e => by injection e with e; exact hne e)).trans hh, h1, h2, hl.moved (Nat.le_refl _) (fun b off _ _ hb => ho.block b (by have := lt_of_heap hh; omega) (fun e => by injection e with e; omega)), h3, h4⟩
theorem RefAt.below {w w' : World} {B G k : Nat} {L : List UInt8} {ok : Bool} (h : RefAt w B G L k ok) (hb : Below w.heap.size w w') : RefAt w' B G L k ok := h.keep fun b hb' => hb.block _ (by have := h.lt; omega)
theorem RdAt.far {w w' : World} {g G : Nat} {l : List UInt8} {ok : Bool} (h : RdAt w g l ok) (ho : Only G w w') (hg : g < G) : RdAt w' g l ok := by
  obtain ⟨a, n, c, hh, h1, h2, hl, hf⟩ := h
  refine ⟨a, n, c, (ho.block g (lt_of_heap hh) (fun e => by injection e with e; omega)).trans hh, h1, h2, hl.moved (Nat.le_refl _) (fun b off _ _ hb => ho.block b (by have := lt_of_heap hh; omega) (fun e => by injection e with e; omega)), hf⟩
theorem RdAt.below {w w' : World} {g : Nat} {l : List UInt8} {ok : Bool} (h : RdAt w g l ok) (hb : Below w.heap.size w w') : RdAt w' g l ok := by
  obtain ⟨a, n, c, hh, h1, h2, hl, hf⟩ := h
  exact ⟨a, n, c, (hb.block g (lt_of_heap hh)).trans hh, h1, h2, hl.keep fun p hp => hb.cell (by have := lt_of_heap hh; omega), hf⟩

/-- The program's Take of values: what it is to do. -/
def TakesV (f : FuncId) : Prop :=
  (∀ (g : Nat) (l : List UInt8) (W : World), RdAt W g l true → tkOk l → Tabs W → Calls Tryd.prog f #[.pointer (some ⟨g, 0, none⟩)] W fun e w' => e = .returned (.agg #[.int .i64 (tkV l).k, .int .u64 ((tkV l).b : Nat), .string ⟨(tkV l).t.toArray⟩]) ∧ RdAt w' g (l.drop (tkN l)) true ∧ Only g W w') ∧
  (∀ (g : Nat) (l : List UInt8) (ok : Bool) (W : World), RdAt W g l ok → ¬ (ok = true ∧ tkOk l) → Tabs W → Calls Tryd.prog f #[.pointer (some ⟨g, 0, none⟩)] W fun e w' => e = .returned (.agg #[.int .i64 0, .int .u64 0, .string ⟨#[]⟩]) ∧ RdAt w' g [] false ∧ Only g W w')
/-- The program's Put of values: what it is to do. -/
def PutsV (f : FuncId) : Prop := ∀ (a : Option Addr) (m c : Nat) (l : List UInt8) (k : Int) (b : Nat) (t : ByteArray) (W : World), BAt W W.heap.size a m l → m ≤ 1099511600000 → b < 18446744073709551616 → t.size ≤ maxLen → Tabs W →
  Calls Tryd.prog f #[.slice a m c, .agg #[.int .i64 k, .int .u64 b, .string t]] W (NewB W (putV l ⟨k, b, t.data.toList⟩))

/-- What holds before the comparison: three values in boxes, and the two readers. -/
def BytesIn (w W : World) (G1 G2 r1 r2 : Nat) (k pk : Int) (b pb : Nat) (t pt : ByteArray) (L rest : List UInt8) (n : Nat) (ok : Bool) : Prop :=
  Any3 w W w.heap.size G1 G2 k pk pk b pb pb t pt pt ∧ RdAt W r1 rest ok ∧ RefAt W w.heap.size r2 L n ok
section

variable {w W W' : World} {G1 G2 r1 r2 n : Nat} {k pk : Int} {b pb : Nat} {t pt : ByteArray} {L rest : List UInt8} {ok : Bool}

theorem BytesIn.below (h : BytesIn w W G1 G2 r1 r2 k pk b pb t pt L rest n ok) (hb : Below W.heap.size W W') : BytesIn w W' G1 G2 r1 r2 k pk b pb t pt L rest n ok := ⟨h.1.below hb, h.2.1.below hb, h.2.2.below hb⟩
theorem BytesIn.drewN (q : Nat) (h : BytesIn w W G1 G2 r1 r2 k pk b pb t pt L rest n ok) : BytesIn w (W.drewN q) G1 G2 r1 r2 k pk b pb t pt L rest n ok := ⟨⟨h.1.1, h.1.2.1, h.1.2.2.1, below_drewN q h.1.2.2.2.1, h.1.2.2.2.2⟩, h.2.1, h.2.2⟩
theorem BytesIn.drew (h : BytesIn w W G1 G2 r1 r2 k pk b pb t pt L rest n ok) : BytesIn w W.drew G1 G2 r1 r2 k pk b pb t pt L rest n ok := h.drewN 1
theorem BytesIn.bel (h : BytesIn w W G1 G2 r1 r2 k pk b pb t pt L rest n ok) : Below w.heap.size w W := h.1.bel
theorem BytesIn.rd (h : BytesIn w W G1 G2 r1 r2 k pk b pb t pt L rest n ok) : RdAt W r1 rest ok := h.2.1
theorem BytesIn.rf (h : BytesIn w W G1 G2 r1 r2 k pk b pb t pt L rest n ok) : RefAt W w.heap.size r2 L n ok := h.2.2
theorem BytesIn.ten (h : BytesIn w W G1 G2 r1 r2 k pk b pb t pt L rest n ok) :
    W.cell? ⟨w.heap.size, 0, none⟩ = some (.int .i64 k) ∧ W.cell? ⟨w.heap.size, 1, none⟩ = some (.int .u64 (b : Nat)) ∧ W.cell? ⟨w.heap.size, 2, none⟩ = some (.string t) ∧
    W.cell? ⟨G1, 0, none⟩ = some (.int .i64 pk) ∧ W.cell? ⟨G1, 1, none⟩ = some (.int .u64 (pb : Nat)) ∧ W.cell? ⟨G1, 2, none⟩ = some (.string pt) ∧
    W.cell? ⟨G2, 0, none⟩ = some (.int .i64 pk) ∧ W.cell? ⟨G2, 1, none⟩ = some (.int .u64 (pb : Nat)) ∧ W.cell? ⟨G2, 2, none⟩ = some (.string pt) ∧ W.cell? ⟨r2, 2, none⟩ = some (.bool (!ok)) := by
  obtain ⟨h1, h2, h3, h4, h5, h6, h7, h8, h9⟩ := h.1.nine
  exact ⟨h1, h2, h3, h4, h5, h6, h7, h8, h9, h.rf.flag.1⟩
end

theorem put_max (l : List UInt8) (v : Val) (h : l.length ≤ 1000) : (putV l v).length ≤ maxLen := by
  have := bytesV_len v
  unfold putV maxLen
  split
  · rw [List.length_append]; omega
  · omega


set_option maxHeartbeats 2000000 in
theorem bytes_yes (a : Option Addr) (m c : Nat) (l : List UInt8) (k : Int) (b : Nat) (t : ByteArray) (w : World) (hl : BAt w w.heap.size a m l) (hmc : m ≤ c) (hcm : c ≤ maxLen) (hb : b < 18446744073709551616) (ht : t.size ≤ maxLen) (hT : Tabs w) (hTk : TakesV 17) (hPt : PutsV 20) (h1 : t.size ≤ 1000) (h2 : m ≤ 1000) (hk : tkOk l) :
    Calls Tryd.prog 4 #[.agg #[.int .i64 k, .int .u64 b, .string t], .slice a m c] w fun e w' => e = .returned (.bool true) ∧ Below w.heap.size w w' := by
  have HTW : Hid (∀ W, Below w.heap.size w W → Tabs W) := fun W hB => hT.below hB
  have HP : Hid (∀ W : World, BAt W W.heap.size a m l → Tabs W → Calls Tryd.prog 20 #[.slice a m c, .agg #[.int .i64 k, .int .u64 b, .string t]] W (NewB W (putV l ⟨k, b, t.data.toList⟩))) := fun W h h' => hPt a m c l k b t W h (by omega) hb ht h'
  have HLL := Lib.hid hl.len
  have HB0 : Hid (Below w.heap.size w (w.alloc (.cells #[.int .i64 k, .int .u64 b, .string t] 24))) := (Below.refl _ _).alloc (Nat.le_refl _) _
  have HV0 : Hid (BoxV (w.alloc (.cells #[.int .i64 k, .int .u64 b, .string t] 24)) w.heap.size k b t) := BoxV.new w k b t 24
  have d1 : decide ((1000 : Int) < (t.size : Int)) = false := by simp; omega
  have d2 : decide ((1000 : Int) < (m : Int)) = false := by simp; omega
  have hmc' := hmc; have hcm' := hcm
  unfold maxLen at hcm'
  obtain ⟨rest, hrest⟩ : ∃ rest, rest = l.drop (tkN l) := ⟨_, rfl⟩
  obtain ⟨nn, hnn⟩ : ∃ nn, nn = tkN l := ⟨_, rfl⟩
  obtain ⟨pk, hpk⟩ : ∃ x, x = (tkV l).k := ⟨_, rfl⟩
  obtain ⟨pb, hpb⟩ : ∃ x, x = (tkV l).b := ⟨_, rfl⟩
  obtain ⟨pt, hpt⟩ : ∃ x : ByteArray, x = ⟨(tkV l).t.toArray⟩ := ⟨_, rfl⟩
  have HK1 : Hid (∀ (g : Nat) (W : World), RdAt W g l true → Tabs W → Calls Tryd.prog 17 #[.pointer (some ⟨g, 0, none⟩)] W fun e w' => e = .returned (.agg #[.int .i64 pk, .int .u64 (pb : Nat), .string pt]) ∧ RdAt w' g rest true ∧ Only g W w') := fun g W h h' => by
    rw [hpk, hpb, hpt, hrest]; exact hTk.1 g l W h hk h'
  have CT : ∀ {r2 : Nat} (W : World), RefAt W w.heap.size r2 l 0 true → Calls Tryd.prog 18 #[.pointer (some ⟨r2, 0, none⟩)] W fun e w' => e = .returned (.agg #[.int .i64 pk, .int .u64 (pb : Nat), .string pt]) ∧ RefAt w' w.heap.size r2 l nn true ∧ Only r2 W w' := fun W h => by
    have := refTakeV_yes _ _ l 0 W h hk
    rw [Nat.zero_add] at this
    rw [hpk, hpb, hpt, hnn]; exact this
  have CL : ∀ {r2 : Nat} (W : World), RefAt W w.heap.size r2 l nn true → Calls Tryd.prog 24 #[.pointer (some ⟨r2, 0, none⟩)] W (Reads1 W (.int .i64 (rest.length : Nat))) := fun W h => by
    have := refLeft_any _ _ l nn true W h
    rw [hrest, List.length_drop, ← hnn]; exact this
  have hrl : rest.length ≤ 1000 := by rw [hrest, List.length_drop]; have := hl.len; omega
  clear hrest hnn hpk hpb hpt
  clear hT hPt hTk hk
  go_enter Tryd.func4, Tryd.ntmps4
  go_upto_region 3 with (go_at_call 9; ((with_reducible refine (awake_any _ (HTW.out _ HB0.out)).mono ?_); rintro e w1 ⟨rfl, hb1⟩; have V1 := Lib.hid (HV0.out.below hb1 (by simp)); have B1 := Lib.hid (HB0.out.trans (hb1.mono HB0.out.size)); obtain ⟨p1, p2, p3⟩ := V1.out))
  clear p1 p2 p3
  have hn1 : w.heap.size < w1.heap.size := by have := hb1.size; simp at this; omega
  go_upto_region 4 with (go_at_call 16; ((with_reducible refine (new_any a m c l _ ((hl.below B1.out (Nat.le_refl _)).more B1.out.size) (by omega)).mono ?_); rintro e w2 ⟨r1, rfl, hr1, hg1, hg2, hb2⟩))
  have B2 := B1.out.trans (hb2.mono B1.out.size)
  have V2 := V1.out.below hb2 hn1
  have hz2 : (w2.alloc (.cells #[.slice a m c, .int .i64 0, .bool false] 35)).heap.size = w2.heap.size + 1 := by simp
  have hal : Below w2.heap.size w2 (w2.alloc (.cells #[.slice a m c, .int .i64 0, .bool false] 35)) := (Below.refl _ _).alloc (Nat.le_refl _) _
  have Y3 : RefAt (w2.alloc (.cells #[.slice a m c, .int .i64 0, .bool false] 35)) w.heap.size w2.heap.size l 0 true := ⟨a, m, c, heap_alloc_new _ _, hmc, hcm, (hl.below B2 (Nat.le_refl _)).alloc B2.size _, Nat.zero_le _, B2.size⟩
  have R3 := hr1.below hal
  have V3 := V2.below hal (by omega)
  have B3 := B2.trans (hal.mono B2.size)
  have hr12 : r1 < w2.heap.size := hg2
  have hnr : w.heap.size < r1 := by omega
  clear V2 B2 hr1 hal
  generalize w2.alloc (.cells #[.slice a m c, .int .i64 0, .bool false] 35) = W3 at *
  generalize w2.heap.size = r2 at *
  have RX := Lib.hid R3; have YX := Lib.hid Y3; have BX := Lib.hid B3
  have R3sz : Hid (r2 < W3.heap.size ∧ r1 < W3.heap.size ∧ w.heap.size < W3.heap.size) := ⟨Y3.lt, by have := Y3.lt; omega, by have := Y3.lt; omega⟩
  clear R3 Y3 B3 hz2
  go_upto_region 5 with (first | (go_at_call 17; ((with_reducible refine (HK1.out r1 _ RX.out (HTW.out _ BX.out)).mono ?_); rintro e w4 ⟨rfl, hr4, ho4⟩; have Y4 := Lib.hid (YX.out.far ho4 (by omega) (by omega)))) | (go_at_call 18; ((with_reducible refine (CT _ Y4.out).mono ?_); rintro e w5 ⟨rfl, hr5, ho5⟩)))
  have V4 := V3.only ho4 (by have := R3sz.out.1; omega) (by omega)
  have hs4 := ho4.size
  have hs5 := ho5.size
  have V5 := V4.only ho5 (by have := R3sz.out.1; omega) (by omega)
  have B4 : Below w.heap.size w w4 := Only.below BX.out ho4 (by omega) BX.out.size
  have B5 : Below w.heap.size w w5 := Only.below B4 ho5 (by omega) B4.size
  have R5 := hr4.far ho5 hr12
  have e5 : (w5.alloc (.cells #[.int .i64 pk, .int .u64 pb, .string pt] 24)).heap.size = w5.heap.size + 1 := by simp
  have e6 : ((w5.alloc (.cells #[.int .i64 pk, .int .u64 pb, .string pt] 24)).alloc (.cells #[.int .i64 pk, .int .u64 pb, .string pt] 24)).heap.size = w5.heap.size + 2 := by simp
  have hb6 : Below w5.heap.size w5 ((w5.alloc (.cells #[.int .i64 pk, .int .u64 pb, .string pt] 24)).alloc (.cells #[.int .i64 pk, .int .u64 pb, .string pt] 24)) := ((Below.refl _ _).alloc (Nat.le_refl _) _).alloc (by simp) _
  have g2' := BoxV.new (w5.alloc (.cells #[.int .i64 pk, .int .u64 pb, .string pt] 24)) pk pb pt 24
  rw [e5] at g2'
  have N6 : BytesIn w ((w5.alloc (.cells #[.int .i64 pk, .int .u64 pb, .string pt] 24)).alloc (.cells #[.int .i64 pk, .int .u64 pb, .string pt] 24)) w5.heap.size (w5.heap.size + 1) r1 r2 k pk b pb t pt l rest nn true :=
    ⟨⟨V5.below hb6 (by have := R3sz.out.1; omega), (BoxV.new w5 pk pb pt 24).alloc _ (by omega), g2', B5.trans (hb6.mono B5.size), by have := R3sz.out.1; omega, by omega, by omega⟩, R5.below hb6, hr5.below hb6⟩
  clear V4 hs4 hs5 V5 B4 B5 R5 e5 e6 hb6 g2' hr4 hr5 ho4 ho5
  generalize (w5.alloc (.cells #[.int .i64 pk, .int .u64 pb, .string pt] 24)).alloc (.cells #[.int .i64 pk, .int .u64 pb, .string pt] 24) = W6 at *
  generalize w5.heap.size + 1 = G2 at *
  generalize w5.heap.size = G1 at *
  have HN := Lib.hid N6
  have HD := Lib.hid N6.drew
  have s1 := HN.out.ten
  clear N6
  go_region_held3 (fun w' => w'.cell? ⟨w.heap.size, 0, none⟩ = some (.int .i64 k) ∧ w'.cell? ⟨w.heap.size, 1, none⟩ = some (.int .u64 b) ∧ w'.cell? ⟨w.heap.size, 2, none⟩ = some (.string t) ∧ w'.cell? ⟨G1, 0, none⟩ = some (.int .i64 pk) ∧ w'.cell? ⟨G1, 1, none⟩ = some (.int .u64 pb) ∧ w'.cell? ⟨G1, 2, none⟩ = some (.string pt) ∧ w'.cell? ⟨G2, 0, none⟩ = some (.int .i64 pk) ∧ w'.cell? ⟨G2, 1, none⟩ = some (.int .u64 pb) ∧ w'.cell? ⟨G2, 2, none⟩ = some (.string pt) ∧ w'.cell? ⟨r2, 2, none⟩ = some (.bool (!true))) (first | exact s1 | exact s2 | exact s3 | exact s4)
    (first | (go_at_call 20; ((with_reducible refine (HP.out _ ?_ (HTW.out _ HD.out.bel)).mono ?_); (exact (hl.below HD.out.bel (Nat.le_refl _)).more HD.out.bel.size); rintro e w6 ⟨a6, n6, c6, rfl, ho6, hb6⟩; have X6 := Lib.hid (HD.out.below hb6); have s2 := X6.out.ten)) | (go_at_call 21; ((with_reducible refine (refPutV_any a m c l k b t _ ?_ (by omega) hb ht).mono ?_); (exact (hl.below X6.out.bel (Nat.le_refl _)).more X6.out.bel.size); rintro e w7 ⟨a7, n7, c7, rfl, ho7, hb7⟩; have X7 := Lib.hid (X6.out.below hb7); have s3 := X7.out.ten; have q6 := (BAt.of_own ho6).below hb7 (Nat.le_refl _); have q7 := BAt.of_own ho7; have q8 : n6 ≤ maxLen := (by rw [← own_len ho6]; exact put_max l _ (by rw [HLL.out]; omega)))) | (go_at_call 19; ((with_reducible refine (same_two a6 a7 n6 n7 c6 c7 _ _ _ _ q6 q7 q8).mono ?_); rintro e w' ⟨rfl, q, rfl⟩; have X8 := Lib.hid (X7.out.drewN q); have s4 := X8.out.ten)) | (go_at_call 22; ((with_reducible refine (ok_any r1 rest true _ X8.out.rd).mono ?_); rintro e w' ⟨rfl, rfl⟩)) | (go_at_call 23; ((with_reducible refine (left_any r1 rest true _ X8.out.rd).mono ?_); rintro e w' ⟨rfl, rfl⟩)) | (go_at_call 24; ((with_reducible refine (CL _ X8.out.rf).mono ?_); rintro e w' ⟨rfl, q2, rfl⟩)))
  go_wp2
  go_ret
  exact ⟨rfl, below_drewN _ X7.out.bel⟩

set_option maxHeartbeats 2000000 in
theorem bytes_no (a : Option Addr) (m c : Nat) (l : List UInt8) (k : Int) (b : Nat) (t : ByteArray) (w : World) (hl : BAt w w.heap.size a m l) (hmc : m ≤ c) (hcm : c ≤ maxLen) (hb : b < 18446744073709551616) (ht : t.size ≤ maxLen) (hT : Tabs w) (hTk : TakesV 17) (hPt : PutsV 20) (h1 : t.size ≤ 1000) (h2 : m ≤ 1000) (hk : ¬ tkOk l) :
    Calls Tryd.prog 4 #[.agg #[.int .i64 k, .int .u64 b, .string t], .slice a m c] w fun e w' => e = .returned (.bool true) ∧ Below w.heap.size w w' := by
  have HTW : Hid (∀ W, Below w.heap.size w W → Tabs W) := fun W hB => hT.below hB
  have HP : Hid (∀ W : World, BAt W W.heap.size a m l → Tabs W → Calls Tryd.prog 20 #[.slice a m c, .agg #[.int .i64 k, .int .u64 b, .string t]] W (NewB W (putV l ⟨k, b, t.data.toList⟩))) := fun W h h' => hPt a m c l k b t W h (by omega) hb ht h'
  have HLL := Lib.hid hl.len
  have HB0 : Hid (Below w.heap.size w (w.alloc (.cells #[.int .i64 k, .int .u64 b, .string t] 24))) := (Below.refl _ _).alloc (Nat.le_refl _) _
  have HV0 : Hid (BoxV (w.alloc (.cells #[.int .i64 k, .int .u64 b, .string t] 24)) w.heap.size k b t) := BoxV.new w k b t 24
  have d1 : decide ((1000 : Int) < (t.size : Int)) = false := by simp; omega
  have d2 : decide ((1000 : Int) < (m : Int)) = false := by simp; omega
  have hmc' := hmc; have hcm' := hcm
  unfold maxLen at hcm'
  obtain ⟨rest, hrest⟩ : ∃ rest : List UInt8, rest = [] := ⟨_, rfl⟩
  obtain ⟨pk, hpk⟩ : ∃ x : Int, x = 0 := ⟨_, rfl⟩
  obtain ⟨pb, hpb⟩ : ∃ x : Nat, x = 0 := ⟨_, rfl⟩
  obtain ⟨pt, hpt⟩ : ∃ x : ByteArray, x = ⟨#[]⟩ := ⟨_, rfl⟩
  have HK2 : Hid (∀ (g : Nat) (W : World), RdAt W g l true → Tabs W → Calls Tryd.prog 17 #[.pointer (some ⟨g, 0, none⟩)] W fun e w' => e = .returned (.agg #[.int .i64 pk, .int .u64 (pb : Nat), .string pt]) ∧ RdAt w' g rest false ∧ Only g W w') := fun g W h h' => by
    rw [hpk, hpb, hpt, hrest]; exact hTk.2 g l true W h (fun e => hk e.2) h'
  have CT : ∀ {r2 : Nat} (W : World), RefAt W w.heap.size r2 l 0 true → Calls Tryd.prog 18 #[.pointer (some ⟨r2, 0, none⟩)] W fun e w' => ∃ n5, e = .returned (.agg #[.int .i64 pk, .int .u64 (pb : Nat), .string pt]) ∧ RefAt w' w.heap.size r2 l n5 false ∧ Only r2 W w' := fun W h => by
    rw [hpk, hpb, hpt]; exact refTakeV_no _ _ l 0 true W h (fun e => hk e.2)
  have CL : ∀ {r2 n5 : Nat} (W : World), RefAt W w.heap.size r2 l n5 false → Calls Tryd.prog 24 #[.pointer (some ⟨r2, 0, none⟩)] W (Reads1 W (.int .i64 (rest.length : Nat))) := fun W h => by
    have := refLeft_any _ _ l _ false W h
    rw [hrest]; exact this
  have hrl : rest.length ≤ 1000 := by rw [hrest]; simp
  clear hrest hpk hpb hpt
  clear hT hPt hTk hk
  go_enter Tryd.func4, Tryd.ntmps4
  go_upto_region 3 with (go_at_call 9; ((with_reducible refine (awake_any _ (HTW.out _ HB0.out)).mono ?_); rintro e w1 ⟨rfl, hb1⟩; have V1 := Lib.hid (HV0.out.below hb1 (by simp)); have B1 := Lib.hid (HB0.out.trans (hb1.mono HB0.out.size)); obtain ⟨p1, p2, p3⟩ := V1.out))
  clear p1 p2 p3
  have hn1 : w.heap.size < w1.heap.size := by have := hb1.size; simp at this; omega
  go_upto_region 4 with (go_at_call 16; ((with_reducible refine (new_any a m c l _ ((hl.below B1.out (Nat.le_refl _)).more B1.out.size) (by omega)).mono ?_); rintro e w2 ⟨r1, rfl, hr1, hg1, hg2, hb2⟩))
  have B2 := B1.out.trans (hb2.mono B1.out.size)
  have V2 := V1.out.below hb2 hn1
  have hz2 : (w2.alloc (.cells #[.slice a m c, .int .i64 0, .bool false] 35)).heap.size = w2.heap.size + 1 := by simp
  have hal : Below w2.heap.size w2 (w2.alloc (.cells #[.slice a m c, .int .i64 0, .bool false] 35)) := (Below.refl _ _).alloc (Nat.le_refl _) _
  have Y3 : RefAt (w2.alloc (.cells #[.slice a m c, .int .i64 0, .bool false] 35)) w.heap.size w2.heap.size l 0 true := ⟨a, m, c, heap_alloc_new _ _, hmc, hcm, (hl.below B2 (Nat.le_refl _)).alloc B2.size _, Nat.zero_le _, B2.size⟩
  have R3 := hr1.below hal
  have V3 := V2.below hal (by omega)
  have B3 := B2.trans (hal.mono B2.size)
  have hr12 : r1 < w2.heap.size := hg2
  have hnr : w.heap.size < r1 := by omega
  clear V2 B2 hr1 hal
  generalize w2.alloc (.cells #[.slice a m c, .int .i64 0, .bool false] 35) = W3 at *
  generalize w2.heap.size = r2 at *
  have RX := Lib.hid R3; have YX := Lib.hid Y3; have BX := Lib.hid B3
  have R3sz : Hid (r2 < W3.heap.size ∧ r1 < W3.heap.size ∧ w.heap.size < W3.heap.size) := ⟨Y3.lt, by have := Y3.lt; omega, by have := Y3.lt; omega⟩
  clear R3 Y3 B3 hz2
  go_upto_region 5 with (first | (go_at_call 17; ((with_reducible refine (HK2.out r1 _ RX.out (HTW.out _ BX.out)).mono ?_); rintro e w4 ⟨rfl, hr4, ho4⟩; have Y4 := Lib.hid (YX.out.far ho4 (by omega) (by omega)))) | (go_at_call 18; ((with_reducible refine (CT _ Y4.out).mono ?_); rintro e w5 ⟨n5, rfl, hr5, ho5⟩)))
  have V4 := V3.only ho4 (by have := R3sz.out.1; omega) (by omega)
  have hs4 := ho4.size
  have hs5 := ho5.size
  have V5 := V4.only ho5 (by have := R3sz.out.1; omega) (by omega)
  have B4 : Below w.heap.size w w4 := Only.below BX.out ho4 (by omega) BX.out.size
  have B5 : Below w.heap.size w w5 := Only.below B4 ho5 (by omega) B4.size
  have R5 := hr4.far ho5 hr12
  have e5 : (w5.alloc (.cells #[.int .i64 pk, .int .u64 pb, .string pt] 24)).heap.size = w5.heap.size + 1 := by simp
  have e6 : ((w5.alloc (.cells #[.int .i64 pk, .int .u64 pb, .string pt] 24)).alloc (.cells #[.int .i64 pk, .int .u64 pb, .string pt] 24)).heap.size = w5.heap.size + 2 := by simp
  have hb6 : Below w5.heap.size w5 ((w5.alloc (.cells #[.int .i64 pk, .int .u64 pb, .string pt] 24)).alloc (.cells #[.int .i64 pk, .int .u64 pb, .string pt] 24)) := ((Below.refl _ _).alloc (Nat.le_refl _) _).alloc (by simp) _
  have g2' := BoxV.new (w5.alloc (.cells #[.int .i64 pk, .int .u64 pb, .string pt] 24)) pk pb pt 24
  rw [e5] at g2'
  have N6 : BytesIn w ((w5.alloc (.cells #[.int .i64 pk, .int .u64 pb, .string pt] 24)).alloc (.cells #[.int .i64 pk, .int .u64 pb, .string pt] 24)) w5.heap.size (w5.heap.size + 1) r1 r2 k pk b pb t pt l rest n5 false :=
    ⟨⟨V5.below hb6 (by have := R3sz.out.1; omega), (BoxV.new w5 pk pb pt 24).alloc _ (by omega), g2', B5.trans (hb6.mono B5.size), by have := R3sz.out.1; omega, by omega, by omega⟩, R5.below hb6, hr5.below hb6⟩
  clear V4 hs4 hs5 V5 B4 B5 R5 e5 e6 hb6 g2' hr4 hr5 ho4 ho5
  generalize (w5.alloc (.cells #[.int .i64 pk, .int .u64 pb, .string pt] 24)).alloc (.cells #[.int .i64 pk, .int .u64 pb, .string pt] 24) = W6 at *
  generalize w5.heap.size + 1 = G2 at *
  generalize w5.heap.size = G1 at *
  have HN := Lib.hid N6
  have HD := Lib.hid N6.drew
  have s1 := HN.out.ten
  clear N6
  go_region_held3 (fun w' => w'.cell? ⟨w.heap.size, 0, none⟩ = some (.int .i64 k) ∧ w'.cell? ⟨w.heap.size, 1, none⟩ = some (.int .u64 b) ∧ w'.cell? ⟨w.heap.size, 2, none⟩ = some (.string t) ∧ w'.cell? ⟨G1, 0, none⟩ = some (.int .i64 pk) ∧ w'.cell? ⟨G1, 1, none⟩ = some (.int .u64 pb) ∧ w'.cell? ⟨G1, 2, none⟩ = some (.string pt) ∧ w'.cell? ⟨G2, 0, none⟩ = some (.int .i64 pk) ∧ w'.cell? ⟨G2, 1, none⟩ = some (.int .u64 pb) ∧ w'.cell? ⟨G2, 2, none⟩ = some (.string pt) ∧ w'.cell? ⟨r2, 2, none⟩ = some (.bool (!false))) (first | exact s1 | exact s2 | exact s3 | exact s4)
    (first | (go_at_call 20; ((with_reducible refine (HP.out _ ?_ (HTW.out _ HD.out.bel)).mono ?_); (exact (hl.below HD.out.bel (Nat.le_refl _)).more HD.out.bel.size); rintro e w6 ⟨a6, n6, c6, rfl, ho6, hb6⟩; have X6 := Lib.hid (HD.out.below hb6); have s2 := X6.out.ten)) | (go_at_call 21; ((with_reducible refine (refPutV_any a m c l k b t _ ?_ (by omega) hb ht).mono ?_); (exact (hl.below X6.out.bel (Nat.le_refl _)).more X6.out.bel.size); rintro e w7 ⟨a7, n7, c7, rfl, ho7, hb7⟩; have X7 := Lib.hid (X6.out.below hb7); have s3 := X7.out.ten; have q6 := (BAt.of_own ho6).below hb7 (Nat.le_refl _); have q7 := BAt.of_own ho7; have q8 : n6 ≤ maxLen := (by rw [← own_len ho6]; exact put_max l _ (by rw [HLL.out]; omega)))) | (go_at_call 19; ((with_reducible refine (same_two a6 a7 n6 n7 c6 c7 _ _ _ _ q6 q7 q8).mono ?_); rintro e w' ⟨rfl, q, rfl⟩; have X8 := Lib.hid (X7.out.drewN q); have s4 := X8.out.ten)) | (go_at_call 22; ((with_reducible refine (ok_any r1 rest false _ X8.out.rd).mono ?_); rintro e w' ⟨rfl, rfl⟩)) | (go_at_call 23; ((with_reducible refine (left_any r1 rest false _ X8.out.rd).mono ?_); rintro e w' ⟨rfl, rfl⟩)) | (go_at_call 24; ((with_reducible refine (CL _ X8.out.rf).mono ?_); rintro e w' ⟨rfl, q2, rfl⟩)))
  go_wp2
  go_ret
  exact ⟨rfl, below_drewN _ X7.out.bel⟩

set_option maxHeartbeats 1000000 in
theorem bytes_big (a : Option Addr) (m c : Nat) (k : Int) (b : Nat) (t : ByteArray) (w : World) (hmc : m ≤ c) (hcm : c ≤ maxLen) (ht : t.size ≤ maxLen) (hT : Tabs w) (h : decide ((1000 : Int) < (t.size : Int)) = true ∨ (decide ((1000 : Int) < (t.size : Int)) = false ∧ decide ((1000 : Int) < (m : Int)) = true)) :
    Calls Tryd.prog 4 #[.agg #[.int .i64 k, .int .u64 b, .string t], .slice a m c] w fun e w' => e = .returned (.bool true) ∧ Below w.heap.size w w' := by
  have HTW : Hid (∀ W, Below w.heap.size w W → Tabs W) := fun W hB => hT.below hB
  have HB0 : Hid (Below w.heap.size w (w.alloc (.cells #[.int .i64 k, .int .u64 b, .string t] 24))) := (Below.refl _ _).alloc (Nat.le_refl _) _
  have HV0 : Hid (BoxV (w.alloc (.cells #[.int .i64 k, .int .u64 b, .string t] 24)) w.heap.size k b t) := BoxV.new w k b t 24
  unfold maxLen at hcm ht
  clear hT
  rcases h with d1 | ⟨d1, d2⟩
  all_goals
    go_enter Tryd.func4, Tryd.ntmps4
    go_upto_region 2 with (go_at_call 9; ((with_reducible refine (awake_any _ (HTW.out _ HB0.out)).mono ?_); rintro e w1 ⟨rfl, hb1⟩; have V1 := Lib.hid (HV0.out.below hb1 (by simp)); have B1 := Lib.hid (HB0.out.trans (hb1.mono HB0.out.size)); obtain ⟨p1, p2, p3⟩ := V1.out))
    go_wp2_with (go_at_call 9; ((with_reducible refine (awake_any _ (HTW.out _ B1.out)).mono ?_); rintro e w2 ⟨rfl, hb2⟩))
    go_ret
    exact ⟨rfl, B1.out.trans (hb2.mono B1.out.size)⟩

set_option maxHeartbeats 1000000 in
theorem bytes_walk (a : Option Addr) (m c : Nat) (l : List UInt8) (k : Int) (b : Nat) (t : ByteArray) (w : World) (hl : BAt w w.heap.size a m l) (hmc : m ≤ c) (hcm : c ≤ maxLen) (hb : b < 18446744073709551616) (ht : t.size ≤ maxLen) (hT : Tabs w) (hTk : TakesV 17) (hPt : PutsV 20) :
    Calls Tryd.prog 4 #[.agg #[.int .i64 k, .int .u64 b, .string t], .slice a m c] w fun e w' => e = .returned (.bool true) ∧ Below w.heap.size w w' := by
  by_cases h1 : t.size ≤ 1000
  · by_cases h2 : m ≤ 1000
    · by_cases hk : tkOk l
      · exact bytes_yes a m c l k b t w hl hmc hcm hb ht hT hTk hPt h1 h2 hk
      · exact bytes_no a m c l k b t w hl hmc hcm hb ht hT hTk hPt h1 h2 hk
    · have d1 : decide ((1000 : Int) < (t.size : Int)) = false := by simp; omega
      have d2 : decide ((1000 : Int) < (m : Int)) = true := by simp; omega
      exact bytes_big a m c k b t w hmc hcm ht hT (.inr ⟨d1, d2⟩)
  · have d1 : decide ((1000 : Int) < (t.size : Int)) = true := by simp; omega
    exact bytes_big a m c k b t w hmc hcm ht hT (.inl d1)
end Go.Proofs.YtmaohddmhdhkkaaDoor
