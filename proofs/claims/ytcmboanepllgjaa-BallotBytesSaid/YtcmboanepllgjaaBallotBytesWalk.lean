/- The walk of the statement BallotBytes. Conditions: what came in lies in memory; the round fits its kind. -/
import Derived.Test.YtcmboanepllgjaaBallotTake

import Derived.Test.YtcmboanepllgjaaBallotPut

import Derived.Deep.RegionHeld3

import Derived.Laws.StructEq

namespace Go.Proofs.Ytcmboanepllgjaa

open Go.RowKit

set_option linter.unusedVariables false

/-- What holds before the comparison: three ballots in boxes, and the two readers. -/
def BytesB (w W : World) (G1 G2 r1 r2 : Nat) (x y z : Array Value) (L rest : List UInt8) (k : Nat) (ok : Bool) : Prop :=
  Boxs w W [(G2, z, 28), (G1, y, 24), (w.heap.size, x, 24)] ∧ RdAt W r1 rest ok ∧ RefAt W w.heap.size r2 L k ok
section

variable {w W W' : World} {G1 G2 r1 r2 : Nat} {x y z : Array Value} {L rest : List UInt8} {k : Nat} {ok : Bool}

theorem BytesB.bel (h : BytesB w W G1 G2 r1 r2 x y z L rest k ok) : Below w.heap.size w W := h.1.1
theorem BytesB.rd (h : BytesB w W G1 G2 r1 r2 x y z L rest k ok) : RdAt W r1 rest ok := h.2.1
theorem BytesB.rf (h : BytesB w W G1 G2 r1 r2 x y z L rest k ok) : RefAt W w.heap.size r2 L k ok := h.2.2
theorem BytesB.below (h : BytesB w W G1 G2 r1 r2 x y z L rest k ok) (hb : Below W.heap.size W W') : BytesB w W' G1 G2 r1 r2 x y z L rest k ok := ⟨h.1.below hb, h.2.1.below hb, h.2.2.below hb⟩
theorem BytesB.drewN (q : Nat) (h : BytesB w W G1 G2 r1 r2 x y z L rest k ok) : BytesB w (W.drewN q) G1 G2 r1 r2 x y z L rest k ok := ⟨h.1.drewN q, h.2.1, h.2.2⟩
theorem BytesB.drew (h : BytesB w W G1 G2 r1 r2 x y z L rest k ok) : BytesB w W.drew G1 G2 r1 r2 x y z L rest k ok := h.drewN 1
theorem BytesB.seven {x1 x2 y1 y2 z1 z2 : Value} (h : BytesB w W G1 G2 r1 r2 #[x1, x2] #[y1, y2] #[z1, z2] L rest k ok) :
    W.cell? ⟨w.heap.size, 0, none⟩ = some x1 ∧ W.cell? ⟨w.heap.size, 1, none⟩ = some x2 ∧ W.cell? ⟨G1, 0, none⟩ = some y1 ∧ W.cell? ⟨G1, 1, none⟩ = some y2 ∧ W.cell? ⟨G2, 0, none⟩ = some z1 ∧ W.cell? ⟨G2, 1, none⟩ = some z2 ∧ W.cell? ⟨r2, 2, none⟩ = some (.bool (!ok)) :=
  ⟨(h.1.get 2 _ _ _ rfl).two.1, (h.1.get 2 _ _ _ rfl).two.2, (h.1.get 1 _ _ _ rfl).two.1, (h.1.get 1 _ _ _ rfl).two.2, (h.1.get 0 _ _ _ rfl).two.1, (h.1.get 0 _ _ _ rfl).two.2, h.2.2.flag.1⟩
end

set_option maxHeartbeats 2000000 in
theorem bytes6_gen (a : Option Addr) (m c : Nat) (l rest : List UInt8) (r : Nat) (n p q : Int) (ok : Bool) (w : World) (hl : BAt w w.heap.size a m l) (hmc : m ≤ c) (hcm : c ≤ maxLen) (hr : r < 4294967296) (h2 : m ≤ 1000) (hrl : rest.length ≤ 1000)
    (cT : ∀ (g : Nat) (W : World), RdAt W g l true → Calls Try.prog 18 #[.pointer (some ⟨g, 0, none⟩)] W (GotB g rest ok (p, q) W))
    (cR : ∀ (g : Nat) (W : World), RefAt W w.heap.size g l 0 true → Calls Try.prog 19 #[.pointer (some ⟨g, 0, none⟩)] W (fun e w' => ∃ k, GotR w.heap.size g l k ok (p, q) W e w' ∧ Hid (∀ W', RefAt W' w.heap.size g l k ok → Calls Try.prog 25 #[.pointer (some ⟨g, 0, none⟩)] W' (Reads1 W' (.int .i64 (rest.length : Nat)))))) :
    Calls Try.prog 5 #[.agg #[.int .u32 r, .int .i64 n], .slice a m c] w (Says w true) := by
  have d2 : decide ((1000 : Int) < (m : Int)) = false := by simp; omega
  have hcm' := hcm
  unfold maxLen at hcm'
  have HL := Lib.hid hl
  have HM := Lib.hid (show m ≤ 1099511627000 by omega)
  have HM' := Lib.hid (show m ≤ 1099511627776 by omega)
  have HR := Lib.hid hr
  have HLen : Hid (∀ q : Nat, (l ++ balB r n).length = q → q ≤ maxLen) := fun q hq => by rw [List.length_append, balB_len, hl.len] at hq; unfold maxLen; omega
  have H0 := Lib.hid ((Boxs.start w).more #[.int .u32 r, .int .i64 n] 24)
  clear hl hr
  go_enter Try.func5, Try.ntmps5
  go_upto_region 4 with (first | (go_at_call 10; ((with_reducible refine (awake6_any _).mono ?_); rintro e w1 ⟨rfl, hb1⟩; have H1 := Lib.hid (H0.out.below hb1); have L1 := Lib.hid ((HL.out.below H1.out.bel (Nat.le_refl _)).more H1.out.bel.size))) | (go_at_call 17; ((with_reducible refine (new_any a m c l _ L1.out HM'.out).mono ?_); rintro e w2 ⟨r1, rfl, hr1, hg1, hg1', hb2⟩; have H2 := Lib.hid (H1.out.below hb2); have G1' := Lib.hid (Nat.lt_of_lt_of_le (H1.out.get 0 _ _ _ rfl).lt hg1))))
  have B2 := H2.out.bel
  have hal : Below w2.heap.size w2 (w2.alloc (.cells #[.slice a m c, .int .i64 0, .bool false] 47)) := (Below.refl _ _).alloc (Nat.le_refl _) _
  have Y3 : RefAt (w2.alloc (.cells #[.slice a m c, .int .i64 0, .bool false] 47)) w.heap.size w2.heap.size l 0 true := ⟨a, m, c, heap_alloc_new _ _, hmc, hcm, (HL.out.below B2 (Nat.le_refl _)).alloc B2.size _, Nat.zero_le _, B2.size⟩
  have R3 := hr1.below hal
  have H3 := Lib.hid (H2.out.below hal)
  have hr12 : r1 < w2.heap.size := hg1'
  have hwr : w.heap.size < r1 := G1'.out
  clear H0 H1 H2 hr1 hal B2 L1
  generalize w2.alloc (.cells #[.slice a m c, .int .i64 0, .bool false] 47) = W3 at *
  generalize w2.heap.size = r2 at *
  have RX := Lib.hid R3
  have YX := Lib.hid Y3
  clear R3 Y3
  go_upto_region 5 with (first | (go_at_call 18; ((with_reducible refine (cT r1 _ RX.out).mono ?_); rintro e w4 ⟨rfl, hr4, ho4⟩; have Y4 := Lib.hid (YX.out.far ho4 (by omega) (by omega)))) | (go_at_call 19; ((with_reducible refine (cR r2 _ Y4.out).mono ?_); rintro e w5 ⟨k5, ⟨rfl, hr5, ho5⟩, CL⟩)))
  have H4 := H3.out.only ho4 (by omega) (by simp; omega)
  have H5 := H4.only ho5 (by omega) (by simp; omega)
  have R5 := hr4.far ho5 hr12
  have H6 := (H5.more #[.int .u32 p, .int .i64 q] 24).more #[.int .u32 p, .int .i64 q] 28
  have e5 : (w5.alloc (.cells #[.int .u32 p, .int .i64 q] 24)).heap.size = w5.heap.size + 1 := by simp
  rw [e5] at H6
  have hb6 : Below w5.heap.size w5 ((w5.alloc (.cells #[.int .u32 p, .int .i64 q] 24)).alloc (.cells #[.int .u32 p, .int .i64 q] 28)) := two_box _ _ _ _ _
  have N6 : BytesB w ((w5.alloc (.cells #[.int .u32 p, .int .i64 q] 24)).alloc (.cells #[.int .u32 p, .int .i64 q] 28)) w5.heap.size (w5.heap.size + 1) r1 r2 #[.int .u32 r, .int .i64 n] #[.int .u32 p, .int .i64 q] #[.int .u32 p, .int .i64 q] l rest k5 ok :=
    ⟨H6, R5.below hb6, hr5.below hb6⟩
  clear H3 H4 H5 R5 e5 hb6 H6 hr4 hr5 ho4 ho5 Y4 RX YX cT cR
  generalize (w5.alloc (.cells #[.int .u32 p, .int .i64 q] 24)).alloc (.cells #[.int .u32 p, .int .i64 q] 28) = W6 at *
  generalize w5.heap.size + 1 = G2 at *
  generalize w5.heap.size = G1 at *
  have HN := Lib.hid N6
  have HD := Lib.hid N6.drew
  have s1 := HN.out.seven
  have LD : Hid (BAt W6.drew W6.drew.heap.size a m l) := (HL.out.below HD.out.bel (Nat.le_refl _)).more HD.out.bel.size
  clear N6
  go_region_held3 (fun w' => w'.cell? ⟨w.heap.size, 0, none⟩ = some (.int .u32 r) ∧ w'.cell? ⟨w.heap.size, 1, none⟩ = some (.int .i64 n) ∧ w'.cell? ⟨G1, 0, none⟩ = some (.int .u32 p) ∧ w'.cell? ⟨G1, 1, none⟩ = some (.int .i64 q) ∧ w'.cell? ⟨G2, 0, none⟩ = some (.int .u32 p) ∧ w'.cell? ⟨G2, 1, none⟩ = some (.int .i64 q) ∧ w'.cell? ⟨r2, 2, none⟩ = some (.bool (!ok))) (first | exact s1 | exact s2 | exact s3 | exact s4)
    (first | (go_at_call 21; ((with_reducible refine (bPut_any a m c r n l _ LD.out HM.out HR.out).mono ?_); rintro e w6 ⟨a6, n6, c6, rfl, ho6, hb6⟩; have X6 := Lib.hid (HD.out.below hb6); have s2 := X6.out.seven; have L6 := Lib.hid ((HL.out.below X6.out.bel (Nat.le_refl _)).more X6.out.bel.size))) | (go_at_call 22; ((with_reducible refine (rPut_any a m c r n l _ L6.out HM.out HR.out).mono ?_); rintro e w7 ⟨a7, n7, c7, rfl, ho7, hb7⟩; have X7 := Lib.hid (X6.out.below hb7); have s3 := X7.out.seven; have q6 := Lib.hid ((BAt.of_own ho6).below hb7 (Nat.le_refl _)); have q7 := Lib.hid (BAt.of_own ho7); have q8 := Lib.hid (HLen.out _ (own_len ho6)))) | (go_at_call 20; ((with_reducible refine (same_two a6 a7 n6 n7 c6 c7 _ _ _ _ q6.out q7.out q8.out).mono ?_); rintro e w' ⟨rfl, q, rfl⟩; have X8 := Lib.hid (X7.out.drewN q); have s4 := X8.out.seven)) | (go_at_call 23; ((with_reducible refine (ok_any r1 rest ok _ X8.out.rd).mono ?_); rintro e w' ⟨rfl, rfl⟩)) | (go_at_call 24; ((with_reducible refine (left_any r1 rest ok _ X8.out.rd).mono ?_); rintro e w' ⟨rfl, rfl⟩)) | (go_at_call 25; ((with_reducible refine (CL.out _ X8.out.rf).mono ?_); rintro e w' ⟨rfl, q2, rfl⟩)))
  go_wp2
  go_ret
  exact ⟨rfl, below_drewN _ X7.out.bel⟩

set_option maxHeartbeats 1000000 in
theorem bytes6_big (a : Option Addr) (m c r : Nat) (n : Int) (w : World) (hmc : m ≤ c) (hcm : c ≤ maxLen) (h : decide ((1000 : Int) < (m : Int)) = true) :
    Calls Try.prog 5 #[.agg #[.int .u32 r, .int .i64 n], .slice a m c] w (Says w true) := by
  have H0 := Lib.hid ((Boxs.start w).more #[.int .u32 r, .int .i64 n] 24)
  unfold maxLen at hcm
  go_enter Try.func5, Try.ntmps5
  go_upto_region 2 with (go_at_call 10; ((with_reducible refine (awake6_any _).mono ?_); rintro e w1 ⟨rfl, hb1⟩; have H1 := Lib.hid (H0.out.below hb1)))
  go_wp2_with (go_at_call 10; ((with_reducible refine (awake6_any _).mono ?_); rintro e w2 ⟨rfl, hb2⟩; have H2 := Lib.hid (H1.out.below hb2)))
  go_ret
  exact ⟨rfl, H2.out.bel⟩

theorem bytes6_walk (a : Option Addr) (m c r : Nat) (n : Int) (l : List UInt8) (w : World) (hl : BAt w w.heap.size a m l) (hmc : m ≤ c) (hcm : c ≤ maxLen) (hr : r < 4294967296) :
    Calls Try.prog 5 #[.agg #[.int .u32 r, .int .i64 n], .slice a m c] w (Says w true) := by
  have hlen := hl.len
  by_cases h2 : m ≤ 1000
  · by_cases hk : balOk l
    · refine bytes6_gen a m c l (l.drop 5) r n (tkR l : Nat) (tkNode l : Nat) true w hl hmc hcm hr h2 (by simp; omega) (fun g W h => bTake_yes g l W h hk) (fun g W h => (rTake_yes w.heap.size g l 0 W h hk).mono fun e w' hg => ⟨_, hg, fun W' h' => ?_⟩)
      have := refLeft_any w.heap.size g l (0 + 5) true W' h'
      simpa using this
    · refine bytes6_gen a m c l [] r n 0 0 false w hl hmc hcm hr h2 (by simp) (fun g W h => bTake_no g l true W h (fun e => hk e.2)) (fun g W h => (rTake_no w.heap.size g l 0 true W h (fun e => hk e.2)).mono fun e w' hg => ?_)
      obtain ⟨k', hg⟩ := hg
      refine ⟨k', hg, fun W' h' => ?_⟩
      have := refLeft_any w.heap.size g l k' false W' h'
      simpa using this
  · exact bytes6_big a m c r n w hmc hcm (by simp; omega)
end Go.Proofs.Ytcmboanepllgjaa
