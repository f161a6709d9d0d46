/- The walk of the statement CommandBytes. Conditions: the command's lists and the bytes lie in memory; the tables of utf8 lie there. -/
import Derived.Test.YtpkbjbhmghdnoaaDoorGT
import Derived.Test.YtpkbjbhmghdnoaaDoorCommandRefPut
import Derived.Test.YtpkbjbhmghdnoaaDoorCommandRefTake
import Derived.Test.YtpkbjbhmghdnoaaDoorTxnBytesWalk
namespace Go.Proofs.YtpkbjbhmghdnoaaDoor

open Go.RowKit

set_option linter.unusedVariables false

theorem CmAt.only {W W' : World} {g : Nat} {x : CmM} {rs : List RdM} {ws : List WrM} (h : CmAt W x rs ws) (hn : NoTxt W g) (ho : Only g W W') : CmAt W' x rs ws := ⟨h.1.only hn ho, h.2⟩
/-- Two that were taken of the same bytes are the same. -/
theorem gotC_same {st st1 st2 : St} {a b : Cm} (h : Res cmF st a st1) (hz : st1 = none → a = zeroC) (h' : Res cmF st b st2) (hz' : st2 = none → b = zeroC) : st2 = st1 ∧ a = b := by
  obtain ⟨rfl, h2⟩ := h'.same h
  cases st2 with
  | none => exact ⟨rfl, by rw [hz rfl, hz' rfl]⟩
  | some r => exact ⟨rfl, (h2 (by simp)).symm⟩
theorem putC_max (l : List UInt8) (c : Cm) (h : l.length ≤ 2000) : (putC l c).length ≤ maxLen := by
  unfold putC maxLen
  split
  · rename_i hf
    have := cmB_max c hf
    rw [List.length_append]; omega
  · omega
/-- What holds before the comparisons: boxes, the two readers, two commands. -/
def BytC (w W : World) (bs : List (Nat × Array Value × TypeId)) (g1 g2 : Nat) (l : List UInt8) (st : St) (y z : CmM) (rs1 : List RdM) (ws1 : List WrM) (rs2 : List RdM) (ws2 : List WrM) : Prop :=
  Boxs w W bs ∧ RS g1 st W ∧ FS w.heap.size g2 l st W ∧ CmAt W y rs1 ws1 ∧ CmAt W z rs2 ws2
section

variable {w W W' : World} {bs : List (Nat × Array Value × TypeId)} {g1 g2 : Nat} {l : List UInt8} {st : St} {y z : CmM} {rs1 : List RdM} {ws1 : List WrM} {rs2 : List RdM} {ws2 : List WrM}

theorem BytC.below (h : BytC w W bs g1 g2 l st y z rs1 ws1 rs2 ws2) (hb : Below W.heap.size W W') : BytC w W' bs g1 g2 l st y z rs1 ws1 rs2 ws2 := ⟨h.1.below hb, h.2.1.below hb, h.2.2.1.below hb, h.2.2.2.1.later hb, h.2.2.2.2.later hb⟩
theorem BytC.drewN (h : BytC w W bs g1 g2 l st y z rs1 ws1 rs2 ws2) (q : Nat) : BytC w (W.drewN q) bs g1 g2 l st y z rs1 ws1 rs2 ws2 := h.below (below_drewN q (Below.refl _ _))
theorem BytC.drew (h : BytC w W bs g1 g2 l st y z rs1 ws1 rs2 ws2) : BytC w W.drew bs g1 g2 l st y z rs1 ws1 rs2 ws2 := h.drewN 1
theorem BytC.boxs (h : BytC w W bs g1 g2 l st y z rs1 ws1 rs2 ws2) : Boxs w W bs := h.1
theorem BytC.bel (h : BytC w W bs g1 g2 l st y z rs1 ws1 rs2 ws2) : Below w.heap.size w W := h.1.1
theorem BytC.p1 (h : BytC w W bs g1 g2 l st y z rs1 ws1 rs2 ws2) : RS g1 st W := h.2.1
theorem BytC.p2 (h : BytC w W bs g1 g2 l st y z rs1 ws1 rs2 ws2) : FS w.heap.size g2 l st W := h.2.2.1
theorem BytC.t1 (h : BytC w W bs g1 g2 l st y z rs1 ws1 rs2 ws2) : CmAt W y rs1 ws1 := h.2.2.2.1
theorem BytC.t2 (h : BytC w W bs g1 g2 l st y z rs1 ws1 rs2 ws2) : CmAt W z rs2 ws2 := h.2.2.2.2
end

set_option maxRecDepth 100000 in
set_option maxHeartbeats 8000000 in
theorem bytes9_gen (x : CmM) (rs : List RdM) (ws : List WrM) (e : Option Addr) (k kc : Nat) (l : List UInt8) (w : World)
    (hX : CmAt w x rs ws) (hl : BAt w w.heap.size e k l) (hkc : k ≤ kc) (hkm : kc ≤ maxLen) (hU : Tabs w) (hf : fewT rs ws = true) (hk : k ≤ 2000) :
    Calls Tryd.prog 4 #[.agg (cmV x), .slice e k kc] w (Says w true) := by
  have H0 := Lib.hid ((Boxs.start w).more (cmV x) 30)
  have cA := fun W (hW : Below w.heap.size w W) => awake9_any W (hU.below hW)
  have cF := fun W (hW : Below w.heap.size w W) => few9_any x rs ws W (hX.later hW)
  rw [hf] at cF
  have HL : Hid (∀ W, Below w.heap.size w W → BAt W W.heap.size e k l) := fun W hW => (hl.below hW (Nat.le_refl _)).more hW.size
  have HL0 : Hid (∀ W, Below w.heap.size w W → BAt W w.heap.size e k l) := fun W hW => hl.below hW (Nat.le_refl _)
  have hll := hl.len
  have HU : Hid (∀ W, Below w.heap.size w W → Tabs W) := fun W hW => hU.below hW
  have hn : x.n ≤ 1000000 := by have := (fewT_len hf).1; have := hX.tx.lenR; omega
  have hm : x.m ≤ 1000000 := by have := (fewT_len hf).2; have := hX.tx.lenW; omega
  have cP : ∀ W, Below w.heap.size w W → Calls Tryd.prog 19 #[.slice e k kc, .agg (cmV x)] W (NewB W (putC l (cmT x rs ws))) := fun W hW => kPut_any e k kc l x rs ws W (HL.out W hW) (by omega) (hX.later hW) hn hm (hU.below hW)
  have cP2 : ∀ W, Below w.heap.size w W → Calls Tryd.prog 20 #[.slice e k kc, .agg (cmV x)] W (NewB W (putC l (cmT x rs ws))) := fun W hW => dPut_any e k kc l x rs ws W (HL.out W hW) (by omega) (hX.later hW) hn hm
  have HPT : Hid (∀ z : Nat, (putC l (cmT x rs ws)).length = z → z ≤ maxLen) := fun z hz => by have := putC_max l (cmT x rs ws) (by omega); omega
  generalize putC l (cmT x rs ws) = PL at *
  have d2 : decide ((2000 : Int) < (k : Int)) = false := by simp; omega
  have hk1 : k ≤ 1099511627776 := by omega
  obtain ⟨x0, x1, x2, x3, x4, x5, x6, x7, x8, x9⟩ := (H0.out.get 0 _ _ _ rfl).ten
  have hkc' : kc ≤ 9223372036854775807 := by unfold maxLen at hkm; omega
  clear hX hU hf hl
  go_enter Tryd.func4, Tryd.ntmps4
  go_upto_region 4 with (first | (go_at_call 7; ((with_reducible refine (cA _ H0.out.bel).mono ?_); rintro e w1 ⟨rfl, hb1⟩; have H1 := Lib.hid (H0.out.below hb1); (clear x0 x1 x2 x3 x4 x5 x6 x7 x8 x9); obtain ⟨x0, x1, x2, x3, x4, x5, x6, x7, x8, x9⟩ := (H1.out.get 0 _ _ _ rfl).ten)) | (go_at_call 8; ((with_reducible refine (cF _ H1.out.bel).mono ?_); rintro e w2 ⟨rfl, hb2⟩; have H2 := Lib.hid (H1.out.below hb2))) | (go_at_call 15; ((with_reducible refine (new_any e k kc l _ (HL.out _ H2.out.bel) hk1).mono ?_); rintro e w3 ⟨g1, rfl, hr3, hg3, hg3', hb3⟩; have H3 := Lib.hid (H2.out.below hb3); have G1 := Lib.hid (Nat.lt_of_lt_of_le (H2.out.get 0 _ _ _ rfl).lt hg3); have D3 : Hid (RS g1 (some l) w3) := hr3; clear hr3)))
  have hw1 : w.heap.size < g1 := G1.out
  have hal : Below w3.heap.size w3 (w3.alloc (.cells #[.slice e k kc, .int .i64 0, .bool false] 44)) := one_box _ _ _
  have X4 := Lib.hid (H3.out.below hal)
  have D4 := Lib.hid (D3.out.below hal)
  have E4 : Hid (FS w.heap.size w3.heap.size l (some l) (w3.alloc (.cells #[.slice e k kc, .int .i64 0, .bool false] 44))) := ⟨0, ⟨e, k, kc, heap_alloc_new _ _, hkc, hkm, HL0.out _ X4.out.bel, Nat.zero_le _, H3.out.bel.size⟩, fun l' e => by injection e with e; rw [← e, List.drop_zero]⟩
  have h12 : g1 < w3.heap.size := hg3'
  (clear x0 x1 x2 x3 x4 x5 x6 x7 x8 x9)
  clear H0 H1 H2 H3 D3 hal cF cA G1
  generalize w3.alloc (.cells #[.slice e k kc, .int .i64 0, .bool false] 44) = W4 at *
  generalize w3.heap.size = g2 at *
  go_upto_region 5 with (first | (go_at_call 16; ((with_reducible refine (kTake_any g1 (some l) _ D4.out (HU.out _ X4.out.bel)).mono ?_); rintro e w5 ⟨y, rs1, ws1, st1, rfl, hr5, ho5, hT5, hn5, hR5, hz5⟩; have X5 := Lib.hid (X4.out.only ho5 (by omega) (by simp; omega)); have E5 := Lib.hid (E4.out.far ho5 (by omega) (by omega)); have D5 := Lib.hid hr5; have T5 := Lib.hid hT5; have R5 := Lib.hid hR5; have Z5 := Lib.hid hz5; have N5 := Lib.hid hn5; clear hr5 ho5 hT5 hR5 hz5 hn5)) | (go_at_call 17; ((with_reducible refine (dTake_any w.heap.size g2 l (some l) _ E5.out).mono ?_); rintro e w6 ⟨z, rs2, ws2, st2, rfl, hr6, ho6, hT6, hn6, hR6, hz6⟩; have X6 := Lib.hid (X5.out.only ho6 (by omega) (by simp; omega)); have D6 := Lib.hid (D5.out.far ho6 h12); have T6 := Lib.hid (T5.out.only E5.out.noTxt ho6); obtain ⟨i1, i2⟩ := gotC_same R5.out Z5.out hR6 hz6; subst i1; have Q6 := Lib.hid ((sameC_iff _ _ _ _ _ _).2 i2); have E6 := Lib.hid hr6; have U6 := Lib.hid hT6; clear hr6 ho6 hT6 hR6 hz6 i2 hn6)))
  have X7 := Lib.hid ((X6.out.more (cmV y) 30).more (cmV z) 33)
  have e7 : (w6.alloc (.cells (cmV y) 30)).heap.size = w6.heap.size + 1 := by simp
  rw [e7] at X7
  have hb7 := two_box w6 (cmV y) (cmV z) 30 33
  have Y7 := Lib.hid (show BytC w _ _ g1 g2 l st2 y z rs1 ws1 rs2 ws2 from ⟨X7.out, D6.out.below hb7, E6.out.below hb7, T6.out.later hb7, U6.out.later hb7⟩)
  have hy1 := N5.out.1
  have hy2 := N5.out.2
  clear X4 D4 E4 X5 E5 D5 T5 R5 Z5 X6 D6 T6 E6 U6 e7 hb7 X7 N5 hll d2
  generalize (w6.alloc (.cells (cmV y) 30)).alloc (.cells (cmV z) 33) = W7 at *
  generalize w6.heap.size = G1 at *
  obtain ⟨ok2, hok2⟩ : ∃ x, x = st2.isSome := ⟨_, rfl⟩
  have HS : Hid (∀ W, BytC w W [(G1 + 1, cmV z, 33), (G1, cmV y, 30), (w.heap.size, cmV x, 30)] g1 g2 l st2 y z rs1 ws1 rs2 ws2 → ((W.cell? ⟨w.heap.size, 0, none⟩ = some (.int .i64 x.k) ∧ W.cell? ⟨w.heap.size, 1, none⟩ = some (.int .i64 x.s) ∧ W.cell? ⟨w.heap.size, 2, none⟩ = some (.int .i64 x.q) ∧ W.cell? ⟨w.heap.size, 3, none⟩ = some (.slice x.a x.n x.c) ∧ W.cell? ⟨w.heap.size, 4, none⟩ = some (.slice x.b x.m x.d) ∧ W.cell? ⟨w.heap.size, 5, none⟩ = some (.int .i64 x.i) ∧ W.cell? ⟨w.heap.size, 6, none⟩ = some (.int .i64 x.j) ∧ W.cell? ⟨w.heap.size, 7, none⟩ = some (.int .i64 x.g) ∧ W.cell? ⟨w.heap.size, 8, none⟩ = some (.int .u64 ((x.st : Nat) : Int)) ∧ W.cell? ⟨w.heap.size, 9, none⟩ = some (.bool x.y)) ∧ (W.cell? ⟨G1, 0, none⟩ = some (.int .i64 y.k) ∧ W.cell? ⟨G1, 1, none⟩ = some (.int .i64 y.s) ∧ W.cell? ⟨G1, 2, none⟩ = some (.int .i64 y.q) ∧ W.cell? ⟨G1, 3, none⟩ = some (.slice y.a y.n y.c) ∧ W.cell? ⟨G1, 4, none⟩ = some (.slice y.b y.m y.d) ∧ W.cell? ⟨G1, 5, none⟩ = some (.int .i64 y.i) ∧ W.cell? ⟨G1, 6, none⟩ = some (.int .i64 y.j) ∧ W.cell? ⟨G1, 7, none⟩ = some (.int .i64 y.g) ∧ W.cell? ⟨G1, 8, none⟩ = some (.int .u64 ((y.st : Nat) : Int)) ∧ W.cell? ⟨G1, 9, none⟩ = some (.bool y.y)) ∧ (W.cell? ⟨(G1 + 1), 0, none⟩ = some (.int .i64 z.k) ∧ W.cell? ⟨(G1 + 1), 1, none⟩ = some (.int .i64 z.s) ∧ W.cell? ⟨(G1 + 1), 2, none⟩ = some (.int .i64 z.q) ∧ W.cell? ⟨(G1 + 1), 3, none⟩ = some (.slice z.a z.n z.c) ∧ W.cell? ⟨(G1 + 1), 4, none⟩ = some (.slice z.b z.m z.d) ∧ W.cell? ⟨(G1 + 1), 5, none⟩ = some (.int .i64 z.i) ∧ W.cell? ⟨(G1 + 1), 6, none⟩ = some (.int .i64 z.j) ∧ W.cell? ⟨(G1 + 1), 7, none⟩ = some (.int .i64 z.g) ∧ W.cell? ⟨(G1 + 1), 8, none⟩ = some (.int .u64 ((z.st : Nat) : Int)) ∧ W.cell? ⟨(G1 + 1), 9, none⟩ = some (.bool z.y)) ∧ W.cell? ⟨g2, 2, none⟩ = some (.bool (!ok2)))) := fun W hW => ⟨(hW.boxs.get 2 _ _ _ rfl).ten, (hW.boxs.get 1 _ _ _ rfl).ten, (hW.boxs.get 0 _ _ _ rfl).ten, by rw [hok2]; exact hW.p2.flag.1⟩
  have cOK : ∀ W, RS g1 st2 W → Calls Tryd.prog 21 #[.pointer (some ⟨g1, 0, none⟩)] W fun e w' => e = .returned (.bool ok2) ∧ W = w' := fun W h => by rw [hok2]; exact okS_any g1 st2 W h
  have cS : ∀ W, CmAt W y rs1 ws1 → CmAt W z rs2 ws2 → Calls Tryd.prog 14 #[.agg (cmV y), .agg (cmV z)] W (Says W true) := fun W h1 h2 => by
    have h := dSame_any y z rs1 rs2 ws1 ws2 W h1 h2 (by omega) (by omega)
    rw [Q6.out] at h; exact h
  have HE : Hid (Below w.heap.size w W7) := Y7.out.bel
  clear hok2 Q6 hy1 hy2 hn hm
  have b2 : (ok2 == !(!ok2)) = true := by cases ok2 <;> rfl
  have b2' : (ok2 == ok2) = true := by cases ok2 <;> rfl
  have Y4 := Lib.hid Y7.out.drew
  have s4 := HS.out _ Y4.out
  clear Y7
  go_region_held3 (fun W => ((W.cell? ⟨w.heap.size, 0, none⟩ = some (.int .i64 x.k) ∧ W.cell? ⟨w.heap.size, 1, none⟩ = some (.int .i64 x.s) ∧ W.cell? ⟨w.heap.size, 2, none⟩ = some (.int .i64 x.q) ∧ W.cell? ⟨w.heap.size, 3, none⟩ = some (.slice x.a x.n x.c) ∧ W.cell? ⟨w.heap.size, 4, none⟩ = some (.slice x.b x.m x.d) ∧ W.cell? ⟨w.heap.size, 5, none⟩ = some (.int .i64 x.i) ∧ W.cell? ⟨w.heap.size, 6, none⟩ = some (.int .i64 x.j) ∧ W.cell? ⟨w.heap.size, 7, none⟩ = some (.int .i64 x.g) ∧ W.cell? ⟨w.heap.size, 8, none⟩ = some (.int .u64 ((x.st : Nat) : Int)) ∧ W.cell? ⟨w.heap.size, 9, none⟩ = some (.bool x.y)) ∧ (W.cell? ⟨G1, 0, none⟩ = some (.int .i64 y.k) ∧ W.cell? ⟨G1, 1, none⟩ = some (.int .i64 y.s) ∧ W.cell? ⟨G1, 2, none⟩ = some (.int .i64 y.q) ∧ W.cell? ⟨G1, 3, none⟩ = some (.slice y.a y.n y.c) ∧ W.cell? ⟨G1, 4, none⟩ = some (.slice y.b y.m y.d) ∧ W.cell? ⟨G1, 5, none⟩ = some (.int .i64 y.i) ∧ W.cell? ⟨G1, 6, none⟩ = some (.int .i64 y.j) ∧ W.cell? ⟨G1, 7, none⟩ = some (.int .i64 y.g) ∧ W.cell? ⟨G1, 8, none⟩ = some (.int .u64 ((y.st : Nat) : Int)) ∧ W.cell? ⟨G1, 9, none⟩ = some (.bool y.y)) ∧ (W.cell? ⟨(G1 + 1), 0, none⟩ = some (.int .i64 z.k) ∧ W.cell? ⟨(G1 + 1), 1, none⟩ = some (.int .i64 z.s) ∧ W.cell? ⟨(G1 + 1), 2, none⟩ = some (.int .i64 z.q) ∧ W.cell? ⟨(G1 + 1), 3, none⟩ = some (.slice z.a z.n z.c) ∧ W.cell? ⟨(G1 + 1), 4, none⟩ = some (.slice z.b z.m z.d) ∧ W.cell? ⟨(G1 + 1), 5, none⟩ = some (.int .i64 z.i) ∧ W.cell? ⟨(G1 + 1), 6, none⟩ = some (.int .i64 z.j) ∧ W.cell? ⟨(G1 + 1), 7, none⟩ = some (.int .i64 z.g) ∧ W.cell? ⟨(G1 + 1), 8, none⟩ = some (.int .u64 ((z.st : Nat) : Int)) ∧ W.cell? ⟨(G1 + 1), 9, none⟩ = some (.bool z.y)) ∧ W.cell? ⟨g2, 2, none⟩ = some (.bool (!ok2)))) (first | (with_reducible exact s4) | (with_reducible exact s5) | (with_reducible exact s6) | (with_reducible exact s7) | (with_reducible exact s8) | (with_reducible exact s9))
    (first | (go_at_call 19; ((with_reducible refine (cP _ Y4.out.bel).mono ?_); rintro e v5 ⟨a6, n6, c6, rfl, ho6, hb6⟩; have Y5 := Lib.hid (Y4.out.below hb6); have s5 := HS.out _ Y5.out)) | (go_at_call 20; ((with_reducible refine (cP2 _ Y5.out.bel).mono ?_); rintro e v6 ⟨a7, n7, c7, rfl, ho7, hb7⟩; have Y6 := Lib.hid (Y5.out.below hb7); have s6 := HS.out _ Y6.out; have B6 := Lib.hid (BAt.of_own (own_below ho6 hb7)); have B7 := Lib.hid (BAt.of_own ho7); have L6 := Lib.hid (HPT.out _ (own_len ho6)))) | (go_at_call 18; ((with_reducible refine (same_two a6 a7 n6 n7 c6 c7 _ _ _ _ B6.out B7.out L6.out).mono ?_); rintro e w' ⟨rfl, z2, rfl⟩; have Y7 := Lib.hid (Y6.out.drewN z2); have s7 := HS.out _ Y7.out)) | (go_at_call 14; ((with_reducible refine (cS _ Y7.out.t1 Y7.out.t2).mono ?_); rintro e v8 ⟨rfl, hb8⟩; have Y8 := Lib.hid (Y7.out.below hb8); have s8 := HS.out _ Y8.out)) | (go_at_call 21; ((with_reducible refine (cOK _ Y8.out.p1).mono ?_); rintro e w' ⟨rfl, rfl⟩)) | (go_at_call 22; ((with_reducible refine (leftS_any g1 st2 _ Y8.out.p1).mono ?_); rintro e w' ⟨rfl, rfl⟩)) | (go_at_call 23; ((with_reducible refine (refLeftS_any w.heap.size g2 l st2 _ Y8.out.p2).mono ?_); rintro e w' ⟨rfl, z3, rfl⟩; have Y9 := Lib.hid (Y8.out.drewN z3); have s9 := HS.out _ Y9.out)))
  go_wp2
  go_ret
  exact ⟨rfl, Y9.out.bel⟩

set_option maxRecDepth 100000 in
set_option maxHeartbeats 2000000 in
theorem bytes9_walk (x : CmM) (rs : List RdM) (ws : List WrM) (e : Option Addr) (k kc : Nat) (l : List UInt8) (w : World)
    (hX : CmAt w x rs ws) (hl : BAt w w.heap.size e k l) (hkc : k ≤ kc) (hkm : kc ≤ maxLen) (hU : Tabs w) :
    Calls Tryd.prog 4 #[.agg (cmV x), .slice e k kc] w (Says w true) := by
  have H0 := Lib.hid ((Boxs.start w).more (cmV x) 30)
  have cA := fun W (hW : Below w.heap.size w W) => awake9_any W (hU.below hW)
  have cF := fun W (hW : Below w.heap.size w W) => few9_any x rs ws W (hX.later hW)
  obtain ⟨x0, x1, x2, x3, x4, x5, x6, x7, x8, x9⟩ := (H0.out.get 0 _ _ _ rfl).ten
  cases hf : fewT rs ws
  · rw [hf] at cF
    clear hf hX hU hl
    go_enter Tryd.func4, Tryd.ntmps4
    go_upto_region 2 with (first | (go_at_call 7; ((with_reducible refine (cA _ H0.out.bel).mono ?_); rintro e w1 ⟨rfl, hb1⟩; have H1 := Lib.hid (H0.out.below hb1); (clear x0 x1 x2 x3 x4 x5 x6 x7 x8 x9); obtain ⟨x0, x1, x2, x3, x4, x5, x6, x7, x8, x9⟩ := (H1.out.get 0 _ _ _ rfl).ten)) | (go_at_call 8; ((with_reducible refine (cF _ H1.out.bel).mono ?_); rintro e w2 ⟨rfl, hb2⟩; have H2 := Lib.hid (H1.out.below hb2))))
    go_wp2_with (go_at_call 7; ((with_reducible refine (cA _ H2.out.bel).mono ?_); rintro e w9 ⟨rfl, hb9⟩; have H9 := Lib.hid (H2.out.below hb9)))
    go_ret
    exact ⟨rfl, H9.out.bel⟩
  by_cases hk : k ≤ 2000
  · exact bytes9_gen x rs ws e k kc l w hX hl hkc hkm hU hf hk
  · rw [hf] at cF
    have d2 : decide ((2000 : Int) < (k : Int)) = true := by simp; omega
    unfold maxLen at hkm
    clear hf hX hU hl
    go_enter Tryd.func4, Tryd.ntmps4
    go_upto_region 2 with (first | (go_at_call 7; ((with_reducible refine (cA _ H0.out.bel).mono ?_); rintro e w1 ⟨rfl, hb1⟩; have H1 := Lib.hid (H0.out.below hb1); (clear x0 x1 x2 x3 x4 x5 x6 x7 x8 x9); obtain ⟨x0, x1, x2, x3, x4, x5, x6, x7, x8, x9⟩ := (H1.out.get 0 _ _ _ rfl).ten)) | (go_at_call 8; ((with_reducible refine (cF _ H1.out.bel).mono ?_); rintro e w2 ⟨rfl, hb2⟩; have H2 := Lib.hid (H1.out.below hb2))))
    go_wp2_with (go_at_call 7; ((with_reducible refine (cA _ H2.out.bel).mono ?_); rintro e w9 ⟨rfl, hb9⟩; have H9 := Lib.hid (H2.out.below hb9)))
    go_ret
    exact ⟨rfl, H9.out.bel⟩
end Go.Proofs.YtpkbjbhmghdnoaaDoor
