/- The walk of the statement TxnBytes. Conditions: the transaction's lists and the bytes lie in memory; the tables of utf8 lie there. -/
import Derived.Test.YtlkgpajpblhkeaaDoorGM
import Derived.Test.YtlkgpajpblhkeaaDoorGO
import Derived.Test.YtlkgpajpblhkeaaDoorTxnBackWalk
import Derived.Laws.StructEq
namespace Go.Proofs.YtlkgpajpblhkeaaDoor

open Go.RowKit

set_option linter.unusedVariables false

/-- How many bytes are left. -/
def lenS : St → Nat
  | some l => l.length
  | none => 0
theorem leftS_any (g : Nat) (st : St) (W : World) (h : RS g st W) : Calls Tryd.prog 37 #[.pointer (some ⟨g, 0, none⟩)] W fun e w' => e = .returned (.int .i64 (lenS st : Nat)) ∧ W = w' := by
  cases st with
  | none => exact left_any g [] false W h
  | some l => exact left_any g l true W h
theorem refLeftS_any (B g : Nat) (L : List UInt8) (st : St) (W : World) (h : FS B g L st W) : Calls Tryd.prog 38 #[.pointer (some ⟨g, 0, none⟩)] W (Reads1 W (.int .i64 (lenS st : Nat))) := by
  obtain ⟨k, h, hk⟩ := h
  cases st with
  | none => exact refLeft_any B g L k false W h
  | some l =>
    obtain rfl := hk l rfl
    have h1 := refLeft_any B g L k true W h
    rw [if_pos rfl] at h1
    show Calls _ _ _ _ (Reads1 W (.int .i64 ((L.drop k).length : Nat)))
    rw [List.length_drop]; exact h1
theorem RS.far {g G : Nat} {st : St} {W W' : World} (h : RS g st W) (ho : Only G W W') (hg : g < G) : RS g st W' := by
  cases st with
  | none => exact RdAt.far h ho hg
  | some l => exact RdAt.far h ho hg
theorem FS.far {B g G : Nat} {L : List UInt8} {st : St} {W W' : World} (h : FS B G L st W) (ho : Only g W W') (hg : B ≤ g) (hne : G ≠ g) : FS B G L st W' := by
  obtain ⟨k, h, hk⟩ := h
  exact ⟨k, h.far ho hg hne, hk⟩
theorem RS.below {g : Nat} {st : St} {W W' : World} (h : RS g st W) (hb : Below W.heap.size W W') : RS g st W' := Keep.keep (g := g) W W' h fun b hb' => hb.block b (by have := h.lt; omega)
theorem FS.below {B g : Nat} {L : List UInt8} {st : St} {W W' : World} (h : FS B g L st W) (hb : Below W.heap.size W W') : FS B g L st W' := Keep.keep (g := g) W W' h fun b hb' => hb.block b (by have := h.lt; omega)
/-- A block without texts. -/
def NoTxt (W : World) (g : Nat) : Prop := ∃ cs t, BoxC W g cs t ∧ NoStr cs
theorem FS.noTxt {B g : Nat} {L : List UInt8} {st : St} {W : World} (h : FS B g L st W) : NoTxt W g := by
  obtain ⟨k, ⟨a, n, c, hh, _⟩, _⟩ := h
  refine ⟨_, _, hh, fun i z => ?_⟩
  match i with
  | 0 => simp
  | 1 => simp
  | 2 => simp
  | i + 3 => simp
theorem RowAt.only_far {W W' : World} {g n k : Nat} {a : Option Addr} {xs : List Value} (h : RowAt W W.heap.size a n k xs) (hs : n ≠ 0 → ∃ z, xs[0]? = some (.string z)) (hn : NoTxt W g) (ho : Only g W W') : RowAt W' W'.heap.size a n k xs := by
  obtain ⟨cs, t, hb, hcs⟩ := hn
  rcases h with ⟨hl, h | ⟨b, off, ha, hb', hc⟩⟩
  · exact ⟨hl, .inl h⟩
  · by_cases h0 : n = 0
    · exact ⟨hl, .inl h0⟩
    · obtain ⟨z, hz⟩ := hs h0
      have h1 := hc 0 _ hz
      have hne : b ≠ g := by
        rintro rfl
        rw [cell_of_row _ _ _ _ _ _ hb] at h1
        exact hcs _ _ h1
      exact ⟨hl, .inr ⟨b, off, ha, Nat.lt_of_lt_of_le hb' ho.size, fun j v hv => (World.cell?_of_block (ho.block b hb' (fun e => hne (by injection e)))).trans (hc j v hv)⟩⟩
theorem TxAt.only {W W' : World} {g : Nat} {a1 a2 : Option Addr} {n1 n2 : Nat} {L1 : List RdM} {L2 : List WrM} (h : TxAt W a1 n1 a2 n2 L1 L2) (hn : NoTxt W g) (ho : Only g W W') : TxAt W' a1 n1 a2 n2 L1 L2 := by
  refine ⟨⟨⟨h.lenR, h.rds.2.only_far (fun h0 => ?_) hn ho⟩, ⟨h.lenW, h.wrs.2.only_far (fun h0 => ?_) hn ho⟩⟩, h.okR, h.okW⟩
  · have := h.lenR
    match L1 with
    | [] => exact absurd this.symm h0
    | x :: r => exact ⟨x.1, rfl⟩
  · have := h.lenW
    match L2 with
    | [] => exact absurd this.symm h0
    | x :: r => exact ⟨x.key, rfl⟩
theorem RS.noTxt {g : Nat} {st : St} {W : World} (h : RS g st W) : NoTxt W g := by
  obtain ⟨l, ok, a, n, c, hh, _⟩ := h.rd
  refine ⟨_, _, hh, fun i z => ?_⟩
  match i with
  | 0 => simp
  | 1 => simp
  | i + 2 => simp
/-- Two that were taken of the same bytes are the same. -/
theorem got_same {st st1 st2 : St} {s q s' q' : Int} {rs rs' : List RdM} {ws ws' : List WrM} (h : Res txnF st (txT (s, q) rs ws) st1) (hz : st1 = none → (s = 0 ∧ q = 0) ∧ rs = [] ∧ ws = []) (h' : Res txnF st (txT (s', q') rs' ws') st2) (hz' : st2 = none → (s' = 0 ∧ q' = 0) ∧ rs' = [] ∧ ws' = []) : st2 = st1 ∧ s' = s ∧ q' = q ∧ rs' = rs ∧ ws' = ws := by
  obtain ⟨rfl, h2⟩ := h'.same h
  cases st2 with
  | none =>
    obtain ⟨⟨rfl, rfl⟩, rfl, rfl⟩ := hz rfl
    obtain ⟨⟨rfl, rfl⟩, rfl, rfl⟩ := hz' rfl
    exact ⟨rfl, rfl, rfl, rfl, rfl⟩
  | some r =>
    obtain ⟨i1, i2, i3⟩ := txT_inj (h2 (by simp))
    injection i1 with i1 i4
    exact ⟨rfl, i1, i4, i2, i3⟩
theorem id_same {st st1 st2 : St} {x x' : IdN} (h : Res idQ st x st1) (hz : st1 = none → x = (0, 0)) (h' : Res idQ st x' st2) (hz' : st2 = none → x' = (0, 0)) : st2 = st1 ∧ x' = x := by
  obtain ⟨rfl, h2⟩ := h'.same h
  cases st2 with
  | none => exact ⟨rfl, by rw [hz rfl, hz' rfl]⟩
  | some r => exact ⟨rfl, h2 (by simp)⟩
theorem putT_max (l : List UInt8) (t : Tx Val) (h : l.length ≤ 2000) : (putT l t).length ≤ maxLen := by
  unfold putT maxLen
  split
  · rename_i hf
    have := txnB_max t hf
    rw [List.length_append]; omega
  · omega
theorem putId_max (l : List UInt8) (x : IdN) (h : l.length ≤ 2000) : (putId l x).length ≤ maxLen := by
  unfold putId maxLen
  split
  · rw [List.length_append, idBytes_len]; omega
  · omega

/-- What holds before the comparisons: boxes, readers, and two transactions. -/
def BytB (w W : World) (bs : List (Nat × Array Value × TypeId)) (g1 g2 g4 : Nat) (l : List UInt8) (st st4 : St) (a1 : Option Addr) (n1 : Nat) (b1 : Option Addr) (m1 : Nat) (a2 : Option Addr) (n2 : Nat) (b2 : Option Addr) (m2 : Nat) (rs : List RdM) (ws : List WrM) : Prop :=
  Boxs w W bs ∧ RS g1 st W ∧ FS w.heap.size g2 l st W ∧ FS w.heap.size g4 l st4 W ∧ TxAt W a1 n1 b1 m1 rs ws ∧ TxAt W a2 n2 b2 m2 rs ws
section

variable {w W W' : World} {bs : List (Nat × Array Value × TypeId)} {g1 g2 g4 : Nat} {l : List UInt8} {st st4 : St} {a1 : Option Addr} {n1 : Nat} {b1 : Option Addr} {m1 : Nat} {a2 : Option Addr} {n2 : Nat} {b2 : Option Addr} {m2 : Nat} {rs : List RdM} {ws : List WrM}

theorem BytB.below (h : BytB w W bs g1 g2 g4 l st st4 a1 n1 b1 m1 a2 n2 b2 m2 rs ws) (hb : Below W.heap.size W W') : BytB w W' bs g1 g2 g4 l st st4 a1 n1 b1 m1 a2 n2 b2 m2 rs ws := ⟨h.1.below hb, h.2.1.below hb, h.2.2.1.below hb, h.2.2.2.1.below hb, h.2.2.2.2.1.later hb, h.2.2.2.2.2.later hb⟩
theorem BytB.drewN (h : BytB w W bs g1 g2 g4 l st st4 a1 n1 b1 m1 a2 n2 b2 m2 rs ws) (z : Nat) : BytB w (W.drewN z) bs g1 g2 g4 l st st4 a1 n1 b1 m1 a2 n2 b2 m2 rs ws := h.below (below_drewN z (Below.refl _ _))
theorem BytB.drew (h : BytB w W bs g1 g2 g4 l st st4 a1 n1 b1 m1 a2 n2 b2 m2 rs ws) : BytB w W.drew bs g1 g2 g4 l st st4 a1 n1 b1 m1 a2 n2 b2 m2 rs ws := h.drewN 1
theorem BytB.boxs (h : BytB w W bs g1 g2 g4 l st st4 a1 n1 b1 m1 a2 n2 b2 m2 rs ws) : Boxs w W bs := h.1
theorem BytB.bel (h : BytB w W bs g1 g2 g4 l st st4 a1 n1 b1 m1 a2 n2 b2 m2 rs ws) : Below w.heap.size w W := h.1.1
theorem BytB.p1 (h : BytB w W bs g1 g2 g4 l st st4 a1 n1 b1 m1 a2 n2 b2 m2 rs ws) : RS g1 st W := h.2.1
theorem BytB.p2 (h : BytB w W bs g1 g2 g4 l st st4 a1 n1 b1 m1 a2 n2 b2 m2 rs ws) : FS w.heap.size g2 l st W := h.2.2.1
theorem BytB.p4 (h : BytB w W bs g1 g2 g4 l st st4 a1 n1 b1 m1 a2 n2 b2 m2 rs ws) : FS w.heap.size g4 l st4 W := h.2.2.2.1
theorem BytB.t1 (h : BytB w W bs g1 g2 g4 l st st4 a1 n1 b1 m1 a2 n2 b2 m2 rs ws) : TxAt W a1 n1 b1 m1 rs ws := h.2.2.2.2.1
theorem BytB.t2 (h : BytB w W bs g1 g2 g4 l st st4 a1 n1 b1 m1 a2 n2 b2 m2 rs ws) : TxAt W a2 n2 b2 m2 rs ws := h.2.2.2.2.2
end

set_option maxRecDepth 100000 in
set_option maxHeartbeats 8000000 in
theorem bytes8_gen (s q : Int) (a : Option Addr) (n c : Nat) (b : Option Addr) (m d : Nat) (rs : List RdM) (ws : List WrM) (e : Option Addr) (k kc : Nat) (l : List UInt8) (w : World)
    (hX : TxAt w a n b m rs ws) (hl : BAt w w.heap.size e k l) (hkc : k ≤ kc) (hkm : kc ≤ maxLen) (hU : Tabs w) (hf : fewT rs ws = true) (hk : k ≤ 2000) :
    Calls Tryd.prog 5 #[.agg (txV s q a n c b m d), .slice e k kc] w (Says w true) := by
  have H0 := Lib.hid ((Boxs.start w).more (txV s q a n c b m d) 27)
  have cF := fun W (hW : Below w.heap.size w W) => rFewT_any s q a n c b m d rs ws W (hX.later hW)
  rw [hf] at cF
  have HL : Hid (∀ W, Below w.heap.size w W → BAt W W.heap.size e k l) := fun W hW => (hl.below hW (Nat.le_refl _)).more hW.size
  have HL0 : Hid (∀ W, Below w.heap.size w W → BAt W w.heap.size e k l) := fun W hW => hl.below hW (Nat.le_refl _)
  have hll := hl.len
  have HU : Hid (∀ W, Below w.heap.size w W → Tabs W) := fun W hW => hU.below hW
  have HX := Lib.hid hX
  have d2 : decide ((2000 : Int) < (k : Int)) = false := by simp; omega
  have hk1 : k ≤ 1099511627776 := by omega
  have hk2 : k ≤ 1099500000000 := by omega
  have hk3 : k ≤ 1099511600000 := by omega
  have hk4 : k ≤ 1099510000000 := by omega
  have HPT : Hid (∀ z : Nat, (putT l (txT (s, q) rs ws)).length = z → z ≤ maxLen) := fun z hz => by have := putT_max l (txT (s, q) rs ws) (by omega); omega
  have HPI : Hid (∀ z : Nat, (putId l (s, q)).length = z → z ≤ maxLen) := fun z hz => by have := putId_max l (s, q) (by omega); omega
  obtain ⟨x0, x1, x2, x3⟩ := (H0.out.get 0 _ _ _ rfl).four
  have hkc' : kc ≤ 9223372036854775807 := by unfold maxLen at hkm; omega
  clear hX hU hf hl
  go_enter Tryd.func5, Tryd.ntmps5
  go_upto_region 4 with (first | (go_at_call 8; ((with_reducible refine (awake8_any _).mono ?_); rintro e w1 ⟨rfl, hb1⟩; have H1 := Lib.hid (H0.out.below hb1); (clear x0 x1 x2 x3); obtain ⟨x0, x1, x2, x3⟩ := (H1.out.get 0 _ _ _ rfl).four)) | (go_at_call 9; ((with_reducible refine (cF _ H1.out.bel).mono ?_); rintro e w2 ⟨rfl, hb2⟩; have H2 := Lib.hid (H1.out.below hb2))) | (go_at_call 26; ((with_reducible refine (new_any e k kc l _ (HL.out _ H2.out.bel) hk1).mono ?_); rintro e w3 ⟨g1, rfl, hr3, hg3, hg3', hb3⟩; have H3 := Lib.hid (H2.out.below hb3); have G1 := Lib.hid (Nat.lt_of_lt_of_le (H2.out.get 0 _ _ _ rfl).lt hg3); have D3 : Hid (RS g1 (some l) w3) := hr3; clear hr3)))
  have hw1 : w.heap.size < g1 := G1.out
  have hal : Below w3.heap.size w3 (w3.alloc (.cells #[.slice e k kc, .int .i64 0, .bool false] 48)) := one_box _ _ _
  have X4 := Lib.hid (H3.out.below hal)
  have D4 := Lib.hid (D3.out.below hal)
  have E4 : Hid (FS w.heap.size w3.heap.size l (some l) (w3.alloc (.cells #[.slice e k kc, .int .i64 0, .bool false] 48))) := ⟨0, ⟨e, k, kc, heap_alloc_new _ _, hkc, hkm, HL0.out _ X4.out.bel, Nat.zero_le _, H3.out.bel.size⟩, fun l' e => by injection e with e; rw [← e, List.drop_zero]⟩
  have h12 : g1 < w3.heap.size := hg3'
  clear x0 x1 x2 x3 H0 H1 H2 H3 D3 hal cF G1
  generalize w3.alloc (.cells #[.slice e k kc, .int .i64 0, .bool false] 48) = W4 at *
  generalize w3.heap.size = g2 at *
  go_upto_region 5 with (first | (go_at_call 27; ((with_reducible refine (tTake_any g1 (some l) _ D4.out (HU.out _ X4.out.bel)).mono ?_); rintro e w5 ⟨s1, q1, a1, n1, c1, b1, m1, d1, rs1, ws1, st1, rfl, hr5, ho5, hT5, hn5, hR5, hz5⟩; have X5 := Lib.hid (X4.out.only ho5 (by omega) (by simp; omega)); have E5 := Lib.hid (E4.out.far ho5 (by omega) (by omega)); have D5 := Lib.hid hr5; have T5 := Lib.hid hT5; have R5 := Lib.hid hR5; have Z5 := Lib.hid hz5; clear hr5 ho5 hT5 hR5 hz5)) | (go_at_call 28; ((with_reducible refine (rTake_any w.heap.size g2 l (some l) _ E5.out).mono ?_); rintro e w6 ⟨s2, q2, a2, n2, c2, b2, m2, d2', rs2, ws2, st2, rfl, hr6, ho6, hT6, hn6, hR6, hz6⟩; have X6 := Lib.hid (X5.out.only ho6 (by omega) (by simp; omega)); have D6 := Lib.hid (D5.out.far ho6 h12); have T6 := Lib.hid (T5.out.only E5.out.noTxt ho6); obtain ⟨i1, i2, i3, i4, i5⟩ := got_same R5.out Z5.out hR6 hz6; subst i1; subst i2; subst i3; subst i4; subst i5; have E6 := Lib.hid hr6; have U6 := Lib.hid hT6; clear hr6 ho6 hT6 hR6 hz6)))
  have X7 := Lib.hid ((X6.out.more (txV s2 q2 a1 n1 c1 b1 m1 d1) 27).more (txV s2 q2 a2 n2 c2 b2 m2 d2') 27)
  have e7 : (w6.alloc (.cells (txV s2 q2 a1 n1 c1 b1 m1 d1) 27)).heap.size = w6.heap.size + 1 := by simp
  rw [e7] at X7
  have hb7 := two_box w6 (txV s2 q2 a1 n1 c1 b1 m1 d1) (txV s2 q2 a2 n2 c2 b2 m2 d2') 27 27
  have D7 := Lib.hid (D6.out.below hb7)
  have E7 := Lib.hid (E6.out.below hb7)
  have T7 := Lib.hid (T6.out.later hb7)
  have U7 := Lib.hid (U6.out.later hb7)
  have hg6 : g2 < w6.heap.size := E6.out.lt
  clear X4 D4 E4 X5 E5 D5 T5 R5 Z5 X6 D6 T6 E6 U6 e7 hb7
  generalize (w6.alloc (.cells (txV s2 q2 a1 n1 c1 b1 m1 d1) 27)).alloc (.cells (txV s2 q2 a2 n2 c2 b2 m2 d2') 27) = W7 at *
  generalize w6.heap.size = G1 at *
  go_upto_region 6 with (go_at_call 26; ((with_reducible refine (new_any e k kc l _ (HL.out _ X7.out.bel) hk1).mono ?_); rintro e w8 ⟨g3, rfl, hr8, hg8, hg8', hb8⟩; have X8 := Lib.hid (X7.out.below hb8); have GG := Lib.hid (Nat.lt_of_lt_of_le (X7.out.get 0 _ _ _ rfl).lt hg8); have F8 : Hid (RS g3 (some l) w8) := hr8; have D8 := Lib.hid (D7.out.below hb8); have E8 := Lib.hid (E7.out.below hb8); have T8 := Lib.hid (T7.out.later hb8); have U8 := Lib.hid (U7.out.later hb8); clear hr8))
  have hw3 : G1 + 1 < g3 := GG.out
  have hal : Below w8.heap.size w8 (w8.alloc (.cells #[.slice e k kc, .int .i64 0, .bool false] 48)) := one_box _ _ _
  have X9 := Lib.hid (X8.out.below hal)
  have F9 := Lib.hid (F8.out.below hal)
  have D9 := Lib.hid (D8.out.below hal)
  have E9 := Lib.hid (E8.out.below hal)
  have T9 := Lib.hid (T8.out.later hal)
  have U9 := Lib.hid (U8.out.later hal)
  have P9 : Hid (FS w.heap.size w8.heap.size l (some l) (w8.alloc (.cells #[.slice e k kc, .int .i64 0, .bool false] 48))) := ⟨0, ⟨e, k, kc, heap_alloc_new _ _, hkc, hkm, HL0.out _ X9.out.bel, Nat.zero_le _, X8.out.bel.size⟩, fun l' e => by injection e with e; rw [← e, List.drop_zero]⟩
  have h34 : g3 < w8.heap.size := hg8'
  clear X7 X8 D7 D8 E7 E8 T7 T8 U7 U8 F8 hal GG
  generalize w8.alloc (.cells #[.slice e k kc, .int .i64 0, .bool false] 48) = W9 at *
  generalize w8.heap.size = g4 at *
  have hbl3 : ∀ x ∈ ([(G1 + 1, txV s2 q2 a2 n2 c2 b2 m2 d2', 27), (G1, txV s2 q2 a1 n1 c1 b1 m1 d1, 27), (w.heap.size, txV s q a n c b m d, 27)] : List (Nat × Array Value × TypeId)), x.1 ≠ g3 := by simp; omega
  have hbl4 : ∀ x ∈ ([(G1 + 1, txV s2 q2 a2 n2 c2 b2 m2 d2', 27), (G1, txV s2 q2 a1 n1 c1 b1 m1 d1, 27), (w.heap.size, txV s q a n c b m d, 27)] : List (Nat × Array Value × TypeId)), x.1 ≠ g4 := by simp; omega
  go_upto_region 7 with (first | (go_at_call 29; ((with_reducible refine (tTakeId_any g3 (some l) _ F9.out).mono ?_); rintro e w10 ⟨⟨i1, j1⟩, st3, rfl, hr10, ho10, hR10, hz10⟩; have X10 := Lib.hid (X9.out.only ho10 (by omega) hbl3); have P10 := Lib.hid (P9.out.far ho10 (by omega) (by omega)); have D10 := Lib.hid (D9.out.far ho10 (by omega)); have E10 := Lib.hid (E9.out.far ho10 (by omega) (by omega)); have T10 := Lib.hid (T9.out.only F9.out.noTxt ho10); have U10 := Lib.hid (U9.out.only F9.out.noTxt ho10); have F10 := Lib.hid hr10; have R10 := Lib.hid hR10; have Z10 := Lib.hid hz10; clear hr10 ho10 hR10 hz10)) | (go_at_call 30; ((with_reducible refine (rTakeId_any w.heap.size g4 l (some l) _ P10.out).mono ?_); rintro e w11 ⟨⟨i2, j2⟩, st4, rfl, hr11, ho11, hR11, hz11⟩; have X11 := Lib.hid (X10.out.only ho11 (by omega) hbl4); have F11 := Lib.hid (F10.out.far ho11 h34); have D11 := Lib.hid (D10.out.far ho11 (by omega)); have E11 := Lib.hid (E10.out.far ho11 (by omega) (by omega)); have T11 := Lib.hid (T10.out.only P10.out.noTxt ho11); have U11 := Lib.hid (U10.out.only P10.out.noTxt ho11); obtain ⟨j3, j4⟩ := id_same R10.out Z10.out hR11 hz11; subst j3; injection j4 with j4 j5; subst j4; subst j5; have P11 := Lib.hid hr11; clear hr11 ho11 hR11 hz11)))
  have hb12 := two_box w11 #[.int .i64 i2, .int .i64 j2] #[.int .i64 i2, .int .i64 j2] 23 23
  have X12 := Lib.hid ((X11.out.more #[.int .i64 i2, .int .i64 j2] 23).more #[.int .i64 i2, .int .i64 j2] 23)
  have e12 : (w11.alloc (.cells #[.int .i64 i2, .int .i64 j2] 23)).heap.size = w11.heap.size + 1 := by simp
  rw [e12] at X12
  have Y12 := Lib.hid (show BytB w _ _ g1 g2 g4 l st2 st4 a1 n1 b1 m1 a2 n2 b2 m2 rs2 ws2 from ⟨X12.out, D11.out.below hb12, E11.out.below hb12, P11.out.below hb12, T11.out.later hb12, U11.out.later hb12⟩)
  have F12 := Lib.hid (F11.out.below hb12)
  clear X9 F9 D9 E9 T9 U9 P9 X10 P10 D10 E10 T10 U10 F10 R10 Z10 X11 F11 D11 E11 T11 U11 P11 X12 e12 hb12 hbl3 hbl4 hll d2
  generalize (w11.alloc (.cells #[.int .i64 i2, .int .i64 j2] 23)).alloc (.cells #[.int .i64 i2, .int .i64 j2] 23) = W12 at *
  generalize w11.heap.size = G3 at *
  obtain ⟨ok4, hok4⟩ : ∃ x, x = st4.isSome := ⟨_, rfl⟩
  obtain ⟨ok2, hok2⟩ : ∃ x, x = st2.isSome := ⟨_, rfl⟩
  have HS7 : Hid (∀ W, BytB w W [(G3 + 1, #[.int .i64 i2, .int .i64 j2], 23), (G3, #[.int .i64 i2, .int .i64 j2], 23), (G1 + 1, txV s2 q2 a2 n2 c2 b2 m2 d2', 27), (G1, txV s2 q2 a1 n1 c1 b1 m1 d1, 27), (w.heap.size, txV s q a n c b m d, 27)] g1 g2 g4 l st2 st4 a1 n1 b1 m1 a2 n2 b2 m2 rs2 ws2 → ((W.cell? ⟨G3, 0, none⟩ = some (.int .i64 i2) ∧ W.cell? ⟨G3, 1, none⟩ = some (.int .i64 j2)) ∧ (W.cell? ⟨G3 + 1, 0, none⟩ = some (.int .i64 i2) ∧ W.cell? ⟨G3 + 1, 1, none⟩ = some (.int .i64 j2))) ∧ W.cell? ⟨g4, 2, none⟩ = some (.bool (!ok4)) ∧ (W.cell? ⟨w.heap.size, 0, none⟩ = some (.int .i64 s) ∧ W.cell? ⟨w.heap.size, 1, none⟩ = some (.int .i64 q) ∧ W.cell? ⟨w.heap.size, 2, none⟩ = some (.slice a n c) ∧ W.cell? ⟨w.heap.size, 3, none⟩ = some (.slice b m d))) := fun W hW => ⟨⟨(hW.boxs.get 1 _ _ _ rfl).two, (hW.boxs.get 0 _ _ _ rfl).two⟩, by rw [hok4]; exact hW.p4.flag.1, (hW.boxs.get 4 _ _ _ rfl).four⟩
  have HS9 : Hid (∀ W, BytB w W [(G3 + 1, #[.int .i64 i2, .int .i64 j2], 23), (G3, #[.int .i64 i2, .int .i64 j2], 23), (G1 + 1, txV s2 q2 a2 n2 c2 b2 m2 d2', 27), (G1, txV s2 q2 a1 n1 c1 b1 m1 d1, 27), (w.heap.size, txV s q a n c b m d, 27)] g1 g2 g4 l st2 st4 a1 n1 b1 m1 a2 n2 b2 m2 rs2 ws2 → (W.cell? ⟨G1, 0, none⟩ = some (.int .i64 s2) ∧ W.cell? ⟨G1, 1, none⟩ = some (.int .i64 q2) ∧ W.cell? ⟨G1, 2, none⟩ = some (.slice a1 n1 c1) ∧ W.cell? ⟨G1, 3, none⟩ = some (.slice b1 m1 d1)) ∧ (W.cell? ⟨G1 + 1, 0, none⟩ = some (.int .i64 s2) ∧ W.cell? ⟨G1 + 1, 1, none⟩ = some (.int .i64 q2) ∧ W.cell? ⟨G1 + 1, 2, none⟩ = some (.slice a2 n2 c2) ∧ W.cell? ⟨G1 + 1, 3, none⟩ = some (.slice b2 m2 d2')) ∧ W.cell? ⟨g2, 2, none⟩ = some (.bool (!ok2)) ∧ (W.cell? ⟨w.heap.size, 0, none⟩ = some (.int .i64 s) ∧ W.cell? ⟨w.heap.size, 1, none⟩ = some (.int .i64 q) ∧ W.cell? ⟨w.heap.size, 2, none⟩ = some (.slice a n c) ∧ W.cell? ⟨w.heap.size, 3, none⟩ = some (.slice b m d))) := fun W hW => ⟨(hW.boxs.get 3 _ _ _ rfl).four, (hW.boxs.get 2 _ _ _ rfl).four, by rw [hok2]; exact hW.p2.flag.1, (hW.boxs.get 4 _ _ _ rfl).four⟩
  have cOK4 : ∀ W, RS g3 st4 W → Calls Tryd.prog 31 #[.pointer (some ⟨g3, 0, none⟩)] W fun e w' => e = .returned (.bool ok4) ∧ W = w' := fun W h => by rw [hok4]; exact okS_any g3 st4 W h
  have cOK2 : ∀ W, RS g1 st2 W → Calls Tryd.prog 31 #[.pointer (some ⟨g1, 0, none⟩)] W fun e w' => e = .returned (.bool ok2) ∧ W = w' := fun W h => by rw [hok2]; exact okS_any g1 st2 W h
  have cS : ∀ W, TxAt W a1 n1 b1 m1 rs2 ws2 → TxAt W a2 n2 b2 m2 rs2 ws2 → Calls Tryd.prog 17 #[.agg (txV s2 q2 a1 n1 c1 b1 m1 d1), .agg (txV s2 q2 a2 n2 c2 b2 m2 d2')] W (Says W true) := fun W h1 h2 => by
    have h := rSame_any s2 q2 a1 n1 c1 b1 m1 d1 rs2 ws2 s2 q2 a2 n2 c2 b2 m2 d2' rs2 ws2 W h1 h2 (by omega) (by omega)
    rw [sameM_self] at h; exact h
  clear hok4 hok2
  have b4 : (ok4 == !ok4) = false := by cases ok4 <;> rfl
  have b2' : (ok2 == !(!ok2)) = true := by cases ok2 <;> rfl
  have b2'' : (ok2 == ok2) = true := by cases ok2 <;> rfl
  have Y0 := Lib.hid Y12.out.drew
  have F0 : Hid (RS g3 st4 W12.drew) := F12.out.below (below_drewN 1 (Below.refl _ _))
  have s0 := HS7.out _ Y0.out
  clear Y12 F12
  go_region_held3 (fun W => ((W.cell? ⟨G3, 0, none⟩ = some (.int .i64 i2) ∧ W.cell? ⟨G3, 1, none⟩ = some (.int .i64 j2)) ∧ (W.cell? ⟨G3 + 1, 0, none⟩ = some (.int .i64 i2) ∧ W.cell? ⟨G3 + 1, 1, none⟩ = some (.int .i64 j2))) ∧ W.cell? ⟨g4, 2, none⟩ = some (.bool (!ok4)) ∧ (W.cell? ⟨w.heap.size, 0, none⟩ = some (.int .i64 s) ∧ W.cell? ⟨w.heap.size, 1, none⟩ = some (.int .i64 q) ∧ W.cell? ⟨w.heap.size, 2, none⟩ = some (.slice a n c) ∧ W.cell? ⟨w.heap.size, 3, none⟩ = some (.slice b m d))) (first | (with_reducible exact s0) | (with_reducible exact s1) | (with_reducible exact s2) | (with_reducible exact s3))
    (first | (go_at_call 31; ((with_reducible refine (cOK4 _ F0.out).mono ?_); rintro e w' ⟨rfl, rfl⟩)) | (go_at_call 33; ((with_reducible refine (tPutId_any e k kc s q l _ (HL.out _ Y0.out.bel) hk3).mono ?_); rintro e v1 ⟨a6, n6, c6, rfl, ho6, hb6⟩; have Y1 := Lib.hid (Y0.out.below hb6); have s1 := HS7.out _ Y1.out)) | (go_at_call 34; ((with_reducible refine (rPutId_any e k kc s q l _ (HL.out _ Y1.out.bel) hk3).mono ?_); rintro e v2 ⟨a7, n7, c7, rfl, ho7, hb7⟩; have Y2 := Lib.hid (Y1.out.below hb7); have s2 := HS7.out _ Y2.out; have B6 := Lib.hid (BAt.of_own (own_below ho6 hb7)); have B7 := Lib.hid (BAt.of_own ho7); have L6 := Lib.hid (HPI.out _ (own_len ho6)))) | (go_at_call 32; ((with_reducible refine (same_two a6 a7 n6 n7 c6 c7 _ _ _ _ B6.out B7.out L6.out).mono ?_); rintro e w' ⟨rfl, z1, rfl⟩; have Y3 := Lib.hid (Y2.out.drewN z1); have s3 := HS7.out _ Y3.out)))
  clear s0 s1 s2 s3 Y0 Y1 Y2 F0 ho6 ho7 B6 B7 L6 hb6 hb7
  generalize v2.drewN z1 = W13 at *
  go_upto_region 9 with (fail)
  have Y4 := Lib.hid Y3.out.drew
  have s4 := HS9.out _ Y4.out
  go_region_held3 (fun W => (W.cell? ⟨G1, 0, none⟩ = some (.int .i64 s2) ∧ W.cell? ⟨G1, 1, none⟩ = some (.int .i64 q2) ∧ W.cell? ⟨G1, 2, none⟩ = some (.slice a1 n1 c1) ∧ W.cell? ⟨G1, 3, none⟩ = some (.slice b1 m1 d1)) ∧ (W.cell? ⟨G1 + 1, 0, none⟩ = some (.int .i64 s2) ∧ W.cell? ⟨G1 + 1, 1, none⟩ = some (.int .i64 q2) ∧ W.cell? ⟨G1 + 1, 2, none⟩ = some (.slice a2 n2 c2) ∧ W.cell? ⟨G1 + 1, 3, none⟩ = some (.slice b2 m2 d2')) ∧ W.cell? ⟨g2, 2, none⟩ = some (.bool (!ok2)) ∧ (W.cell? ⟨w.heap.size, 0, none⟩ = some (.int .i64 s) ∧ W.cell? ⟨w.heap.size, 1, none⟩ = some (.int .i64 q) ∧ W.cell? ⟨w.heap.size, 2, none⟩ = some (.slice a n c) ∧ W.cell? ⟨w.heap.size, 3, none⟩ = some (.slice b m d))) (first | (with_reducible exact s4) | (with_reducible exact s5) | (with_reducible exact s6) | (with_reducible exact s7) | (with_reducible exact s8) | (with_reducible exact s9))
    (first | (go_at_call 35; ((with_reducible refine (tPut_any e k kc l s q a n c b m d rs ws _ (HL.out _ Y4.out.bel) hk4 (HX.out.later Y4.out.bel) (HU.out _ Y4.out.bel)).mono ?_); rintro e v5 ⟨a6, n6, c6, rfl, ho6, hb6⟩; have Y5 := Lib.hid (Y4.out.below hb6); have s5 := HS9.out _ Y5.out)) | (go_at_call 36; ((with_reducible refine (rPutT_any e k kc l s q a n c b m d rs ws _ (HL.out _ Y5.out.bel) hk2 (HX.out.later Y5.out.bel)).mono ?_); rintro e v6 ⟨a7, n7, c7, rfl, ho7, hb7⟩; have Y6 := Lib.hid (Y5.out.below hb7); have s6 := HS9.out _ Y6.out; have B6 := Lib.hid (BAt.of_own (own_below ho6 hb7)); have B7 := Lib.hid (BAt.of_own ho7); have L6 := Lib.hid (HPT.out _ (own_len ho6)))) | (go_at_call 32; ((with_reducible refine (same_two a6 a7 n6 n7 c6 c7 _ _ _ _ B6.out B7.out L6.out).mono ?_); rintro e w' ⟨rfl, z2, rfl⟩; have Y7 := Lib.hid (Y6.out.drewN z2); have s7 := HS9.out _ Y7.out)) | (go_at_call 17; ((with_reducible refine (cS _ Y7.out.t1 Y7.out.t2).mono ?_); rintro e v8 ⟨rfl, hb8⟩; have Y8 := Lib.hid (Y7.out.below hb8); have s8 := HS9.out _ Y8.out)) | (go_at_call 31; ((with_reducible refine (cOK2 _ Y8.out.p1).mono ?_); rintro e w' ⟨rfl, rfl⟩)) | (go_at_call 37; ((with_reducible refine (leftS_any g1 st2 _ Y8.out.p1).mono ?_); rintro e w' ⟨rfl, rfl⟩)) | (go_at_call 38; ((with_reducible refine (refLeftS_any w.heap.size g2 l st2 _ Y8.out.p2).mono ?_); rintro e w' ⟨rfl, z3, rfl⟩; have Y9 := Lib.hid (Y8.out.drewN z3); have s9 := HS9.out _ Y9.out)))
  go_wp2
  go_ret
  exact ⟨rfl, Y9.out.bel⟩

set_option maxRecDepth 100000 in
set_option maxHeartbeats 2000000 in
theorem bytes8_walk (s q : Int) (a : Option Addr) (n c : Nat) (b : Option Addr) (m d : Nat) (rs : List RdM) (ws : List WrM) (e : Option Addr) (k kc : Nat) (l : List UInt8) (w : World)
    (hX : TxAt w a n b m rs ws) (hl : BAt w w.heap.size e k l) (hkc : k ≤ kc) (hkm : kc ≤ maxLen) (hU : Tabs w) :
    Calls Tryd.prog 5 #[.agg (txV s q a n c b m d), .slice e k kc] w (Says w true) := by
  have H0 := Lib.hid ((Boxs.start w).more (txV s q a n c b m d) 27)
  have cF := fun W (hW : Below w.heap.size w W) => rFewT_any s q a n c b m d rs ws W (hX.later hW)
  obtain ⟨x0, x1, x2, x3⟩ := (H0.out.get 0 _ _ _ rfl).four
  cases hf : fewT rs ws
  · rw [hf] at cF
    clear hf hX hU hl
    go_enter Tryd.func5, Tryd.ntmps5
    go_upto_region 2 with (first | (go_at_call 8; ((with_reducible refine (awake8_any _).mono ?_); rintro e w1 ⟨rfl, hb1⟩; have H1 := Lib.hid (H0.out.below hb1); (clear x0 x1 x2 x3); obtain ⟨x0, x1, x2, x3⟩ := (H1.out.get 0 _ _ _ rfl).four)) | (go_at_call 9; ((with_reducible refine (cF _ H1.out.bel).mono ?_); rintro e w2 ⟨rfl, hb2⟩; have H2 := Lib.hid (H1.out.below hb2))))
    go_wp2_with (go_at_call 8; ((with_reducible refine (awake8_any _).mono ?_); rintro e w9 ⟨rfl, hb9⟩; have H9 := Lib.hid (H2.out.below hb9)))
    go_ret
    exact ⟨rfl, H9.out.bel⟩
  by_cases hk : k ≤ 2000
  · exact bytes8_gen s q a n c b m d rs ws e k kc l w hX hl hkc hkm hU hf hk
  · rw [hf] at cF
    have d2 : decide ((2000 : Int) < (k : Int)) = true := by simp; omega
    unfold maxLen at hkm
    clear hf hX hU hl
    go_enter Tryd.func5, Tryd.ntmps5
    go_upto_region 2 with (first | (go_at_call 8; ((with_reducible refine (awake8_any _).mono ?_); rintro e w1 ⟨rfl, hb1⟩; have H1 := Lib.hid (H0.out.below hb1); (clear x0 x1 x2 x3); obtain ⟨x0, x1, x2, x3⟩ := (H1.out.get 0 _ _ _ rfl).four)) | (go_at_call 9; ((with_reducible refine (cF _ H1.out.bel).mono ?_); rintro e w2 ⟨rfl, hb2⟩; have H2 := Lib.hid (H1.out.below hb2))))
    go_wp2_with (go_at_call 8; ((with_reducible refine (awake8_any _).mono ?_); rintro e w9 ⟨rfl, hb9⟩; have H9 := Lib.hid (H2.out.below hb9)))
    go_ret
    exact ⟨rfl, H9.out.bel⟩
end Go.Proofs.YtlkgpajpblhkeaaDoor
