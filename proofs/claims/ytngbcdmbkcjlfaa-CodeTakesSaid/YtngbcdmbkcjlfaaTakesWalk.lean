/- The walk of the statement CodeTakes. Conditions: the bytes and the list of fields lie in memory and fit their kinds. -/
import Derived.Test.YtngbcdmbkcjlfaaAwake
import Derived.Test.YtngbcdmbkcjlfaaRefReader
import Derived.Deep.RegionHeld3
import Derived.Deep.RegionWith
namespace Go.Proofs.Ytngbcdmbkcjlfaa
open Go.RowKit

/-- A list of fields: n of them, each a bool and a number. -/
def OpsAt (w : World) (B : Nat) (a : Option Addr) (n : Nat) (T : Nat → Bool) (N : Nat → Int) : Prop :=
  n = 0 ∨ ∃ b off, a = some ⟨b, off, none⟩ ∧ b < B ∧ ∀ i, i < n → w.cell? ⟨b, off + i * 2, none⟩ = some (.bool (T i)) ∧ w.cell? ⟨b, off + i * 2 + 1, none⟩ = some (.int .i64 (N i))
theorem OpsAt.below {w w' : World} {B C n : Nat} {a : Option Addr} {T : Nat → Bool} {N : Nat → Int} (h : OpsAt w B a n T N) (hb : Below C w w') (hC : B ≤ C) : OpsAt w' B a n T N := by
  rcases h with h | ⟨b, off, ha, hlt, hc⟩
  · exact .inl h
  · exact .inr ⟨b, off, ha, hlt, fun i hi => by rw [hb.cell (p := ⟨b, _, none⟩) (by show b < C; omega), hb.cell (p := ⟨b, _, none⟩) (by show b < C; omega)]; exact hc i hi⟩

/-- What both readers hold: what is left, and whether they are well. -/
def restOf (L : List UInt8) (k : Nat) (ok : Bool) : List UInt8 := if ok then L.drop k else []
/-- The code's reader in block g1, the document's in g2, over the same bytes. -/
structure Two (w0 w : World) (g1 g2 : Nat) (L : List UInt8) (k : Nat) (ok : Bool) : Prop where
  rd : RdAt w g1 (restOf L k ok) ok
  rf : RefAt w w0.heap.size g2 L k ok
  bel : Below w0.heap.size w0 w
  lo : w0.heap.size ≤ g1
  lt : g1 < g2
  hi : g2 < w.heap.size

theorem RdAt.grown {w w' : World} {g g2 : Nat} {l : List UInt8} {ok : Bool} (h : RdAt w g l ok) (ho : Only g2 w w') (hlt : g < g2) : RdAt w' g l ok := by
  obtain ⟨a, n, c, hh, h1, h2, hl, hf⟩ := h
  have hz := lt_of_heap hh
  exact ⟨a, n, c, by rw [ho.block g hz (by intro e; injection e; omega)]; exact hh, h1, h2, hl.grown ho (by omega) (by omega), hf⟩
theorem RefAt.grown {w w' : World} {B g g1 : Nat} {L : List UInt8} {k : Nat} {ok : Bool} (h : RefAt w B g L k ok) (ho : Only g1 w w') (hne : g1 < g) (hB : B ≤ g1) : RefAt w' B g L k ok := by
  obtain ⟨a, n, c, hh, h1, h2, hl, hk, hBg⟩ := h
  have hz := lt_of_heap hh
  exact ⟨a, n, c, by rw [ho.block g hz (by intro e; injection e; omega)]; exact hh, h1, h2, hl.grown ho (by omega) hB, hk, hBg⟩
theorem RdAt.drewN {w : World} {g : Nat} {l : List UInt8} {ok : Bool} (h : RdAt w g l ok) (q : Nat) : RdAt (w.drewN q) g l ok := h
theorem RefAt.drewN {w : World} {B g : Nat} {L : List UInt8} {k : Nat} {ok : Bool} (h : RefAt w B g L k ok) (q : Nat) : RefAt (w.drewN q) B g L k ok := h
theorem Two.drewN {w0 w : World} {g1 g2 k : Nat} {L : List UInt8} {ok : Bool} (h : Two w0 w g1 g2 L k ok) (q : Nat) : Two w0 (w.drewN q) g1 g2 L k ok := ⟨h.rd, h.rf, below_drewN q h.bel, h.lo, h.lt, h.hi⟩

/-- Half way: the code's reader has gone on. -/
structure Half (w0 w : World) (g1 g2 : Nat) (L l : List UInt8) (k : Nat) (ok ok' : Bool) : Prop where
  rd : RdAt w g1 l ok'
  rf : RefAt w w0.heap.size g2 L k ok
  bel : Below w0.heap.size w0 w
  lo : w0.heap.size ≤ g1
  lt : g1 < g2
  hi : g2 < w.heap.size
theorem Two.half {w0 w w' : World} {g1 g2 k : Nat} {L l : List UInt8} {ok ok' : Bool} (h : Two w0 w g1 g2 L k ok) (hr : RdAt w' g1 l ok') (ho : Only g1 w w') : Half w0 w' g1 g2 L l k ok ok' :=
  ⟨hr, h.rf.grown ho h.lt h.lo, Only.below h.bel ho h.lo (Nat.le_trans h.lo (Nat.le_of_lt (Nat.lt_trans h.lt h.hi))), h.lo, h.lt, Nat.lt_of_lt_of_le h.hi ho.size⟩
theorem Half.two {w0 w w' : World} {g1 g2 k k' : Nat} {L l : List UInt8} {ok ok' : Bool} (h : Half w0 w g1 g2 L l k ok ok') (hr : RefAt w' w0.heap.size g2 L k' ok') (ho : Only g2 w w') (hl : l = restOf L k' ok') : Two w0 w' g1 g2 L k' ok' := by
  subst hl
  exact ⟨h.rd.grown ho h.lt, hr, Only.below h.bel ho (by have := h.lo; have := h.lt; omega) (Nat.le_trans h.lo (Nat.le_of_lt (Nat.lt_trans h.lt h.hi))), h.lo, h.lt, Nat.lt_of_lt_of_le h.hi ho.size⟩

/-- A text of at most m bytes is next. -/
def txtOk (L : List UInt8) (k : Nat) (ok : Bool) (m : Int) : Bool := ok && decide (2 ≤ (L.drop k).length) && decide ((textLen (L.drop k) : Int) ≤ m) && decide (2 + textLen (L.drop k) ≤ (L.drop k).length)
def txtOf (L : List UInt8) (k : Nat) (ok : Bool) (m : Int) : ByteArray := if txtOk L k ok m then ⟨(((L.drop k).drop 2).take (textLen (L.drop k))).toArray⟩ else ⟨#[]⟩
def txtRest (L : List UInt8) (k : Nat) (ok : Bool) (m : Int) : List UInt8 := if txtOk L k ok m then ((L.drop k).drop 2).drop (textLen (L.drop k)) else []
theorem txtOk_iff (L : List UInt8) (k : Nat) (ok : Bool) (m : Int) : txtOk L k ok m = true ↔ ok = true ∧ textOk (L.drop k) m := by
  simp [txtOk, textOk, and_assoc]
/-- A number of n bytes is next. -/
def numOk (L : List UInt8) (k : Nat) (ok : Bool) (n : Int) : Bool := ok && decide (0 ≤ n) && decide (n ≤ 8) && decide (n ≤ (((L.drop k).length : Nat) : Int))
def numOf (L : List UInt8) (k : Nat) (ok : Bool) (n : Int) : Nat := if numOk L k ok n then numB ((L.drop k).take n.toNat) else 0
def numRest (L : List UInt8) (k : Nat) (ok : Bool) (n : Int) : List UInt8 := if numOk L k ok n then (L.drop k).drop n.toNat else []
def TwoSome (w0 : World) (g1 g2 : Nat) (L : List UInt8) (ok : Bool) (w : World) : Prop := ∃ k, Two w0 w g1 g2 L k ok

theorem takeText_two {w0 w : World} {g1 g2 k : Nat} {L : List UInt8} {ok : Bool} (m : Int) (h : Two w0 w g1 g2 L k ok) :
    Calls Try.prog 15 #[.pointer (some ⟨g1, 0, none⟩), .int .i64 m] w fun e w' => e = .returned (.string (txtOf L k ok m)) ∧ Half w0 w' g1 g2 L (txtRest L k ok m) k ok (txtOk L k ok m) := by
  cases hT : txtOk L k ok m
  · have hno : ¬ (ok = true ∧ textOk (restOf L k ok) m) := by
      rintro ⟨rfl, h2⟩
      have : txtOk L k true m = true := (txtOk_iff L k true m).2 ⟨rfl, h2⟩
      rw [hT] at this; cases this
    refine (takeText_no g1 _ ok m _ h.rd hno).mono ?_
    rintro e w' ⟨rfl, hr, ho⟩
    exact ⟨by simp [txtOf, hT], by simp only [txtRest, hT]; exact h.half hr ho⟩
  · obtain ⟨rfl, h2⟩ := (txtOk_iff L k ok m).1 hT
    refine (takeText_yes g1 _ m _ h.rd h2).mono ?_
    rintro e w' ⟨rfl, hr, ho⟩
    exact ⟨by simp only [txtOf, hT]; rfl, by simp only [txtRest, hT]; exact h.half hr ho⟩
theorem refTakeText_two {w0 w : World} {g1 g2 k : Nat} {L : List UInt8} {ok : Bool} (m : Int) (h : Half w0 w g1 g2 L (txtRest L k ok m) k ok (txtOk L k ok m)) :
    Calls Try.prog 16 #[.pointer (some ⟨g2, 0, none⟩), .int .i64 m] w fun e w' => e = .returned (.string (txtOf L k ok m)) ∧ TwoSome w0 g1 g2 L (txtOk L k ok m) w' := by
  cases hT : txtOk L k ok m
  · have hno : ¬ (ok = true ∧ textOk (L.drop k) m) := by
      intro h2
      have := (txtOk_iff L k ok m).2 h2
      rw [hT] at this; cases this
    rw [hT] at h
    refine (refTakeText_no _ g2 L k ok m _ h.rf hno).mono ?_
    rintro e w' ⟨rfl, ⟨k', hr⟩, ho⟩
    exact ⟨by simp [txtOf, hT], k', h.two hr ho (by simp [txtRest, hT, restOf])⟩
  · obtain ⟨rfl, h2⟩ := (txtOk_iff L k ok m).1 hT
    rw [hT] at h
    refine (refTakeText_yes _ g2 L k m _ h.rf h2).mono ?_
    rintro e w' ⟨rfl, hr, ho⟩
    exact ⟨by simp only [txtOf, hT]; rfl, _, h.two hr ho (by simp [txtRest, hT, restOf, List.drop_drop])⟩
theorem take_two {w0 w : World} {g1 g2 k : Nat} {L : List UInt8} {ok : Bool} (n : Int) (h : Two w0 w g1 g2 L k ok) :
    Calls Try.prog 17 #[.pointer (some ⟨g1, 0, none⟩), .int .i64 n] w fun e w' => e = .returned (.int .u64 (numOf L k ok n : Nat)) ∧ Half w0 w' g1 g2 L (numRest L k ok n) k ok (numOk L k ok n) := by
  cases hT : numOk L k ok n
  · have hno : ok = false ∨ n < 0 ∨ 8 < n ∨ (((restOf L k ok).length : Nat) : Int) < n := by
      cases ok
      · exact .inl rfl
      · simp [numOk] at hT
        by_cases h0 : n < 0
        · exact .inr (.inl h0)
        · by_cases h8 : 8 < n
          · exact .inr (.inr (.inl h8))
          · exact .inr (.inr (.inr (by have := hT (by omega) (by omega); simp [restOf]; omega)))
    refine (take_no g1 _ ok n _ h.rd hno).mono ?_
    rintro e w' ⟨rfl, hr, ho⟩
    exact ⟨by simp [numOf, hT], by simp only [numRest, hT]; exact h.half hr ho⟩
  · have h2 : ok = true ∧ 0 ≤ n ∧ n ≤ 8 ∧ n ≤ (((L.drop k).length : Nat) : Int) := by
      simpa [numOk, and_assoc] using hT
    obtain ⟨rfl, h0, h8, hl⟩ := h2
    obtain ⟨t, rfl⟩ := Int.eq_ofNat_of_zero_le h0
    refine (take_yes g1 (restOf L k true) t _ h.rd (by show t ≤ (L.drop k).length; omega) (by omega)).mono ?_
    rintro e w' ⟨rfl, hr, ho⟩
    exact ⟨by simp only [numOf, hT]; rfl, by simp only [numRest, hT]; exact h.half hr ho⟩
theorem refTake_two {w0 w : World} {g1 g2 k : Nat} {L : List UInt8} {ok : Bool} (n : Int) (h : Half w0 w g1 g2 L (numRest L k ok n) k ok (numOk L k ok n)) :
    Calls Try.prog 18 #[.pointer (some ⟨g2, 0, none⟩), .int .i64 n] w fun e w' => e = .returned (.int .u64 (numOf L k ok n : Nat)) ∧ TwoSome w0 g1 g2 L (numOk L k ok n) w' := by
  cases hT : numOk L k ok n
  · have hno : ok = false ∨ n < 0 ∨ 8 < n ∨ (((L.drop k).length : Nat) : Int) < n := by
      cases ok
      · exact .inl rfl
      · simp [numOk] at hT
        by_cases h0 : n < 0
        · exact .inr (.inl h0)
        · by_cases h8 : 8 < n
          · exact .inr (.inr (.inl h8))
          · exact .inr (.inr (.inr (by have := hT (by omega) (by omega); simp; omega)))
    rw [hT] at h
    refine (refTake_no _ g2 L k ok n _ h.rf hno).mono ?_
    rintro e w' ⟨rfl, hr, ho⟩
    exact ⟨by simp [numOf, hT], k, h.two hr ho (by simp [numRest, hT, restOf])⟩
  · have h2 : ok = true ∧ 0 ≤ n ∧ n ≤ 8 ∧ n ≤ (((L.drop k).length : Nat) : Int) := by
      simpa [numOk, and_assoc] using hT
    obtain ⟨rfl, h0, h8, hl⟩ := h2
    obtain ⟨t, rfl⟩ := Int.eq_ofNat_of_zero_le h0
    rw [hT] at h
    refine (refTake_yes _ g2 L k t _ h.rf (by omega) (by omega)).mono ?_
    rintro e w' ⟨rfl, hr, ho⟩
    exact ⟨by simp only [numOf, hT]; rfl, _, h.two hr ho (by simp [numRest, hT, restOf, List.drop_drop])⟩

/-- How many bytes are left; whether it is the end. -/
def leftN (L : List UInt8) (k : Nat) (ok : Bool) : Nat := (restOf L k ok).length
def endB (L : List UInt8) (k : Nat) (ok : Bool) : Bool := ok && (restOf L k ok).isEmpty
theorem quiet_same {P : Program} {f : FuncId} {args : Array Value} {w : World} {n : Nat} {v : Value}
    (h : Calls P f args (w.drewN n) fun e w' => e = .returned v ∧ w.drewN n = w') : Calls P f args (w.drewN n) fun e w'' => e = .returned v ∧ ∃ m, w'' = w.drewN m :=
  h.mono fun _ _ ⟨he, hm⟩ => ⟨he, n, hm.symm⟩
theorem quiet_reads {P : Program} {f : FuncId} {args : Array Value} {w : World} {n : Nat} {v : Value}
    (h : Calls P f args (w.drewN n) (Reads1 (w.drewN n) v)) : Calls P f args (w.drewN n) fun e w'' => e = .returned v ∧ ∃ m, w'' = w.drewN m :=
  h.mono fun _ _ ⟨he, k, hk⟩ => ⟨he, n + k, by rw [hk, World.drewN_drewN]⟩
theorem refLeft_two {w0 w : World} {g1 g2 k : Nat} {L : List UInt8} {ok : Bool} (q : Nat) (h : Two w0 w g1 g2 L k ok) : Calls Try.prog 20 #[.pointer (some ⟨g2, 0, none⟩)] (w.drewN q) (Reads1 (w.drewN q) (.int .i64 (leftN L k ok : Nat))) := by
  have := refLeft_any _ g2 L k ok _ (h.rf.drewN q)
  have e : leftN L k ok = if ok then L.length - k else 0 := by cases ok <;> simp [leftN, restOf]
  rw [e]; exact this
theorem refEnd_two {w0 w : World} {g1 g2 k : Nat} {L : List UInt8} {ok : Bool} (q : Nat) (h : Two w0 w g1 g2 L k ok) : Calls Try.prog 23 #[.pointer (some ⟨g2, 0, none⟩)] (w.drewN q) (Reads1 (w.drewN q) (.bool (endB L k ok))) := by
  have := refEnd_any _ g2 L k ok _ (h.rf.drewN q)
  have e : endB L k ok = (ok && (L.drop k).isEmpty) := by cases ok <;> simp [endB, restOf]
  rw [e]; exact this
theorem left_two {w0 w : World} {g1 g2 k : Nat} {L : List UInt8} {ok : Bool} (q : Nat) (h : Two w0 w g1 g2 L k ok) : Calls Try.prog 19 #[.pointer (some ⟨g1, 0, none⟩)] (w.drewN q) fun e w' => e = .returned (.int .i64 (leftN L k ok : Nat)) ∧ w.drewN q = w' := left_any g1 _ ok _ (h.rd.drewN q)
theorem ok_two {w0 w : World} {g1 g2 k : Nat} {L : List UInt8} {ok : Bool} (q : Nat) (h : Two w0 w g1 g2 L k ok) : Calls Try.prog 21 #[.pointer (some ⟨g1, 0, none⟩)] (w.drewN q) fun e w' => e = .returned (.bool ok) ∧ w.drewN q = w' := ok_any g1 _ ok _ (h.rd.drewN q)
theorem end_two {w0 w : World} {g1 g2 k : Nat} {L : List UInt8} {ok : Bool} (q : Nat) (h : Two w0 w g1 g2 L k ok) : Calls Try.prog 22 #[.pointer (some ⟨g1, 0, none⟩)] (w.drewN q) fun e w' => e = .returned (.bool (endB L k ok)) ∧ w.drewN q = w' := end_any g1 _ ok _ (h.rd.drewN q)
theorem fail_two {w0 w : World} {g1 g2 k : Nat} {L : List UInt8} {ok : Bool} (h : Two w0 w g1 g2 L k ok) : w.cell? ⟨g2, 2, none⟩ = some (.bool (!ok)) := by
  obtain ⟨a, n, c, hh, _⟩ := h.rf
  exact (ref_cells hh).2.2.1
theorem RdAt.alloc {w : World} {g : Nat} {l : List UInt8} {ok : Bool} (h : RdAt w g l ok) (o : Obj) : RdAt (w.alloc o) g l ok := by
  obtain ⟨a, n, c, hh, h1, h2, hl, hf⟩ := h
  have hz := lt_of_heap hh
  exact ⟨a, n, c, by rw [Below.heap_alloc w o g hz]; exact hh, h1, h2, hl.alloc (by omega) o, hf⟩

set_option maxHeartbeats 2000000 in
theorem takes_walk (a a2 : Option Addr) (m c n c2 : Nat) (L : List UInt8) (T : Nat → Bool) (N : Nat → Int) (w : World) (hl : BAt w w.heap.size a m L) (hmc : m ≤ c) (hcm : c ≤ maxLen) (hops : OpsAt w w.heap.size a2 n T N) (hn : n ≤ maxLen) :
    Calls Try.prog 4 #[.slice a m c, .slice a2 n c2] w fun e w' => e = .returned (.bool true) ∧ Below w.heap.size w w' := by
  unfold maxLen at hn
  by_cases h1 : m ≤ 1000 ∧ n ≤ 50
  · obtain ⟨hm, hz⟩ := h1
    have hd1 : decide ((1000 : Int) < (m : Int)) = false := by simp; omega
    have hd2 : decide ((50 : Int) < (n : Int)) = false := by simp; omega
    go_enter Try.func4, Try.ntmps4
    go_wp2_with (first | (go_at_call 8; ((with_reducible refine (awake_any _).mono ?_); rintro e w1 ⟨rfl, hb1⟩)) | (go_at_call 14; ((with_reducible refine (new_any _ _ _ L _ ((hl.below hb1 (Nat.le_refl _)).more hb1.size) (by omega)).mono ?_); rintro e w2 ⟨g, rfl, hr, hg1, hg2, hb2⟩; have hB2 := hb1.trans (hb2.mono hb1.size); have hgw : w.heap.size ≤ g := Nat.le_trans hb1.size hg1; clear hb1 hb2 hg1)))
    have h0 : Two w (w2.alloc (.cells #[.slice a m c, .int .i64 0, .bool false] 35)) g w2.heap.size L 0 true :=
      ⟨hr.alloc _, ⟨a, m, c, heap_alloc_new _ _, hmc, hcm, (hl.below hB2 (Nat.le_refl _)).alloc hB2.size _, Nat.zero_le _, hB2.size⟩, hB2.alloc hB2.size _, hgw, hg2, by simp⟩
    generalize w2.heap.size = g2 at h0 ⊢
    generalize w2.alloc (.cells #[.slice a m c, .int .i64 0, .bool false] 35) = w3 at h0 ⊢
    clear hr hg2 hB2 hgw hmc hcm hl hd1 hd2
    go_loopw [7] (fun i wr => ∃ (j k : Nat) (ok : Bool), j ≤ n ∧ i = .int .i64 j ∧ Two w wr g g2 L k ok) (fun i _ => n - (intOf i).toNat)
    case atStart => exact ⟨0, 0, true, by omega, rfl, h0⟩
    case round =>
      obtain ⟨j, k, ok, hj, rfl, hM⟩ := hrel
      clear h0
      by_cases hlt : j < n
      · rcases hops with h | ⟨b, off, rfl, hbl, hcell⟩
        · omega
        obtain ⟨ct0, cn0⟩ := hcell j hlt
        clear hcell
        generalize N j = x at *
        have ct : wr.cell? ⟨b, off + j * 2, none⟩ = some (.bool (T j)) := (hM.bel.cell (p := ⟨b, _, none⟩) hbl).trans ct0
        have cn : wr.cell? ⟨b, off + j * 2 + 1, none⟩ = some (.int .i64 x) := (hM.bel.cell (p := ⟨b, _, none⟩) hbl).trans cn0
        have HC := Lib.hid cn0
        clear ct0 cn0
        have hji : (j : Int) < (n : Int) := by omega
        cases hTj : T j
        · rw [hTj] at ct
          clear hTj
          go_upto_region 10 with (fail)
          go_region_held3 (fun w' => w'.cell? ⟨b, off + j * 2 + 1, none⟩ = some (.int .i64 x)) (first | exact cn | exact d1 | exact d2) (first | (go_at_call 17; ((with_reducible refine (take_two (w0 := w) (g2 := g2) (L := L) (k := k) (ok := ok) x ?_).mono ?_); (exact hM.drewN 1); rintro e w1 ⟨rfl, hH⟩; have d1 : w1.cell? ⟨b, off + j * 2 + 1, none⟩ = some (.int .i64 x) := (hH.bel.cell (p := ⟨b, _, none⟩) hbl).trans HC.out)) | (go_at_call 18; ((with_reducible refine (refTake_two x hH).mono ?_); rintro e w2 ⟨rfl, k2, hM2⟩; have d2 : w2.cell? ⟨b, off + j * 2 + 1, none⟩ = some (.int .i64 x) := (hM2.bel.cell (p := ⟨b, _, none⟩) hbl).trans HC.out)))
          clear HC cn d1 d2 hH
          generalize numOk L k ok x = ok2 at hM2
          have cf := fail_two hM2
          go_upto_region 12 with (fail)
          cases ok2
          all_goals
            go_quiet ((first | (go_at_call 19; exact quiet_same (left_two _ hM2)) | (go_at_call 20; exact quiet_reads (refLeft_two _ hM2)) | (go_at_call 21; exact quiet_same (ok_two _ hM2)) | (go_at_call 22; exact quiet_same (end_two _ hM2)) | (go_at_call 23; exact quiet_reads (refEnd_two _ hM2))))
            go_wp2
            go_roundw
            case rel => exact ⟨j + 1, k2, _, by omega, by go_num, hM2.drewN _⟩
            case measure => simp [intOf]; omega
        · rw [hTj] at ct
          clear hTj
          go_upto_region 8 with (fail)
          go_region_held3 (fun w' => w'.cell? ⟨b, off + j * 2 + 1, none⟩ = some (.int .i64 x)) (first | exact cn | exact d1 | exact d2) (first | (go_at_call 15; ((with_reducible refine (takeText_two (w0 := w) (g2 := g2) (L := L) (k := k) (ok := ok) x ?_).mono ?_); (exact hM.drewN 1); rintro e w1 ⟨rfl, hH⟩; have d1 : w1.cell? ⟨b, off + j * 2 + 1, none⟩ = some (.int .i64 x) := (hH.bel.cell (p := ⟨b, _, none⟩) hbl).trans HC.out)) | (go_at_call 16; ((with_reducible refine (refTakeText_two x hH).mono ?_); rintro e w2 ⟨rfl, k2, hM2⟩; have d2 : w2.cell? ⟨b, off + j * 2 + 1, none⟩ = some (.int .i64 x) := (hM2.bel.cell (p := ⟨b, _, none⟩) hbl).trans HC.out)))
          clear HC cn d1 d2 hH
          generalize txtOk L k ok x = ok2 at hM2
          have cf := fail_two hM2
          go_upto_region 12 with (fail)
          cases ok2
          all_goals
            go_quiet ((first | (go_at_call 19; exact quiet_same (left_two _ hM2)) | (go_at_call 20; exact quiet_reads (refLeft_two _ hM2)) | (go_at_call 21; exact quiet_same (ok_two _ hM2)) | (go_at_call 22; exact quiet_same (end_two _ hM2)) | (go_at_call 23; exact quiet_reads (refEnd_two _ hM2))))
            go_wp2
            go_roundw
            case rel => exact ⟨j + 1, k2, _, by omega, by go_num, hM2.drewN _⟩
            case measure => simp [intOf]; omega
      · have hB := hM.bel
        clear hM hops
        go_wp2
        go_ret
        exact ⟨rfl, hB⟩
  · by_cases hm : m ≤ 1000
    · have hz : ¬ n ≤ 50 := fun h => h1 ⟨hm, h⟩
      have hd1 : decide ((1000 : Int) < (m : Int)) = false := by simp; omega
      have hd2 : decide ((50 : Int) < (n : Int)) = true := by simp; omega
      go_enter Try.func4, Try.ntmps4
      go_upto_region 2 with (go_at_call 8; ((with_reducible refine (awake_any _).mono ?_); rintro e w1 ⟨rfl, hb1⟩))
      go_wp2_with (go_at_call 8; ((with_reducible refine (awake_any _).mono ?_); rintro e w2 ⟨rfl, hb2⟩))
      go_ret
      exact ⟨rfl, hb1.trans (hb2.mono hb1.size)⟩
    · have hd1 : decide ((1000 : Int) < (m : Int)) = true := by simp; omega
      go_enter Try.func4, Try.ntmps4
      go_upto_region 2 with (go_at_call 8; ((with_reducible refine (awake_any _).mono ?_); rintro e w1 ⟨rfl, hb1⟩))
      go_wp2_with (go_at_call 8; ((with_reducible refine (awake_any _).mono ?_); rintro e w2 ⟨rfl, hb2⟩))
      go_ret
      exact ⟨rfl, hb1.trans (hb2.mono hb1.size)⟩
end Go.Proofs.Ytngbcdmbkcjlfaa
