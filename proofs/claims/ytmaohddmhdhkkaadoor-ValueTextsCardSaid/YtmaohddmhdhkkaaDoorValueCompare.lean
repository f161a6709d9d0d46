/- Contract of the document's own Compare. Conditions: the values' numbers and texts fit their kinds. -/
import Derived.Test.YtmaohddmhdhkkaaDoorValueFormed

import Derived.Test.YtmaohddmhdhkkaaDoorNumOrd

import Derived.Laws.StructEq

namespace Go.Proofs.YtmaohddmhdhkkaaDoor

open Go.RowKit

/-- The order of two formed values that are not the same. -/
def ordV (a b : Val) : Int := if a.k < b.k then -1 else if b.k < a.k then 1 else if a.k = 1 then orderF a.b b.b else if Op.bytesLess a.t b.t then -1 else 1
def cmpV (a b : Val) : Int := if formedB a && formedB b && decide (a ≠ b) then ordV a b else 0
theorem cmpV_bad1 {a b : Val} (h : formedB a = false) : cmpV a b = 0 := by simp [cmpV, h]
theorem cmpV_bad2 {a b : Val} (h : formedB b = false) : cmpV a b = 0 := by simp [cmpV, h]
theorem cmpV_same (a : Val) : cmpV a a = 0 := by simp [cmpV]
theorem cmpV_ord {a b : Val} (h : formedB a = true) (h' : formedB b = true) (hn : a ≠ b) : cmpV a b = ordV a b := by simp [cmpV, h, h', hn]

theorem two_boxes (w : World) (x y z x' y' z' : Value) (t : TypeId) :
    Below w.heap.size w ((w.alloc (.cells #[x, y, z] t)).alloc (.cells #[x', y', z'] t)) := ((Below.refl _ _).alloc (Nat.le_refl _) _).alloc (by simp) _

/-- Two values in boxes of their own: they lie there later on. -/
def Boxes (w w1 : World) (x y z x' y' z' : Value) : Prop :=
  (w1.cell? ⟨w.heap.size, 0, none⟩ = some x ∧ w1.cell? ⟨w.heap.size, 1, none⟩ = some y ∧ w1.cell? ⟨w.heap.size, 2, none⟩ = some z) ∧
  (w1.cell? ⟨w.heap.size + 1, 0, none⟩ = some x' ∧ w1.cell? ⟨w.heap.size + 1, 1, none⟩ = some y' ∧ w1.cell? ⟨w.heap.size + 1, 2, none⟩ = some z') ∧ Below w.heap.size w w1 ∧ w.heap.size + 2 ≤ w1.heap.size
theorem boxes_new (w : World) (x y z x' y' z' : Value) (t : TypeId) : Boxes w ((w.alloc (.cells #[x, y, z] t)).alloc (.cells #[x', y', z'] t)) x y z x' y' z' := by
  obtain ⟨a1, a2, a3⟩ := box3 w x y z t
  obtain ⟨b1, b2, b3⟩ := box3 (w.alloc (.cells #[x, y, z] t)) x' y' z' t
  have hs : (w.alloc (.cells #[x, y, z] t)).heap.size = w.heap.size + 1 := by simp
  rw [hs] at b1 b2 b3
  refine ⟨⟨?_, ?_, ?_⟩, ⟨b1, b2, b3⟩, two_boxes w x y z x' y' z' t, by simp⟩
  · rw [World.cell?_alloc_lt _ _ _ (by simp)]; exact a1
  · rw [World.cell?_alloc_lt _ _ _ (by simp)]; exact a2
  · rw [World.cell?_alloc_lt _ _ _ (by simp)]; exact a3
theorem Boxes.below {w w1 w2 : World} {x y z x' y' z' : Value} (h : Boxes w w1 x y z x' y' z') (hb : Below w1.heap.size w1 w2) : Boxes w w2 x y z x' y' z' := by
  obtain ⟨⟨a1, a2, a3⟩, ⟨b1, b2, b3⟩, hB, hs⟩ := h
  have h1 : ∀ o, w2.cell? ⟨w.heap.size, o, none⟩ = w1.cell? ⟨w.heap.size, o, none⟩ := fun o => hb.cell (p := ⟨w.heap.size, o, none⟩) (by show w.heap.size < _; omega)
  have h2 : ∀ o, w2.cell? ⟨w.heap.size + 1, o, none⟩ = w1.cell? ⟨w.heap.size + 1, o, none⟩ := fun o => hb.cell (p := ⟨w.heap.size + 1, o, none⟩) (by show w.heap.size + 1 < _; omega)
  exact ⟨⟨(h1 _).trans a1, (h1 _).trans a2, (h1 _).trans a3⟩, ⟨(h2 _).trans b1, (h2 _).trans b2, (h2 _).trans b3⟩, hB.trans (hb.mono hB.size), Nat.le_trans hs hb.size⟩

theorem Boxes.drewN {w w1 : World} {x y z x' y' z' : Value} (k : Nat) (h : Boxes w w1 x y z x' y' z') : Boxes w (w1.drewN k) x y z x' y' z' := ⟨h.1, h.2.1, below_drewN k h.2.2.1, h.2.2.2⟩
theorem Boxes.bel {w w1 : World} {x y z x' y' z' : Value} (h : Boxes w w1 x y z x' y' z') : Below w.heap.size w w1 := h.2.2.1
theorem Boxes.six {w w1 : World} {x y z x' y' z' : Value} (h : Boxes w w1 x y z x' y' z') :
    w1.cell? ⟨w.heap.size, 0, none⟩ = some x ∧ w1.cell? ⟨w.heap.size, 1, none⟩ = some y ∧ w1.cell? ⟨w.heap.size, 2, none⟩ = some z ∧ w1.cell? ⟨w.heap.size + 1, 0, none⟩ = some x' ∧ w1.cell? ⟨w.heap.size + 1, 1, none⟩ = some y' ∧ w1.cell? ⟨w.heap.size + 1, 2, none⟩ = some z' :=
  ⟨h.1.1, h.1.2.1, h.1.2.2, h.2.1.1, h.2.1.2.1, h.2.1.2.2⟩

set_option maxHeartbeats 1000000 in
theorem refCompare_bad1 (k k' : Int) (b b' : Nat) (t t' : ByteArray) (w : World) (hb : b < 18446744073709551616) (ht : t.size ≤ maxLen) (hf : formedB ⟨k, b, t.data.toList⟩ = false) :
    Calls Tryd.prog 15 #[.agg #[.int .i64 k, .int .u64 b, .string t], .agg #[.int .i64 k', .int .u64 b', .string t']] w fun e w' => e = .returned (.int .i64 0) ∧ Below w.heap.size w w' := by
  have c1 := fun W => refFormed_any k b t W hb ht
  rw [hf] at c1
  clear hf
  go_enter Tryd.func15, Tryd.ntmps15
  go_wp2_with (go_at_call 11; ((with_reducible refine (c1 _).mono ?_); rintro e w1 ⟨rfl, hb1⟩))
  go_ret
  have hB := two_boxes w (.int .i64 k) (.int .u64 b) (.string t) (.int .i64 k') (.int .u64 b') (.string t') 24
  exact ⟨rfl, hB.trans (hb1.mono hB.size)⟩
set_option maxHeartbeats 1000000 in
theorem refCompare_bad2 (k k' : Int) (b b' : Nat) (t t' : ByteArray) (w : World) (hb : b < 18446744073709551616) (ht : t.size ≤ maxLen) (hb' : b' < 18446744073709551616) (ht' : t'.size ≤ maxLen) (hf : formedB ⟨k, b, t.data.toList⟩ = true) (hf' : formedB ⟨k', b', t'.data.toList⟩ = false) :
    Calls Tryd.prog 15 #[.agg #[.int .i64 k, .int .u64 b, .string t], .agg #[.int .i64 k', .int .u64 b', .string t']] w fun e w' => e = .returned (.int .i64 0) ∧ Below w.heap.size w w' := by
  have c1 := fun W => refFormed_any k b t W hb ht
  have c2 := fun W => refFormed_any k' b' t' W hb' ht'
  rw [hf] at c1
  rw [hf'] at c2
  clear hf hf'
  go_enter Tryd.func15, Tryd.ntmps15
  go_wp2_with (first | (go_at_call 11; ((with_reducible refine (c1 _).mono ?_); rintro e w1 ⟨rfl, hb1⟩; obtain ⟨⟨a1, a2, a3⟩, ⟨b1, b2, b3⟩, hB1, _⟩ := (boxes_new w _ _ _ _ _ _ _).below hb1)) | (go_at_call 11; ((with_reducible refine (c2 _).mono ?_); rintro e w2 ⟨rfl, hb2⟩)))
  go_ret
  exact ⟨rfl, hB1.trans (hb2.mono hB1.size)⟩

set_option maxHeartbeats 1000000 in
theorem refCompare_same (k : Int) (b : Nat) (t : ByteArray) (w : World) (hb : b < 18446744073709551616) (ht : t.size ≤ maxLen) (hf : formedB ⟨k, b, t.data.toList⟩ = true) :
    Calls Tryd.prog 15 #[.agg #[.int .i64 k, .int .u64 b, .string t], .agg #[.int .i64 k, .int .u64 b, .string t]] w fun e w' => e = .returned (.int .i64 0) ∧ Below w.heap.size w w' := by
  have c1 := fun W => refFormed_any k b t W hb ht
  have c2 := c1
  rw [hf] at c1 c2
  clear hf
  go_enter Tryd.func15, Tryd.ntmps15
  go_wp2_with (first | (go_at_call 11; ((with_reducible refine (c1 _).mono ?_); rintro e w1 ⟨rfl, hb1⟩; have X1 := (boxes_new w _ _ _ _ _ _ _).below hb1; have HX := Lib.hid X1; obtain ⟨⟨a1, a2, a3⟩, ⟨b1, b2, b3⟩, _, _⟩ := X1)) | (go_at_call 11; ((with_reducible refine (c2 _).mono ?_); rintro e w2 ⟨rfl, hb2⟩; clear a1 a2 a3 b1 b2 b3; obtain ⟨⟨a1, a2, a3⟩, ⟨b1, b2, b3⟩, hB2, _⟩ := HX.out.below hb2)))
  go_ret
  exact ⟨rfl, hB2⟩

set_option maxHeartbeats 2000000 in
theorem refCompare_ord (k k' : Int) (b b' : Nat) (t t' : ByteArray) (w : World) (hb : b < 18446744073709551616) (ht : t.size ≤ maxLen) (hb' : b' < 18446744073709551616) (ht' : t'.size ≤ maxLen) (hf : formedB ⟨k, b, t.data.toList⟩ = true) (hf' : formedB ⟨k', b', t'.data.toList⟩ = true)
    (hn : ¬ (k = k' ∧ b = b' ∧ t.data.toList = t'.data.toList)) :
    Calls Tryd.prog 15 #[.agg #[.int .i64 k, .int .u64 b, .string t], .agg #[.int .i64 k', .int .u64 b', .string t']] w fun e w' => e = .returned (.int .i64 (ordV ⟨k, b, t.data.toList⟩ ⟨k', b', t'.data.toList⟩)) ∧ Below w.heap.size w w' := by
  have c1 := fun W => refFormed_any k b t W hb ht
  have c2 := fun W => refFormed_any k' b' t' W hb' ht'
  rw [hf] at c1
  rw [hf'] at c2
  clear hf hf'
  rw [← ByteArray.toList_eq, ← ByteArray.toList_eq] at hn ⊢
  by_cases h1 : k < k'
  · have q : (k == k') = false := by simp; omega
    have R : Hid (ordV ⟨k, b, t.toList⟩ ⟨k', b', t'.toList⟩ = -1) := by show ordV _ _ = _; unfold ordV; rw [if_pos h1]
    clear hn
    go_enter Tryd.func15, Tryd.ntmps15
    go_wp2_with (first | (go_at_call 11; ((with_reducible refine (c1 _).mono ?_); rintro e w1 ⟨rfl, hb1⟩; have X1 := (boxes_new w _ _ _ _ _ _ _).below hb1; have HX := Lib.hid X1; obtain ⟨⟨a1, a2, a3⟩, ⟨b1, b2, b3⟩, _, _⟩ := X1)) | (go_at_call 11; ((with_reducible refine (c2 _).mono ?_); rintro e w2 ⟨rfl, hb2⟩; clear a1 a2 a3 b1 b2 b3; obtain ⟨⟨a1, a2, a3⟩, ⟨b1, b2, b3⟩, hB2, _⟩ := HX.out.below hb2)))
    go_ret
    exact ⟨by rw [R.out]; rfl, hB2⟩
  · by_cases h2 : k' < k
    · have q : (k == k') = false := by simp; omega
      have R : Hid (ordV ⟨k, b, t.toList⟩ ⟨k', b', t'.toList⟩ = 1) := by show ordV _ _ = _; unfold ordV; rw [if_neg h1, if_pos h2]
      clear hn
      go_enter Tryd.func15, Tryd.ntmps15
      go_wp2_with (first | (go_at_call 11; ((with_reducible refine (c1 _).mono ?_); rintro e w1 ⟨rfl, hb1⟩; have X1 := (boxes_new w _ _ _ _ _ _ _).below hb1; have HX := Lib.hid X1; obtain ⟨⟨a1, a2, a3⟩, ⟨b1, b2, b3⟩, _, _⟩ := X1)) | (go_at_call 11; ((with_reducible refine (c2 _).mono ?_); rintro e w2 ⟨rfl, hb2⟩; clear a1 a2 a3 b1 b2 b3; obtain ⟨⟨a1, a2, a3⟩, ⟨b1, b2, b3⟩, hB2, _⟩ := HX.out.below hb2)))
      go_ret
      exact ⟨by rw [R.out]; rfl, hB2⟩
    · obtain rfl : k = k' := by omega
      clear h1 h2
      have hq : ((b : Int) == (b' : Int)) = false ∨ (b = b' ∧ (t.toList == t'.toList) = false) := by
        by_cases e : b = b'
        · right; refine ⟨e, ?_⟩
          rw [beq_eq_false_iff_ne]; intro e2; exact hn ⟨rfl, e, e2⟩
        · left; simp; omega
      by_cases k1 : k = 1
      · subst k1
        have R : Hid (ordV ⟨1, b, t.toList⟩ ⟨1, b', t'.toList⟩ = orderF b b') := by show ordV _ _ = _; unfold ordV; simp
        have cO := fun W => orderRef_any b b' hb hb' W
        generalize orderF b b' = o at *
        rcases hq with hq | ⟨rfl, hq⟩
        all_goals
          clear hn
          go_enter Tryd.func15, Tryd.ntmps15
          go_wp2_with (first | (go_at_call 11; ((with_reducible refine (c1 _).mono ?_); rintro e w1 ⟨rfl, hb1⟩; have X1 := (boxes_new w _ _ _ _ _ _ _).below hb1; have HX := Lib.hid X1; obtain ⟨⟨a1, a2, a3⟩, ⟨b1, b2, b3⟩, _, _⟩ := X1)) | (go_at_call 11; ((with_reducible refine (c2 _).mono ?_); rintro e w2 ⟨rfl, hb2⟩; clear a1 a2 a3 b1 b2 b3; obtain ⟨⟨a1, a2, a3⟩, ⟨b1, b2, b3⟩, hB2, _⟩ := HX.out.below hb2)) | (go_at_call 40; ((with_reducible refine (cO _).mono ?_); rintro e w' ⟨rfl, rfl⟩)))
          go_ret
          exact ⟨by rw [R.out]; rfl, hB2⟩
      · have q1 : (k == 1) = false := by simp; omega
        have R : Hid (ordV ⟨k, b, t.toList⟩ ⟨k, b', t'.toList⟩ = if Op.bytesLess t.toList t'.toList then -1 else 1) := by show ordV _ _ = _; unfold ordV; simp [k1]
        cases hL : Op.bytesLess t.toList t'.toList
        all_goals
          rw [hL] at R
          rcases hq with hq | ⟨rfl, hq⟩
          all_goals
            clear hn
            go_enter Tryd.func15, Tryd.ntmps15
            go_wp2_with (first | (go_at_call 11; ((with_reducible refine (c1 _).mono ?_); rintro e w1 ⟨rfl, hb1⟩; have X1 := (boxes_new w _ _ _ _ _ _ _).below hb1; have HX := Lib.hid X1; obtain ⟨⟨a1, a2, a3⟩, ⟨b1, b2, b3⟩, _, _⟩ := X1)) | (go_at_call 11; ((with_reducible refine (c2 _).mono ?_); rintro e w2 ⟨rfl, hb2⟩; clear a1 a2 a3 b1 b2 b3; obtain ⟨⟨a1, a2, a3⟩, ⟨b1, b2, b3⟩, hB2, _⟩ := HX.out.below hb2)))
            go_ret
            exact ⟨by rw [R.out]; rfl, hB2⟩

theorem refCompare_any (k k' : Int) (b b' : Nat) (t t' : ByteArray) (w : World) (hb : b < 18446744073709551616) (ht : t.size ≤ maxLen) (hb' : b' < 18446744073709551616) (ht' : t'.size ≤ maxLen) :
    Calls Tryd.prog 15 #[.agg #[.int .i64 k, .int .u64 b, .string t], .agg #[.int .i64 k', .int .u64 b', .string t']] w fun e w' => e = .returned (.int .i64 (cmpV ⟨k, b, t.data.toList⟩ ⟨k', b', t'.data.toList⟩)) ∧ Below w.heap.size w w' := by
  cases hf : formedB ⟨k, b, t.data.toList⟩
  · rw [cmpV_bad1 hf]; exact refCompare_bad1 k k' b b' t t' w hb ht hf
  · cases hf' : formedB ⟨k', b', t'.data.toList⟩
    · rw [cmpV_bad2 hf']; exact refCompare_bad2 k k' b b' t t' w hb ht hb' ht' hf hf'
    · by_cases hn : k = k' ∧ b = b' ∧ t.data.toList = t'.data.toList
      · obtain ⟨rfl, rfl, e⟩ := hn
        obtain rfl : t = t' := WideShapes.bytes_inj e
        rw [cmpV_same]; exact refCompare_same k b t w hb ht hf
      · rw [cmpV_ord hf hf' (fun e => hn (by injection e with e1 e2 e3; exact ⟨e1, e2, e3⟩))]
        exact refCompare_ord k k' b b' t t' w hb ht hb' ht' hf hf' hn
end Go.Proofs.YtmaohddmhdhkkaaDoor
