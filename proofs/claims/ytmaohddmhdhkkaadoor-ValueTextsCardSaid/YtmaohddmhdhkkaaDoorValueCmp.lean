/- Contract of the program's Compare. Conditions: the values' numbers and texts fit their kinds; utf8's tables hold what they hold. -/
import Derived.Test.YtmaohddmhdhkkaaDoorValueProg
import Derived.Test.YtmaohddmhdhkkaaDoorShelf
import Derived.Test.YtmaohddmhdhkkaaDoorValuePut
namespace Go.Proofs.YtmaohddmhdhkkaaDoor
open Go.RowKit

theorem cmpB_less (a b : List UInt8) : Lib.compareBytes a b = if Op.bytesLess a b then -1 else if a = b then 0 else 1 := by
  induction a generalizing b with
  | nil =>
    cases b with
    | nil => rfl
    | cons y b => rfl
  | cons x a ih =>
    cases b with
    | nil => rfl
    | cons y b =>
      rw [Lib.compareBytes, Op.bytesLess]
      by_cases h1 : x < y
      · simp [h1]
      · rw [if_neg h1]
        by_cases h2 : y < x
        · have hne : x ≠ y := fun e => by subst e; exact h1 h2
          rw [if_pos h2]
          simp [h1, hne]
        · have e : x = y := by
            have h3 : ¬ x.toNat < y.toNat := h1
            have h4 : ¬ y.toNat < x.toNat := h2
            exact UInt8.toNat_inj.1 (by omega)
          subst e
          rw [if_neg h2, ih b]
          simp [h1]

theorem cmpI_any (x y : Int) (w : World) : Calls Tryd.prog 37 #[.int .i64 x, .int .i64 y] w fun e w' => e = .returned (.int .i64 (Lib.compareInt x y)) ∧ w' = w := Any.cmp_Compare_int Tryd.lays122 x y w
theorem cmpS_any (a b : ByteArray) (w : World) : Calls Tryd.prog 39 #[.string a, .string b] w fun e w' => e = .returned (.int .i64 (Lib.compareBytes a.data.toList b.data.toList)) ∧ w' = w := Any.strings_Compare Tryd.lays106 a b w

set_option maxHeartbeats 1000000 in
theorem compare_bad1 (k k' : Int) (b b' : Nat) (t t' : ByteArray) (w : World) (hb : b < 18446744073709551616) (ht : t.size ≤ maxLen) (hT : Tabs w) (hf : formedB ⟨k, b, t.data.toList⟩ = false) :
    Calls Tryd.prog 14 #[.agg #[.int .i64 k, .int .u64 b, .string t], .agg #[.int .i64 k', .int .u64 b', .string t']] w fun e w' => e = .returned (.int .i64 0) ∧ Below w.heap.size w w' := by
  have HB := Lib.hid (two_boxes w (.int .i64 k) (.int .u64 b) (.string t) (.int .i64 k') (.int .u64 b') (.string t') 24)
  have c1 := fun W h => formed_any k b t W hb ht h
  have HT := Lib.hid hT
  rw [hf] at c1
  clear hf hT
  go_enter Tryd.func14, Tryd.ntmps14
  go_wp2_with (go_at_call 10; ((with_reducible refine (c1 _ (HT.out.below HB.out)).mono ?_); rintro e w1 ⟨rfl, hb1⟩))
  go_ret
  exact ⟨rfl, HB.out.trans (hb1.mono HB.out.size)⟩

set_option maxHeartbeats 1000000 in
theorem compare_bad2 (k k' : Int) (b b' : Nat) (t t' : ByteArray) (w : World) (hb : b < 18446744073709551616) (ht : t.size ≤ maxLen) (hb' : b' < 18446744073709551616) (ht' : t'.size ≤ maxLen) (hT : Tabs w) (hf : formedB ⟨k, b, t.data.toList⟩ = true) (hf' : formedB ⟨k', b', t'.data.toList⟩ = false) :
    Calls Tryd.prog 14 #[.agg #[.int .i64 k, .int .u64 b, .string t], .agg #[.int .i64 k', .int .u64 b', .string t']] w fun e w' => e = .returned (.int .i64 0) ∧ Below w.heap.size w w' := by
  have HB := Lib.hid (two_boxes w (.int .i64 k) (.int .u64 b) (.string t) (.int .i64 k') (.int .u64 b') (.string t') 24)
  have c1 := fun W h => formed_any k b t W hb ht h
  have c2 := fun W h => formed_any k' b' t' W hb' ht' h
  have HT := Lib.hid hT
  rw [hf] at c1
  rw [hf'] at c2
  clear hf hf' hT
  go_enter Tryd.func14, Tryd.ntmps14
  go_wp2_with (first | (go_at_call 10; ((with_reducible refine (c1 _ (HT.out.below HB.out)).mono ?_); rintro e w1 ⟨rfl, hb1⟩; have X1 := (boxes_new w _ _ _ _ _ _ _).below hb1; have HX := Lib.hid X1; obtain ⟨⟨a1, a2, a3⟩, ⟨b1, b2, b3⟩, _, _⟩ := X1)) | (go_at_call 10; ((with_reducible refine (c2 _ (HT.out.below HX.out.bel)).mono ?_); rintro e w2 ⟨rfl, hb2⟩)))
  go_ret
  exact ⟨rfl, HX.out.bel.trans (hb2.mono HX.out.bel.size)⟩

set_option maxHeartbeats 2000000 in
theorem compare_ord (k k' : Int) (b b' : Nat) (t t' : ByteArray) (w : World) (hb : b < 18446744073709551616) (ht : t.size ≤ maxLen) (hb' : b' < 18446744073709551616) (ht' : t'.size ≤ maxLen) (hT : Tabs w) (hf : formedB ⟨k, b, t.data.toList⟩ = true) (hf' : formedB ⟨k', b', t'.data.toList⟩ = true) (hn : ¬ (k = k' ∧ b = b' ∧ t.data.toList = t'.data.toList)) :
    Calls Tryd.prog 14 #[.agg #[.int .i64 k, .int .u64 b, .string t], .agg #[.int .i64 k', .int .u64 b', .string t']] w fun e w' => e = .returned (.int .i64 (ordV ⟨k, b, t.data.toList⟩ ⟨k', b', t'.data.toList⟩)) ∧ Below w.heap.size w w' := by
  have HB := Lib.hid (two_boxes w (.int .i64 k) (.int .u64 b) (.string t) (.int .i64 k') (.int .u64 b') (.string t') 24)
  have c1 := fun W h => formed_any k b t W hb ht h
  have c2 := fun W h => formed_any k' b' t' W hb' ht' h
  have HT := Lib.hid hT
  rw [hf] at c1
  rw [hf'] at c2
  clear hT
  by_cases hk : k = k'
  · subst hk
    by_cases k1 : k = 1
    · subst k1
      rw [formed_num, Bool.and_eq_true] at hf hf'
      have e1 : t.data.toList = [] := List.isEmpty_iff.1 hf.1
      have e2 : t'.data.toList = [] := List.isEmpty_iff.1 hf'.1
      have q : ((b : Int) == (b' : Int)) = false := by
        simp; intro e; exact hn ⟨rfl, by omega, by rw [e1, e2]⟩
      have R : Hid (ordV ⟨1, b, t.data.toList⟩ ⟨1, b', t'.data.toList⟩ = orderF b b') := by show ordV _ _ = _; unfold ordV; simp
      have cO := fun W => numOrder_any b b' hb hb' W
      generalize orderF b b' = o at *
      clear hf hf' hn e1 e2
      go_enter Tryd.func14, Tryd.ntmps14
      go_wp2_with (first | (go_at_call 10; ((with_reducible refine (c1 _ (HT.out.below HB.out)).mono ?_); rintro e w1 ⟨rfl, hb1⟩; have X1 := (boxes_new w _ _ _ _ _ _ _).below hb1; have HX := Lib.hid X1; obtain ⟨⟨a1, a2, a3⟩, ⟨b1, b2, b3⟩, _, _⟩ := X1)) | (go_at_call 10; ((with_reducible refine (c2 _ (HT.out.below HX.out.bel)).mono ?_); rintro e w2 ⟨rfl, hb2⟩; clear a1 a2 a3 b1 b2 b3; obtain ⟨⟨a1, a2, a3⟩, ⟨b1, b2, b3⟩, hB2, _⟩ := HX.out.below hb2)) | (go_at_call 38; ((with_reducible refine (cO _).mono ?_); rintro e w' ⟨rfl, rfl⟩)))
      go_ret
      exact ⟨by rw [R.out]; rfl, hB2⟩
    · have q1 : (k == 1) = false := by simp; omega
      have eb : b = b' := by
        rcases formed_kinds hf with e | e | e
        · subst e
          rw [formed_none, Bool.and_eq_true] at hf hf'
          have := of_decide_eq_true hf.1; have := of_decide_eq_true hf'.1; omega
        · exact absurd e k1
        · subst e
          rw [formed_text, Bool.and_eq_true, Bool.and_eq_true] at hf hf'
          have := of_decide_eq_true hf.1.1; have := of_decide_eq_true hf'.1.1; omega
      subst eb
      have en : t.data.toList ≠ t'.data.toList := fun e => hn ⟨rfl, rfl, e⟩
      have q : (t.toList == t'.toList) = false := by
        rw [ByteArray.toList_eq, ByteArray.toList_eq, beq_eq_false_iff_ne]; exact en
      have R : Hid (ordV ⟨k, b, t.data.toList⟩ ⟨k, b, t'.data.toList⟩ = Lib.compareBytes t.data.toList t'.data.toList) := by
        show ordV _ _ = _
        rw [cmpB_less, if_neg en]
        unfold ordV; simp [k1]
      have cO := fun W => cmpS_any t t' W
      generalize Lib.compareBytes t.data.toList t'.data.toList = o at *
      clear hf hf' hn en
      go_enter Tryd.func14, Tryd.ntmps14
      go_wp2_with (first | (go_at_call 10; ((with_reducible refine (c1 _ (HT.out.below HB.out)).mono ?_); rintro e w1 ⟨rfl, hb1⟩; have X1 := (boxes_new w _ _ _ _ _ _ _).below hb1; have HX := Lib.hid X1; obtain ⟨⟨a1, a2, a3⟩, ⟨b1, b2, b3⟩, _, _⟩ := X1)) | (go_at_call 10; ((with_reducible refine (c2 _ (HT.out.below HX.out.bel)).mono ?_); rintro e w2 ⟨rfl, hb2⟩; clear a1 a2 a3 b1 b2 b3; obtain ⟨⟨a1, a2, a3⟩, ⟨b1, b2, b3⟩, hB2, _⟩ := HX.out.below hb2)) | (go_at_call 39; ((with_reducible refine (cO _).mono ?_); rintro e w' ⟨rfl, rfl⟩)))
      go_ret
      exact ⟨by rw [R.out]; rfl, hB2⟩
  · have q : (k == k') = false := by simp; omega
    have R : Hid (ordV ⟨k, b, t.data.toList⟩ ⟨k', b', t'.data.toList⟩ = Lib.compareInt k k') := by
      show ordV _ _ = _
      unfold ordV Lib.compareInt
      show (if k < k' then (-1 : Int) else if k' < k then 1 else _) = if k < k' then -1 else if k > k' then 1 else 0
      by_cases h1 : k < k'
      · rw [if_pos h1, if_pos h1]
      · rw [if_neg h1, if_neg h1, if_pos (show k' < k by omega), if_pos (show k > k' by omega)]
    have cO := fun W => cmpI_any k k' W
    generalize Lib.compareInt k k' = o at *
    clear hf hf' hn
    go_enter Tryd.func14, Tryd.ntmps14
    go_wp2_with (first | (go_at_call 10; ((with_reducible refine (c1 _ (HT.out.below HB.out)).mono ?_); rintro e w1 ⟨rfl, hb1⟩; have X1 := (boxes_new w _ _ _ _ _ _ _).below hb1; have HX := Lib.hid X1; obtain ⟨⟨a1, a2, a3⟩, ⟨b1, b2, b3⟩, _, _⟩ := X1)) | (go_at_call 10; ((with_reducible refine (c2 _ (HT.out.below HX.out.bel)).mono ?_); rintro e w2 ⟨rfl, hb2⟩; clear a1 a2 a3 b1 b2 b3; obtain ⟨⟨a1, a2, a3⟩, ⟨b1, b2, b3⟩, hB2, _⟩ := HX.out.below hb2)) | (go_at_call 37; ((with_reducible refine (cO _).mono ?_); rintro e w' ⟨rfl, rfl⟩)))
    go_ret
    exact ⟨by rw [R.out]; rfl, hB2⟩

set_option maxHeartbeats 1000000 in
theorem compare_same (k : Int) (b : Nat) (t : ByteArray) (w : World) (hb : b < 18446744073709551616) (ht : t.size ≤ maxLen) (hT : Tabs w) (hf : formedB ⟨k, b, t.data.toList⟩ = true) :
    Calls Tryd.prog 14 #[.agg #[.int .i64 k, .int .u64 b, .string t], .agg #[.int .i64 k, .int .u64 b, .string t]] w fun e w' => e = .returned (.int .i64 0) ∧ Below w.heap.size w w' := by
  have HB := Lib.hid (two_boxes w (.int .i64 k) (.int .u64 b) (.string t) (.int .i64 k) (.int .u64 b) (.string t) 24)
  have c1 := fun W h => formed_any k b t W hb ht h
  have HT := Lib.hid hT
  rw [hf] at c1
  clear hf hT
  go_enter Tryd.func14, Tryd.ntmps14
  go_wp2_with (first | (go_at_call 10; ((with_reducible refine (c1 _ (HT.out.below HB.out)).mono ?_); rintro e w1 ⟨rfl, hb1⟩; have X1 := (boxes_new w _ _ _ _ _ _ _).below hb1; have HX := Lib.hid X1; obtain ⟨⟨a1, a2, a3⟩, ⟨b1, b2, b3⟩, _, _⟩ := X1)) | (go_at_call 10; ((with_reducible refine (c1 _ (HT.out.below HX.out.bel)).mono ?_); rintro e w2 ⟨rfl, hb2⟩; clear a1 a2 a3 b1 b2 b3; obtain ⟨⟨a1, a2, a3⟩, ⟨b1, b2, b3⟩, hB2, _⟩ := HX.out.below hb2)))
  go_ret
  exact ⟨rfl, hB2⟩

theorem compare_any (k k' : Int) (b b' : Nat) (t t' : ByteArray) (w : World) (hb : b < 18446744073709551616) (ht : t.size ≤ maxLen) (hb' : b' < 18446744073709551616) (ht' : t'.size ≤ maxLen) (hT : Tabs w) :
    Calls Tryd.prog 14 #[.agg #[.int .i64 k, .int .u64 b, .string t], .agg #[.int .i64 k', .int .u64 b', .string t']] w fun e w' => e = .returned (.int .i64 (cmpV ⟨k, b, t.data.toList⟩ ⟨k', b', t'.data.toList⟩)) ∧ Below w.heap.size w w' := by
  cases hf : formedB ⟨k, b, t.data.toList⟩
  · rw [cmpV_bad1 hf]; exact compare_bad1 k k' b b' t t' w hb ht hT hf
  · cases hf' : formedB ⟨k', b', t'.data.toList⟩
    · rw [cmpV_bad2 hf']; exact compare_bad2 k k' b b' t t' w hb ht hb' ht' hT hf hf'
    · by_cases hn : k = k' ∧ b = b' ∧ t.data.toList = t'.data.toList
      · obtain ⟨rfl, rfl, e⟩ := hn
        obtain rfl : t = t' := WideShapes.bytes_inj e
        rw [cmpV_same]; exact compare_same k b t w hb ht hT hf
      · rw [cmpV_ord hf hf' (fun e => hn (by injection e with e1 e2 e3; exact ⟨e1, e2, e3⟩))]
        exact compare_ord k k' b b' t t' w hb ht hb' ht' hT hf hf' hn
end Go.Proofs.YtmaohddmhdhkkaaDoor
