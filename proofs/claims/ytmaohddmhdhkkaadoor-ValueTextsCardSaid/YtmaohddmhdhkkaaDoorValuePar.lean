/- Contract of the program's Parse. Conditions: the text has at most 2^48 bytes; the library's tables and errors lie in their places. -/
import Derived.Test.YtmaohddmhdhkkaaDoorValueTxt
import Derived.Test.YtmaohddmhdhkkaaDoorValueTake
namespace Go.Proofs.YtmaohddmhdhkkaaDoor
open Go.RowKit

/-- The value that the program holds a text for. -/
def candP (l : List UInt8) : Val := if l.head? = some 35 then ⟨1, pbits (l.drop 1), []⟩ else if l.head? = some 36 then ⟨2, 0, l.drop 1⟩ else ⟨0, 0, []⟩
theorem candP_lt (l : List UInt8) : (candP l).b < 18446744073709551616 := by
  unfold candP
  split
  · exact pbits_lt _
  · split <;> simp
theorem candP_len (l : List UInt8) : (candP l).t.length ≤ l.length := by
  unfold candP
  split
  · simp
  · split <;> simp
theorem candP_show (v : Val) (hb : v.b < 18446744073709551616) (hf : formedB v = true) : candP (textV v) = v := by
  obtain ⟨k, b, t⟩ := v
  rcases formed_kinds hf with rfl | rfl | rfl
  · rw [formed_none, Bool.and_eq_true] at hf
    have hb0 : b = 0 := of_decide_eq_true hf.1
    have ht : t = [] := List.isEmpty_iff.1 hf.2
    subst hb0; subst ht
    simp [textV, candP]
  · rw [formed_num, Bool.and_eq_true] at hf
    have ht : t = [] := List.isEmpty_iff.1 hf.1
    subst ht
    simp [textV, candP, pbits_hex b hb]
  · rw [formed_text, Bool.and_eq_true, Bool.and_eq_true] at hf
    have hb0 : b = 0 := of_decide_eq_true hf.1.1
    subst hb0
    simp [textV, candP]
theorem showB_ne (v : Val) (h : showB v ≠ []) : formedB v = true ∧ showB v = textV v := by
  cases hf : formedB v
  · exact absurd (by simp [showB, hf]) h
  · exact ⟨rfl, by simp [showB, hf]⟩
/-- The two readings of a text take the same texts, and for the same values. -/
theorem cand_yes (l : List UInt8) (h : showB (candP l) = l) : candB l = candP l ∧ l ≠ [] := by
  have hne : l ≠ [] := by
    rintro rfl
    revert h; simp [candP, showB, formedB, textV]
  obtain ⟨hf, ht⟩ := showB_ne (candP l) (by rw [h]; exact hne)
  rw [h] at ht
  refine ⟨?_, hne⟩
  conv => lhs; rw [ht]
  exact cand_show _ (candP_lt l) hf
theorem cand_no (l : List UInt8) (h : showB (candP l) ≠ l) : showB (candB l) ≠ l := by
  intro h2
  have hne : l ≠ [] := by
    rintro rfl
    revert h2; simp [candB, showB, formedB, textV]
  obtain ⟨hf, ht⟩ := showB_ne (candB l) (by rw [h2]; exact hne)
  rw [h2] at ht
  apply h
  have e : candP l = candB l := by
    conv => lhs; rw [ht]
    exact candP_show _ (cand_lt l) hf
  rw [e]; exact h2

theorem cut_any (s p : ByteArray) (w : World) : Calls Tryd.prog 64 #[.string s, .string p] w fun e w' => e = .returned (.tuple #[.string ⟨(Lib.trimPrefix s.data.toList p.data.toList).toArray⟩, .bool (Lib.hasPrefix s.data.toList p.data.toList)]) ∧ w' = w := Any.strings_CutPrefix Tryd.lays103 s p w
theorem has_one (l : List UInt8) (c : UInt8) : Lib.hasPrefix l [c] = decide (l.head? = some c) := by
  unfold Lib.hasPrefix
  cases l with
  | nil => rfl
  | cons a r =>
    rw [List.isPrefixOf]
    have h : (c == a) = decide (a = c) := by
      by_cases e : a = c
      · subst e; simp
      · rw [decide_eq_false e, beq_eq_false_iff_ne]; exact fun e2 => e e2.symm
    simp [h]
theorem cut_yes (s : ByteArray) (c : UInt8) (h : s.data.toList.head? = some c) (w : World) :
    Calls Tryd.prog 64 #[.string s, .string ⟨#[c]⟩] w fun e w' => e = .returned (.tuple #[.string ⟨(s.data.toList.drop 1).toArray⟩, .bool true]) ∧ w' = w := by
  have := cut_any s ⟨#[c]⟩ w
  have hp : Lib.hasPrefix s.data.toList (⟨#[c]⟩ : ByteArray).data.toList = true := (has_one _ c).trans (decide_eq_true h)
  unfold Lib.trimPrefix at this
  rw [hp] at this
  exact this
theorem cut_no (s : ByteArray) (c : UInt8) (h : ¬ s.data.toList.head? = some c) (w : World) :
    Calls Tryd.prog 64 #[.string s, .string ⟨#[c]⟩] w fun e w' => e = .returned (.tuple #[.string s, .bool false]) ∧ w' = w := by
  have := cut_any s ⟨#[c]⟩ w
  have hp : Lib.hasPrefix s.data.toList (⟨#[c]⟩ : ByteArray).data.toList = false := (has_one _ c).trans (decide_eq_false h)
  unfold Lib.trimPrefix at this
  rw [hp] at this
  exact this

/-- The answer's cell, as it lies while it is worked out. -/
def ZW (w W : World) : Prop := W.heap[w.heap.size]? = some (.cells #[.int .i64 0, .int .u64 0, .string ⟨#[]⟩] 24 (0, 0)) ∧ Below w.heap.size w W ∧ w.heap.size < W.heap.size
theorem ZW.new (w : World) : ZW w (w.alloc (.cells #[.int .i64 0, .int .u64 0, .string ⟨#[]⟩] 24)) := ⟨heap_alloc_new _ _, (Below.refl _ _).alloc (Nat.le_refl _) _, by simp⟩
theorem ZW.below {w W W' : World} (h : ZW w W) (hb : Below W.heap.size W W') : ZW w W' := ⟨(hb.block _ h.2.2).trans h.1, h.2.1.trans (hb.mono h.2.1.size), Nat.lt_of_lt_of_le h.2.2 hb.size⟩
theorem ZW.bel {w W : World} (h : ZW w W) : Below w.heap.size w W := h.2.1
theorem ZW.out {w W : World} (h : ZW w W) (u v z : Value) : Below w.heap.size w (((W.setCell ⟨w.heap.size, 0, none⟩ u).setCell ⟨w.heap.size, 1, none⟩ v).setCell ⟨w.heap.size, 2, none⟩ z) :=
  ((h.bel.setCell (Nat.le_refl _) _).setCell (Nat.le_refl _) _).setCell (Nat.le_refl _) _

set_option maxHeartbeats 1000000 in
theorem readText_any (s : ByteArray) (w : World) (hl : s.size ≤ 281474976710656) (hE : Errs w) (k : Int) (b : Nat) (t : ByteArray) (hv : candP s.data.toList = ⟨k, b, t.data.toList⟩) :
    Calls Tryd.prog 51 #[.string s] w fun e w' => e = .returned (.agg #[.int .i64 k, .int .u64 b, .string t]) ∧ Below w.heap.size w w' := by
  have Z0 := Lib.hid (ZW.new w)
  have HE := Lib.hid (hE.below Z0.out.bel)
  clear hE
  unfold candP at hv
  by_cases h35 : s.data.toList.head? = some 35
  · rw [if_pos h35] at hv
    injection hv with e1 e2 e3
    subst e1; subst e2
    obtain rfl : t = ⟨#[]⟩ := WideShapes.bytes_inj (by rw [← e3])
    have c64 := fun W => cut_yes s 35 h35 W
    have hr : (⟨(s.data.toList.drop 1).toArray⟩ : ByteArray).size ≤ 281474976710656 := by
      show (s.data.toList.drop 1).toArray.size ≤ _
      rw [List.size_toArray, List.length_drop, Array.length_toList]
      have : s.data.size = s.size := rfl
      omega
    have c65 := fun W h => parseU_any ⟨(s.data.toList.drop 1).toArray⟩ W hr h
    rw [show (⟨(s.data.toList.drop 1).toArray⟩ : ByteArray).data.toList = s.data.toList.drop 1 from rfl] at c65
    generalize (⟨(s.data.toList.drop 1).toArray⟩ : ByteArray) = r at *
    generalize pbits (s.data.toList.drop 1) = n at *
    clear e3 h35
    go_enter Tryd.func51, Tryd.ntmps51
    go_wp2_with (first | (go_at_call 64; ((with_reducible refine (c64 _).mono ?_); rintro e w' ⟨rfl, hw⟩; rw [hw])) | (go_at_call 65; ((with_reducible refine (c65 _ HE.out).mono ?_); rintro e w1 ⟨x, rfl, hb1⟩; have Z1 := Lib.hid (Z0.out.below hb1))) | (go_at_call 30; ((with_reducible refine (number_any n _).mono ?_); rintro e w2 ⟨rfl, hb2⟩; have Z2 := Lib.hid (Z1.out.below hb2); obtain ⟨m0, m1, m2, n0, n1, n2⟩ := three_cells Z2.out.1)))
    exact bodyPost_ret (v := .agg #[.int .i64 1, .int .u64 n, .string ⟨#[]⟩]) (by simp [results, Tryd.results51, go_sem, m0, m1, m2]) rfl ⟨rfl, Z2.out.out _ _ _⟩
  · rw [if_neg h35] at hv
    have c64 := fun W => cut_no s 35 h35 W
    by_cases h36 : s.data.toList.head? = some 36
    · rw [if_pos h36] at hv
      injection hv with e1 e2 e3
      subst e1; subst e2
      have c64' := fun W => cut_yes s 36 h36 W
      have er : (⟨(s.data.toList.drop 1).toArray⟩ : ByteArray) = t := WideShapes.bytes_inj e3
      rw [er] at c64'
      clear e3 er h35 h36
      go_enter Tryd.func51, Tryd.ntmps51
      go_wp2_with (first | (go_at_call 64; ((with_reducible refine (c64 _).mono ?_); rintro e w' ⟨rfl, hw⟩; rw [hw])) | (go_at_call 64; ((with_reducible refine (c64' _).mono ?_); rintro e w' ⟨rfl, hw⟩; rw [hw])) | (go_at_call 32; ((with_reducible refine (text_any t _).mono ?_); rintro e w2 ⟨rfl, hb2⟩; have Z2 := Lib.hid (Z0.out.below hb2); obtain ⟨m0, m1, m2, n0, n1, n2⟩ := three_cells Z2.out.1)))
      exact bodyPost_ret (v := .agg #[.int .i64 2, .int .u64 0, .string t]) (by simp [results, Tryd.results51, go_sem, m0, m1, m2]) rfl ⟨rfl, Z2.out.out _ _ _⟩
    · rw [if_neg h36] at hv
      injection hv with e1 e2 e3
      subst e1; subst e2
      obtain rfl : t = ⟨#[]⟩ := WideShapes.bytes_inj (by rw [← e3])
      have c64' := fun W => cut_no s 36 h36 W
      clear e3 h35 h36
      obtain ⟨m0, m1, m2, n0, n1, n2⟩ := three_cells Z0.out.1
      go_enter Tryd.func51, Tryd.ntmps51
      go_wp2_with (first | (go_at_call 64; ((with_reducible refine (c64 _).mono ?_); rintro e w' ⟨rfl, hw⟩; rw [hw])) | (go_at_call 64; ((with_reducible refine (c64' _).mono ?_); rintro e w' ⟨rfl, hw⟩; rw [hw])))
      exact bodyPost_ret (v := .agg #[.int .i64 0, .int .u64 0, .string ⟨#[]⟩]) (by simp [results, Tryd.results51, go_sem, m0, m1, m2]) rfl ⟨rfl, Z0.out.bel⟩
/-- The answer's cell and the value's, as Parse has them. -/
def PZ (w W : World) (G : Nat) (k : Int) (b : Nat) (t : ByteArray) : Prop := ZW w W ∧ VW W G k b t ∧ w.heap.size < G
theorem PZ.new {w w1 : World} (h : ZW w w1) (k : Int) (b : Nat) (t : ByteArray) : PZ w (w1.alloc (.cells #[.int .i64 k, .int .u64 (b : Nat), .string t] 24)) w1.heap.size k b t :=
  ⟨h.below ((Below.refl _ _).alloc (Nat.le_refl _) _), heap_alloc_new _ _, h.2.2⟩
theorem PZ.below {w W W' : World} {G : Nat} {k : Int} {b : Nat} {t : ByteArray} (h : PZ w W G k b t) (hb : Below W.heap.size W W') : PZ w W' G k b t := ⟨h.1.below hb, h.2.1.below hb, h.2.2⟩
theorem PZ.bel {w W : World} {G : Nat} {k : Int} {b : Nat} {t : ByteArray} (h : PZ w W G k b t) : Below w.heap.size w W := h.1.bel

set_option maxHeartbeats 1000000 in
theorem parse_yes_walk (s : ByteArray) (w : World) (hl : s.size ≤ 281474976710656) (hT : TabsT w) (k : Int) (b : Nat) (t : ByteArray) (hb : b < 18446744073709551616) (ht : t.size ≤ maxLen) (hv : candP s.data.toList = ⟨k, b, t.data.toList⟩) (hs : showB ⟨k, b, t.data.toList⟩ = s.data.toList) :
    Calls Tryd.prog 25 #[.string s] w (ParsedAs w k b t 0) := by
  have Z0 := Lib.hid (ZW.new w)
  have HT : Hid (∀ W, Below w.heap.size w W → TabsT W) := fun W h => hT.below h
  have cR := fun W h => readText_any s W hl h k b t hv
  have cS : ∀ W, TabsT W → Calls Tryd.prog 27 #[.agg #[.int .i64 k, .int .u64 b, .string t]] W (fun e w' => e = .returned (.string s) ∧ Below W.heap.size W w') := fun W h => by
    have := show_any k b t W hb ht h
    rw [hs, ← str_eq rfl] at this
    exact this
  clear hT hv hs
  go_enter Tryd.func25, Tryd.ntmps25
  go_upto_region 2 with (go_at_call 51; ((with_reducible refine (cR _ (HT.out _ Z0.out.bel).errs).mono ?_); rintro e w1 ⟨rfl, hb1⟩))
  have P0 := Lib.hid (PZ.new (Z0.out.below hb1) k b t)
  generalize w1.alloc (.cells #[.int .i64 k, .int .u64 b, .string t] 24) = W at *
  generalize w1.heap.size = G at *
  obtain ⟨o0, o1, o2, _, _, _⟩ := three_cells P0.out.2.1
  go_wp2_with (go_at_call 27; ((with_reducible refine (cS _ (HT.out _ P0.out.bel)).mono ?_); rintro e w2 ⟨rfl, hb2⟩; have P1 := Lib.hid (P0.out.below hb2); obtain ⟨m0, m1, m2, n0, n1, n2⟩ := three_cells P1.out.1.1; obtain ⟨o0, o1, o2, _, _, _⟩ := three_cells P1.out.2.1))
  exact bodyPost_ret (v := .tuple #[.agg #[.int .i64 k, .int .u64 b, .string t], .int .i64 0]) (by simp [results, Tryd.results25, go_sem, m0, m1, m2]) rfl ⟨rfl, P1.out.1.out _ _ _⟩

set_option maxHeartbeats 1000000 in
theorem parse_no_walk (s : ByteArray) (w : World) (hl : s.size ≤ 281474976710656) (hT : TabsT w) (k : Int) (b : Nat) (t : ByteArray) (hb : b < 18446744073709551616) (ht : t.size ≤ maxLen) (hv : candP s.data.toList = ⟨k, b, t.data.toList⟩) (hs : showB ⟨k, b, t.data.toList⟩ ≠ s.data.toList) :
    Calls Tryd.prog 25 #[.string s] w (ParsedAs w 0 0 ⟨#[]⟩ 2) := by
  have Z0 := Lib.hid (ZW.new w)
  have HT : Hid (∀ W, Below w.heap.size w W → TabsT W) := fun W h => hT.below h
  have cR := fun W h => readText_any s W hl h k b t hv
  obtain ⟨X, hX⟩ : ∃ X : ByteArray, X = ⟨(showB ⟨k, b, t.data.toList⟩).toArray⟩ := ⟨_, rfl⟩
  have cS : ∀ W, TabsT W → Calls Tryd.prog 27 #[.agg #[.int .i64 k, .int .u64 b, .string t]] W (fun e w' => e = .returned (.string X) ∧ Below W.heap.size W w') := fun W h => by
    rw [hX]; exact show_any k b t W hb ht h
  have x1 : (X.toList == s.toList) = false := by
    rw [beq_eq_false_iff_ne, ByteArray.toList_eq, ByteArray.toList_eq, hX]; exact hs
  have x2 : (X.toList != s.toList) = true := by rw [bne, x1]; rfl
  clear hT hv hs hX
  go_enter Tryd.func25, Tryd.ntmps25
  go_upto_region 2 with (go_at_call 51; ((with_reducible refine (cR _ (HT.out _ Z0.out.bel).errs).mono ?_); rintro e w1 ⟨rfl, hb1⟩))
  have P0 := Lib.hid (PZ.new (Z0.out.below hb1) k b t)
  generalize w1.alloc (.cells #[.int .i64 k, .int .u64 b, .string t] 24) = W at *
  generalize w1.heap.size = G at *
  obtain ⟨o0, o1, o2, _, _, _⟩ := three_cells P0.out.2.1
  go_wp2_with (go_at_call 27; ((with_reducible refine (cS _ (HT.out _ P0.out.bel)).mono ?_); rintro e w2 ⟨rfl, hb2⟩; have P1 := Lib.hid (P0.out.below hb2); obtain ⟨m0, m1, m2, n0, n1, n2⟩ := three_cells P1.out.1.1; obtain ⟨o0, o1, o2, _, _, _⟩ := three_cells P1.out.2.1))
  exact bodyPost_ret (v := .tuple #[.agg #[.int .i64 0, .int .u64 0, .string ⟨#[]⟩], .int .i64 2]) (by simp [results, Tryd.results25, go_sem, m0, m1, m2]) rfl ⟨rfl, P1.out.1.out _ _ _⟩

theorem parse_any (s : ByteArray) (w : World) (hl : s.size ≤ 281474976710656) (hT : TabsT w) : Calls Tryd.prog 25 #[.string s] w (Parsed w s.data.toList) := by
  have hb := candP_lt s.data.toList
  have ht : (⟨(candP s.data.toList).t.toArray⟩ : ByteArray).size ≤ maxLen := by
    have := candP_len s.data.toList
    rw [Array.length_toList] at this
    have e : s.data.size = s.size := rfl
    show (candP s.data.toList).t.toArray.size ≤ maxLen
    rw [List.size_toArray]
    unfold maxLen
    omega
  by_cases h : showB (candP s.data.toList) = s.data.toList
  · obtain ⟨h1, h2⟩ := cand_yes _ h
    exact (parse_yes_walk s w hl hT (candP s.data.toList).k (candP s.data.toList).b ⟨(candP s.data.toList).t.toArray⟩ hb ht rfl h).mono fun e w' hp => parsed_ok h1 h h2 hp
  · exact (parse_no_walk s w hl hT (candP s.data.toList).k (candP s.data.toList).b ⟨(candP s.data.toList).t.toArray⟩ hb ht rfl h).mono fun e w' hp => parsed_no rfl (cand_no _ h) hp
end Go.Proofs.YtmaohddmhdhkkaaDoor
