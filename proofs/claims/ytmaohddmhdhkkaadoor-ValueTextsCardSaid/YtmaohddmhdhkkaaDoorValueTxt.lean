/- Contracts of the program's Show and Parse. Conditions: the value's number and text fit their kinds; the text has at most 2^48 bytes; the library's tables and errors lie in their places. -/
import Derived.Test.YtmaohddmhdhkkaaDoorValueProg
import Derived.Test.YtmaohddmhdhkkaaDoorValueRep
import Derived.Test.YtmaohddmhdhkkaaDoorValueUint
import Derived.Test.YtmaohddmhdhkkaaDoorValuePut
namespace Go.Proofs.YtmaohddmhdhkkaaDoor
open Go.RowKit

/-- What of the library's variables is asked for. -/
def TabsT (w : World) : Prop := Tabs w ∧ TabZ w ∧ Errs w
theorem TabsT.tabs {w : World} (h : TabsT w) : Tabs w := h.1
theorem TabsT.zed {w : World} (h : TabsT w) : TabZ w := h.2.1
theorem TabsT.errs {w : World} (h : TabsT w) : Errs w := h.2.2
theorem TabZ.below {w w' : World} (h : TabZ w) (hb : Below w.heap.size w w') : TabZ w' := cell_on h hb
theorem TabsT.below {w w' : World} (h : TabsT w) (hb : Below w.heap.size w w') : TabsT w' := ⟨h.1.below hb, h.2.1.below hb, h.2.2.below hb⟩

theorem show_text (S : ByteArray) (b m : Nat) (h : Lib.repeatL [48] m ++ S.data.toList = hexN 16 b) (Z : ByteArray) (hZ : Z = ⟨(Lib.repeatL [48] m).toArray⟩) :
    Ending.returned (.string ((⟨#[35]⟩ : ByteArray) ++ Z ++ S)) = .returned (.string ⟨([35] ++ hexN 16 b).toArray⟩) := by
  subst hZ
  exact ret_str (by rw [Joins.data_append, Joins.data_append, List.append_assoc, ← h])

set_option maxHeartbeats 1000000 in
theorem show_any (k : Int) (b : Nat) (t : ByteArray) (w : World) (hb : b < 18446744073709551616) (ht : t.size ≤ maxLen) (hT : TabsT w) :
    Calls Tryd.prog 27 #[.agg #[.int .i64 k, .int .u64 b, .string t]] w fun e w' => e = .returned (.string ⟨(showB ⟨k, b, t.data.toList⟩).toArray⟩) ∧ Below w.heap.size w w' := by
  have ht' := ht
  unfold maxLen at ht'
  have c1 := fun W h => formed_any k b t W hb ht h
  have hB0 : Below w.heap.size w (w.alloc (.cells #[.int .i64 k, .int .u64 b, .string t] 24)) := (Below.refl _ _).alloc (Nat.le_refl _) _
  have HT := Lib.hid (hT.below hB0)
  have HB := Lib.hid hB0
  clear hT hB0
  cases hf : formedB ⟨k, b, t.data.toList⟩
  · rw [hf] at c1
    have R : Hid (showB ⟨k, b, t.data.toList⟩ = []) := by show showB _ = _; simp [showB, hf]
    clear hf
    go_enter Tryd.func27, Tryd.ntmps27
    go_wp2_with (go_at_call 10; ((with_reducible refine (c1 _ HT.out.tabs).mono ?_); rintro e w1 ⟨rfl, hb1⟩))
    go_ret
    exact ⟨by rw [R.out]; rfl, HB.out.trans (hb1.mono HB.out.size)⟩
  · rw [hf] at c1
    have R : Hid (showB ⟨k, b, t.data.toList⟩ = textV ⟨k, b, t.data.toList⟩) := by show showB _ = _; simp [showB, hf]
    have HL : Hid (∀ w1, Below (w.alloc (.cells #[.int .i64 k, .int .u64 b, .string t] 24)).heap.size (w.alloc (.cells #[.int .i64 k, .int .u64 b, .string t] 24)) w1 → (w1.cell? ⟨w.heap.size, 0, none⟩ = some (.int .i64 k) ∧ w1.cell? ⟨w.heap.size, 1, none⟩ = some (.int .u64 b) ∧ w1.cell? ⟨w.heap.size, 2, none⟩ = some (.string t)) ∧ Below w.heap.size w w1) := by
      intro w1 h
      exact ⟨box_later h, HB.out.trans (h.mono HB.out.size)⟩
    rcases formed_kinds hf with rfl | rfl | rfl
    · have T : Hid (textV ⟨0, b, t.data.toList⟩ = [110, 111, 110, 101]) := by show textV _ = _; simp [textV]
      clear hf
      go_enter Tryd.func27, Tryd.ntmps27
      go_wp2_with (go_at_call 10; ((with_reducible refine (c1 _ HT.out.tabs).mono ?_); rintro e w1 ⟨rfl, hb1⟩; obtain ⟨⟨p1, p2, p3⟩, hB1⟩ := HL.out w1 hb1))
      go_ret
      exact ⟨by rw [R.out, T.out]; rfl, hB1⟩
    · have T : Hid (textV ⟨1, b, t.data.toList⟩ = [35] ++ hexN 16 b) := by show textV _ = _; simp [textV]
      clear hf
      go_enter Tryd.func27, Tryd.ntmps27
      go_upto_region 6 with (first | (go_at_call 10; ((with_reducible refine (c1 _ HT.out.tabs).mono ?_); rintro e w1 ⟨rfl, hb1⟩; obtain ⟨⟨p1, p2, p3⟩, hB1⟩ := HL.out w1 hb1; have Z1 := Lib.hid (HT.out.below hb1))) | (go_at_call 52; ((with_reducible refine (formatU_any b _ hb Z1.out.zed).mono ?_); rintro e w2 ⟨S, rfl, s1, s2, s3, hb2⟩)))
      have e1 : (16 : Int) - (S.size : Int) = ((16 - S.size : Nat) : Int) := by omega
      have cR := fun W => repeat_any (16 - S.size) W (by omega)
      have HS := Lib.hid s3
      have l1 : (⟨(Lib.repeatL [48] (16 - S.size)).toArray⟩ : ByteArray).size ≤ 16 := by
        show (Lib.repeatL [48] (16 - S.size)).toArray.size ≤ 16
        rw [List.size_toArray, Lib.repeatL_length]; simp
      obtain ⟨Z, hZ⟩ : ∃ Z : ByteArray, Z = ⟨(Lib.repeatL [48] (16 - S.size)).toArray⟩ := ⟨_, rfl⟩
      rw [← hZ] at cR l1
      have HZ := Lib.hid hZ
      clear s3 hZ
      generalize 16 - S.size = m at *
      go_wp2_with (go_at_call 53; ((with_reducible refine (cR _).mono ?_); rintro e w3 ⟨rfl, rfl⟩))
      go_ret
      exact ⟨by rw [R.out, T.out]; exact show_text S b m HS.out _ HZ.out, hB1.trans (hb2.mono hB1.size)⟩
    · have ht40 : t.size ≤ 40 := by
        rw [formed_text, Bool.and_eq_true, Bool.and_eq_true] at hf
        have := of_decide_eq_true hf.1.2
        rwa [Array.length_toList] at this
      have T : Hid (textV ⟨2, b, t.data.toList⟩ = [36] ++ t.data.toList) := by show textV _ = _; simp [textV]
      clear hf
      go_enter Tryd.func27, Tryd.ntmps27
      go_wp2_with (go_at_call 10; ((with_reducible refine (c1 _ HT.out.tabs).mono ?_); rintro e w1 ⟨rfl, hb1⟩; obtain ⟨⟨p1, p2, p3⟩, hB1⟩ := HL.out w1 hb1))
      go_ret
      exact ⟨by rw [R.out, T.out]; exact ret_str (Joins.data_append _ _), hB1⟩
end Go.Proofs.YtmaohddmhdhkkaaDoor
