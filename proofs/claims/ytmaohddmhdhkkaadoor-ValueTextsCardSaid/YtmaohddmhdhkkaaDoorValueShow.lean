/- Contract of the document's own Show. Conditions: the value's number and text fit their kinds. -/
import Derived.Test.YtmaohddmhdhkkaaDoorValueText

import Derived.Lib.SmallJoins

namespace Go.Proofs.YtmaohddmhdhkkaaDoor

open Go.RowKit

theorem hex_cut (d : Nat) (h : d < 16) : (⟨#[48, 49, 50, 51, 52, 53, 54, 55, 56, 57, 97, 98, 99, 100, 101, 102]⟩ : ByteArray).extract d (d + 1) = ⟨#[hexC d]⟩ := by
  exact (show ∀ e : Fin 16, (⟨#[48, 49, 50, 51, 52, 53, 54, 55, 56, 57, 97, 98, 99, 100, 101, 102]⟩ : ByteArray).extract e.val (e.val + 1) = ⟨#[hexC e.val]⟩ by decide +kernel) ⟨d, h⟩
theorem str_eq {S : ByteArray} {l : List UInt8} (h : S.data.toList = l) : S = ⟨l.toArray⟩ := by
  obtain ⟨d⟩ := S
  subst h; simp
theorem ret_str {S : ByteArray} {l : List UInt8} (h : S.data.toList = l) : Ending.returned (.string S) = .returned (.string ⟨l.toArray⟩) := by rw [str_eq h]

set_option maxHeartbeats 1000000 in
theorem refShow_any (k : Int) (b : Nat) (t : ByteArray) (w : World) (hb : b < 18446744073709551616) (ht : t.size ≤ maxLen) :
    Calls Tryd.prog 28 #[.agg #[.int .i64 k, .int .u64 b, .string t]] w fun e w' => e = .returned (.string ⟨(showB ⟨k, b, t.data.toList⟩).toArray⟩) ∧ Below w.heap.size w w' := by
  have ht' := ht
  unfold maxLen at ht'
  have c1 := fun W => refFormed_any k b t W hb ht
  have hB0 : Below w.heap.size w (w.alloc (.cells #[.int .i64 k, .int .u64 b, .string t] 24)) := (Below.refl _ _).alloc (Nat.le_refl _) _
  cases hf : formedB ⟨k, b, t.data.toList⟩
  · rw [hf] at c1
    have R : Hid (showB ⟨k, b, t.data.toList⟩ = []) := by show showB _ = _; simp [showB, hf]
    clear hf
    go_enter Tryd.func28, Tryd.ntmps28
    go_wp2_with (go_at_call 11; ((with_reducible refine (c1 _).mono ?_); rintro e w1 ⟨rfl, hb1⟩))
    go_ret
    exact ⟨by rw [R.out]; rfl, hB0.trans (hb1.mono hB0.size)⟩
  · rw [hf] at c1
    have R : Hid (showB ⟨k, b, t.data.toList⟩ = textV ⟨k, b, t.data.toList⟩) := by show showB _ = _; simp [showB, hf]
    have later : ∀ w1, Below (w.alloc (.cells #[.int .i64 k, .int .u64 b, .string t] 24)).heap.size (w.alloc (.cells #[.int .i64 k, .int .u64 b, .string t] 24)) w1 → (w1.cell? ⟨w.heap.size, 0, none⟩ = some (.int .i64 k) ∧ w1.cell? ⟨w.heap.size, 1, none⟩ = some (.int .u64 b) ∧ w1.cell? ⟨w.heap.size, 2, none⟩ = some (.string t)) ∧ Below w.heap.size w w1 := by
      intro w1 h
      obtain ⟨a1, a2, a3⟩ := box3 w (.int .i64 k) (.int .u64 b) (.string t) 24
      exact ⟨⟨(h.cell (p := ⟨w.heap.size, 0, none⟩) (by simp)).trans a1, (h.cell (p := ⟨w.heap.size, 1, none⟩) (by simp)).trans a2, (h.cell (p := ⟨w.heap.size, 2, none⟩) (by simp)).trans a3⟩, hB0.trans (h.mono hB0.size)⟩
    have HL := Lib.hid later
    clear later
    by_cases k2 : k = 2
    · subst k2
      have ht40 : t.size ≤ 40 := by
        rw [formed_text, Bool.and_eq_true, Bool.and_eq_true] at hf
        have := of_decide_eq_true hf.1.2
        rwa [Array.length_toList] at this
      have T : Hid (textV ⟨2, b, t.data.toList⟩ = [36] ++ t.data.toList) := by show textV _ = _; simp [textV]
      clear hf
      go_enter Tryd.func28, Tryd.ntmps28
      go_wp2_with (go_at_call 11; ((with_reducible refine (c1 _).mono ?_); rintro e w1 ⟨rfl, hb1⟩; obtain ⟨⟨p1, p2, p3⟩, hB1⟩ := HL.out w1 hb1))
      go_ret
      exact ⟨by rw [R.out, T.out]; exact ret_str (Joins.data_append _ _), hB1⟩
    · have q2 : (k == 2) = false := by simp; omega
      by_cases k0 : k = 0
      · subst k0
        have T : Hid (textV ⟨0, b, t.data.toList⟩ = [110, 111, 110, 101]) := by show textV _ = _; simp [textV]
        clear hf
        go_enter Tryd.func28, Tryd.ntmps28
        go_wp2_with (go_at_call 11; ((with_reducible refine (c1 _).mono ?_); rintro e w1 ⟨rfl, hb1⟩; obtain ⟨⟨p1, p2, p3⟩, hB1⟩ := HL.out w1 hb1))
        go_ret
        exact ⟨by rw [R.out, T.out]; rfl, hB1⟩
      · have q0 : (k == 0) = false := by simp; omega
        have T : Hid (textV ⟨k, b, t.data.toList⟩ = [35] ++ hexN 16 b) := by show textV _ = _; simp [textV, k2, k0]
        clear hf
        go_enter Tryd.func28, Tryd.ntmps28
        go_wp2_with (go_at_call 11; ((with_reducible refine (c1 _).mono ?_); rintro e w1 ⟨rfl, hb1⟩; obtain ⟨⟨p1, p2, p3⟩, hB1⟩ := HL.out w1 hb1))
        clear p1 p2 p3
        go_loop [3, 4, 5] (fun u x i => ∃ (j y : Nat) (S : ByteArray), j ≤ 16 ∧ i = .int .i64 j ∧ x = .int .u64 y ∧ y < 18446744073709551616 ∧ u = .string S ∧ S.size = j ∧ hexN (16 - j) y ++ S.data.toList = hexN 16 b) (fun _ _ i => 16 - (intOf i).toNat)
        case atStart => exact ⟨0, b, ⟨#[]⟩, by omega, rfl, rfl, hb, rfl, rfl, by simp⟩
        case round =>
          obtain ⟨j, y, S, hj, rfl, rfl, hy, rfl, hS, hx⟩ := hrel
          have HS := Lib.hid hS
          have hSz : S.size ≤ 16 := by omega
          by_cases hlt : j < 16
          · have e1 : 16 - j = (16 - (j + 1)) + 1 := by omega
            rw [e1, ← hexN_step] at hx
            have HX := Lib.hid hx
            clear hx e1 hS
            have hd := Nat.mod_lt y (show 0 < 16 by omega)
            have hc := hex_cut (y % 16) hd
            have er : (y : Int) % 16 = ((y % 16 : Nat) : Int) := by omega
            generalize y % 16 = d at *
            have hdi : (d : Int) + 1 ≤ 16 := by omega
            have hdt : ((d : Int) + 1).toNat = d + 1 := by omega
            go_wp2
            go_round
            case rel => exact ⟨j + 1, y / 16, _, by omega, by go_num, by go_num, by omega, rfl, by rw [ByteArray.size_append, HS.out]; show 1 + j = _; omega, by rw [Joins.data_append]; exact HX.out⟩
            case measure => simp [intOf]; omega
          · obtain rfl : j = 16 := by omega
            have HX : Hid (S.data.toList = hexN 16 b) := hx
            clear hx hS
            go_wp2
            go_ret
            exact ⟨by rw [R.out, T.out]; exact ret_str (by rw [Joins.data_append, HX.out]), hB1⟩
end Go.Proofs.YtmaohddmhdhkkaaDoor
