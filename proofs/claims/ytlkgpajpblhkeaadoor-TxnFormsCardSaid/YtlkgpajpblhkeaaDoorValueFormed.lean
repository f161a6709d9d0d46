/- Contract of the document's own Formed. Conditions: the value's number and text fit their kinds. -/
import Derived.Test.YtlkgpajpblhkeaaDoorValueValid

import Derived.Deep.QuietTactic

import Derived.BigQuiet

namespace Go.Proofs.YtlkgpajpblhkeaaDoor

open Go.RowKit

/-- A value as it is handed over. -/
def vOf (v : Val) : Value := .agg #[.int .i64 v.k, .int .u64 (v.b : Nat), .string ⟨v.t.toArray⟩]
theorem box3 (w : World) (x y z : Value) (t : TypeId) : (w.alloc (.cells #[x, y, z] t)).cell? ⟨w.heap.size, 0, none⟩ = some x ∧ (w.alloc (.cells #[x, y, z] t)).cell? ⟨w.heap.size, 1, none⟩ = some y ∧ (w.alloc (.cells #[x, y, z] t)).cell? ⟨w.heap.size, 2, none⟩ = some z := by
  have hr := heap_alloc_new w (.cells #[x, y, z] t)
  refine ⟨?_, ?_, ?_⟩ <;> (rw [cell_of_row _ _ _ _ _ _ hr]; rfl)
theorem text_eq (l : List UInt8) : (⟨l.toArray⟩ : ByteArray) = ⟨#[]⟩ ↔ l = [] := by
  constructor
  · intro h; injection h with h; simpa using h
  · rintro rfl; rfl

theorem formed_none (b : Nat) (l : List UInt8) : formedB ⟨0, b, l⟩ = (decide (b = 0) && l.isEmpty) := rfl
theorem formed_num (b : Nat) (l : List UInt8) : formedB ⟨1, b, l⟩ = (l.isEmpty && decide (canonF b = b)) := rfl
theorem formed_text (b : Nat) (l : List UInt8) : formedB ⟨2, b, l⟩ = (decide (b = 0) && decide (l.length ≤ 40) && validT l) := by
  unfold formedB; simp
theorem formed_other (k : Int) (b : Nat) (l : List UInt8) (h0 : k ≠ 0) (h1 : k ≠ 1) (h2 : k ≠ 2) : formedB ⟨k, b, l⟩ = false := by
  unfold formedB; simp [h0, h1, h2]

set_option maxHeartbeats 1000000 in
theorem refFormed_any (k : Int) (b : Nat) (t : ByteArray) (w : World) (hb : b < 18446744073709551616) (ht : t.size ≤ maxLen) :
    Calls Tryd.prog 46 #[.agg #[.int .i64 k, .int .u64 b, .string t]] w fun e w' => e = .returned (.bool (formedB ⟨k, b, t.data.toList⟩)) ∧ Below w.heap.size w w' := by
  have ht' := ht
  unfold maxLen at ht'
  have hB1 : Below w.heap.size w (w.alloc (.cells #[.int .i64 k, .int .u64 b, .string t] 65)) := (Below.refl _ _).alloc (Nat.le_refl _) _
  have hE : t.data.toList.isEmpty = t.toList.isEmpty := by rw [ByteArray.toList_eq]
  have hz : t.data.toList.length = t.size := by rw [Array.length_toList]; rfl
  by_cases k0 : k = 0
  · subst k0
    rw [formed_none, hE]
    clear hE hz
    by_cases b0 : b = 0
    · subst b0
      cases e : t.toList.isEmpty
      all_goals
        go_enter Tryd.func46, Tryd.ntmps46
        go_wp2
        go_ret
        exact ⟨rfl, hB1⟩
    · have q : ((b : Int) == 0) = false := by simp; omega
      rw [decide_eq_false b0, Bool.false_and]
      go_enter Tryd.func46, Tryd.ntmps46
      go_wp2
      go_ret
      exact ⟨rfl, hB1⟩
  · have q0 : (k == 0) = false := by simp; omega
    by_cases k1 : k = 1
    · subst k1
      rw [formed_num, hE]
      clear hE hz k0 q0
      obtain ⟨c0, c1, c2⟩ := box3 w (.int .i64 1) (.int .u64 b) (.string t) 65
      have hC := fun W => canonRef_any b hb W
      cases e : t.toList.isEmpty
      · go_enter Tryd.func46, Tryd.ntmps46
        go_upto_region 4 with (fail)
        generalize w.alloc (.cells #[.int .i64 1, .int .u64 b, .string t] 65) = W at *
        go_quiet (fail)
        go_wp2
        go_ret
        exact ⟨rfl, below_drewN _ hB1⟩
      · by_cases hc : canonF b = b
        · rw [hc] at hC ⊢
          rw [decide_eq_true rfl]
          go_enter Tryd.func46, Tryd.ntmps46
          go_upto_region 4 with (fail)
          generalize w.alloc (.cells #[.int .i64 1, .int .u64 b, .string t] 65) = W at *
          go_quiet ((go_at_call 72; exact quiet_same (hC _)))
          go_wp2
          go_ret
          exact ⟨rfl, below_drewN _ hB1⟩
        · rw [decide_eq_false hc]
          have q : ((canonF b : Int) == (b : Int)) = false := by simp; omega
          generalize canonF b = cb at *
          go_enter Tryd.func46, Tryd.ntmps46
          go_upto_region 4 with (fail)
          generalize w.alloc (.cells #[.int .i64 1, .int .u64 b, .string t] 65) = W at *
          go_quiet ((go_at_call 72; exact quiet_same (hC _)))
          go_wp2
          go_ret
          exact ⟨rfl, below_drewN _ hB1⟩
    · have q1 : (k == 1) = false := by simp; omega
      clear hE
      by_cases k2 : k = 2
      · subst k2
        rw [formed_text, hz]
        clear hz q0 q1 k0 k1
        by_cases b0 : b = 0
        · subst b0
          by_cases h40 : t.size ≤ 40
          · have q : decide ((t.size : Int) ≤ 40) = true := by simp; omega
            rw [decide_eq_true h40, Bool.and_true, decide_eq_true rfl, Bool.true_and]
            go_enter Tryd.func46, Tryd.ntmps46
            go_wp2_with (go_at_call 73; ((with_reducible refine (refValid_any t _ ht).mono ?_); rintro e w1 ⟨rfl, hb1⟩))
            go_ret
            exact ⟨rfl, hB1.trans (hb1.mono hB1.size)⟩
          · have q : decide ((t.size : Int) ≤ 40) = false := by simp; omega
            rw [decide_eq_false h40, Bool.and_false, Bool.false_and]
            go_enter Tryd.func46, Tryd.ntmps46
            go_wp2
            go_ret
            exact ⟨rfl, hB1⟩
        · have q : ((b : Int) == 0) = false := by simp; omega
          rw [decide_eq_false b0, Bool.false_and, Bool.false_and]
          go_enter Tryd.func46, Tryd.ntmps46
          go_wp2
          go_ret
          exact ⟨rfl, hB1⟩
      · have q2 : (k == 2) = false := by simp; omega
        rw [formed_other k b _ k0 k1 k2]
        clear hz
        go_enter Tryd.func46, Tryd.ntmps46
        go_wp2
        go_ret
        exact ⟨rfl, hB1⟩
end Go.Proofs.YtlkgpajpblhkeaaDoor
