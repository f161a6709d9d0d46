/- Plain facts on adding float64 bits, with no program in sight: a NaN's sum is a NaN's, and which NaN makes no difference to the canonical bits. No conditions beyond those that each theorem names. -/
import Derived.Test.YtbdccfggnbopgaaOrd
namespace Go.Proofs.Ytbdccfggnbopgaa
open Go.RowKit

def NaN (n : Nat) : Prop := 9218868437227405312 < n % 9223372036854775808

theorem read_nan {x : Nat} (h : NaN x) : ∃ s t, Ieee.double.read x = .nan s t := by
  unfold NaN at h
  rw [read_eq, if_neg (by omega), if_neg (by omega), if_neg (by omega)]
  exact ⟨_, _, rfl⟩

theorem add_nan_left {x : Nat} (h : NaN x) (y : Nat) : FloatKind.f64.format.add x y = none := by
  show Ieee.double.add x y = none
  obtain ⟨s, t, e⟩ := read_nan h
  unfold Ieee.Format.add
  rw [e]; rfl
theorem add_nan_right {y : Nat} (h : NaN y) (x : Nat) : FloatKind.f64.format.add x y = none := by
  show Ieee.double.add x y = none
  obtain ⟨s, t, e⟩ := read_nan h
  unfold Ieee.Format.add
  rw [e]
  cases Ieee.double.read x <;> rfl

def addF (x y : Nat) : Nat := match FloatKind.f64.format.add x y with | some r => r | none => 9221120237041090560

theorem addF_some {x y r : Nat} (h : FloatKind.f64.format.add x y = some r) : addF x y = r := by unfold addF; rw [h]
theorem addF_none {x y : Nat} (h : FloatKind.f64.format.add x y = none) : addF x y = 9221120237041090560 := by unfold addF; rw [h]
theorem add_lt64 {x y r : Nat} (h : FloatKind.f64.format.add x y = some r) : r < 18446744073709551616 := by
  have := Ieee.double.add_lt (x := x) (y := y) (r := r) h
  exact this
theorem addF_lt (x y : Nat) : addF x y < 18446744073709551616 := by
  unfold addF
  split
  · rename_i r h; exact add_lt64 h
  · decide

/-- The same number: the same bits, or both a NaN's. -/
def Same (x t : Nat) : Prop := x = t ∨ (NaN x ∧ NaN t)

theorem Same.refl (x : Nat) : Same x x := .inl rfl
theorem Same.canon {x t : Nat} (h : Same x t) : canonF x = canonF t := by
  rcases h with rfl | ⟨a, b⟩
  · rfl
  · unfold NaN at a b; unfold canonF; rw [if_pos a, if_pos b]

theorem Same.add_some {x t y r : Nat} (h : Same x t) (e : FloatKind.f64.format.add x y = some r) : Same r (addF t y) := by
  rcases h with rfl | ⟨a, b⟩
  · rw [addF_some e]; exact .refl _
  · rw [add_nan_left a] at e; cases e
theorem nan_canon : NaN 9221120237041090560 := by unfold NaN; decide
theorem Same.add_none {x t y r : Nat} (h : Same x t) (e : FloatKind.f64.format.add x y = none) (hr : NaN r) : Same r (addF t y) := by
  rcases h with rfl | ⟨a, b⟩
  · rw [addF_none e]; exact .inr ⟨hr, nan_canon⟩
  · rw [addF_none (add_nan_left b y)]; exact .inr ⟨hr, nan_canon⟩

/-- The NaN that an addition hands back, where the language doesn't say which. -/
def nanAt (w : World) (x y : Nat) : Nat := Question.cut (.nanBits .f64 x y) (w.tape w.drawn (.nanBits .f64 x y))
theorem nanAt_eq (w : World) (x y : Nat) : ∃ s f, nanAt w x y = s % 2 * 9223372036854775808 + 9218868437227405312 + 1 + f % 4503599627370495 := ⟨_, _, rfl⟩
theorem nanAt_nan (w : World) (x y : Nat) : NaN (nanAt w x y) := by
  obtain ⟨s, f, e⟩ := nanAt_eq w x y
  rw [e]; unfold NaN; omega
theorem nanAt_lt (w : World) (x y : Nat) : nanAt w x y < 18446744073709551616 := by
  obtain ⟨s, f, e⟩ := nanAt_eq w x y
  rw [e]; omega

theorem run_add_nan (t : TypeId) (x y : Nat) (h : FloatKind.f64.format.add x y = none) (w : World) :
    (binOp .add t (.float .f64 x) (.float .f64 y)).run Try.prog w = .ok (.float .f64 (nanAt w x y)) w.drew := by
  simp [binOp, Op.floatArith, h, Question.forced]
  rfl

/-- The sum of f 0, .., f k, one behind the other. -/
def sumTo (f : Nat → Nat) : Nat → Nat
  | 0 => f 0
  | k + 1 => addF (sumTo f k) (f (k + 1))

theorem sumTo_lt (f : Nat → Nat) (h : f 0 < 18446744073709551616) (k : Nat) : sumTo f k < 18446744073709551616 := by
  cases k with
  | zero => exact h
  | succ k => exact addF_lt _ _
end Go.Proofs.Ytbdccfggnbopgaa
