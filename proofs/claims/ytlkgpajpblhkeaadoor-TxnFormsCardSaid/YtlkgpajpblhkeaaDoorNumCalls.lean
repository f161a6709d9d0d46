/- What the small functions of package math and of layer num do at every float64 and every number: walks over the program's text. Conditions: the bits are below 2^64. -/
import Derived.Test.YtlkgpajpblhkeaaDoorRows

import Derived.Test.YtlkgpajpblhkeaaDoorNumMath

import Derived.WalkKit

import Derived.WalkSpells

import Derived.WalkLawsBesides

namespace Go.Proofs.YtlkgpajpblhkeaaDoor

open Go.RowKit

def nanB (n : Nat) : Bool := decide (9218868437227405312 < n % 9223372036854775808)
def negB (n : Nat) : Bool := decide (9223372036854775808 ≤ n)

theorem nanB_eq (n : Nat) : nanB n = (FloatKind.f64.format.order n n != some .eq) := by
  have h := order_self n
  unfold nanB
  rw [bne, h]
  by_cases c : n % 9223372036854775808 ≤ 9218868437227405312
  · rw [decide_eq_true c, decide_eq_false (by omega)]; rfl
  · rw [decide_eq_false c, decide_eq_true (by omega)]; rfl

theorem fromBits (n : Nat) (w : World) : (callFunc 96 #[.int .u64 (n : Int)]).run Tryd.prog w = .ok (.value (.float .f64 n)) w := by kernel_rfl
theorem isNaN_any (n : Nat) (w : World) :
    Calls Tryd.prog 95 #[.float .f64 n] w fun e w' => e = .returned (.bool (nanB n)) ∧ w = w' := by
  rw [nanB_eq]
  go_enter Tryd.func95, Tryd.ntmps95
  go_wp2
  go_ret
  exact ⟨rfl, rfl⟩

theorem canon_nan (n : Nat) (w : World) (h : nanB n = true) :
    Calls Tryd.prog 86 #[.int .u64 n] w fun e w' => e = .returned (.int .u64 9221120237041090560) ∧ w = w' := by
  have hb := fromBits
  go_enter Tryd.func86, Tryd.ntmps86
  go_wp2_with (go_at_call 95; refine (isNaN_any _ _).mono ?_; rintro e w' ⟨rfl, rfl⟩)
  go_ret
  exact ⟨rfl, rfl⟩

theorem canon_num (n : Nat) (w : World) (h : nanB n = false) :
    Calls Tryd.prog 86 #[.int .u64 n] w fun e w' => e = .returned (.int .u64 n) ∧ w = w' := by
  have hb := fromBits
  go_enter Tryd.func86, Tryd.ntmps86
  go_wp2_with (go_at_call 95; refine (isNaN_any _ _).mono ?_; rintro e w' ⟨rfl, rfl⟩)
  go_ret
  exact ⟨rfl, rfl⟩

/-! IsInf at the two signs -/
def infB (n : Nat) : Bool := decide (n = 9218868437227405312)
def minusInfB (n : Nat) : Bool := decide (n = 18442240474082181120)

theorem negB_eq (n : Nat) (hn : n < 18446744073709551616) : negB n = decide (wrap64 (n : Int) < 0) := by
  unfold negB wrap64
  by_cases c : 9223372036854775808 ≤ n
  · rw [decide_eq_true c, decide_eq_true (by omega)]
  · rw [decide_eq_false c, decide_eq_false (by omega)]

def kindF (n : Nat) : Int :=
  if 9218868437227405312 < n % 9223372036854775808 then 0 else if n = 18442240474082181120 then 1 else if n = 9218868437227405312 then 6
  else if n % 9223372036854775808 = 0 then (if 9223372036854775808 ≤ n then 3 else 4) else if 9223372036854775808 ≤ n then 2 else 5

def pickF (a b c d : Bool) (o : Ordering) : Int := if a then 0 else if b then 1 else if c then 6 else match o with | .lt => 2 | .gt => 5 | .eq => if d then 3 else 4

end Go.Proofs.YtlkgpajpblhkeaaDoor
