/- What the small functions of package math and of layer num do at every float64 and every number: walks over the program's text. Conditions: the bits are below 2^64. -/
import Derived.Test.YtbdccfggnbopgaaRows
import Derived.Test.YtbdccfggnbopgaaMath
import Derived.WalkKit
import Derived.WalkSpells
import Derived.WalkLawsBesides
namespace Go.Proofs.Ytbdccfggnbopgaa
open Go.RowKit

def nanB (n : Nat) : Bool := decide (9218868437227405312 < n % 9223372036854775808)
def negB (n : Nat) : Bool := decide (9223372036854775808 ≤ n)

theorem nanB_eq (n : Nat) : nanB n = (FloatKind.f64.format.order n n != some .eq) := by
  have h := order_self n
  unfold nanB
  rw [bne, h]
  by_cases c : n % 9223372036854775808 ≤ 9218868437227405312
  · rw [decide_eq_true c, decide_eq_false (by omega)]; rfl
  · rw [decide_eq_false c, decide_eq_true (by omega)]; rfl

theorem fromBits (n : Nat) (w : World) : (callFunc 24 #[.int .u64 (n : Int)]).run Try.prog w = .ok (.value (.float .f64 n)) w := by kernel_rfl
theorem toBits (n : Nat) (w : World) : (callFunc 31 #[.float .f64 n]).run Try.prog w = .ok (.value (.int .u64 (n : Int))) w := by kernel_rfl

theorem isNaN_any (n : Nat) (w : World) :
    Calls Try.prog 25 #[.float .f64 n] w fun e w' => e = .returned (.bool (nanB n)) ∧ w = w' := by
  rw [nanB_eq]
  go_enter Try.func25, Try.ntmps25
  go_wp2
  go_ret
  exact ⟨rfl, rfl⟩

theorem canon_nan (n : Nat) (w : World) (h : nanB n = true) :
    Calls Try.prog 11 #[.int .u64 n] w fun e w' => e = .returned (.int .u64 9221120237041090560) ∧ w = w' := by
  have hb := fromBits
  go_enter Try.func11, Try.ntmps11
  go_wp2_with (go_at_call 25; refine (isNaN_any _ _).mono ?_; rintro e w' ⟨rfl, rfl⟩)
  go_ret
  exact ⟨rfl, rfl⟩

theorem canon_num (n : Nat) (w : World) (h : nanB n = false) :
    Calls Try.prog 11 #[.int .u64 n] w fun e w' => e = .returned (.int .u64 n) ∧ w = w' := by
  have hb := fromBits
  go_enter Try.func11, Try.ntmps11
  go_wp2_with (go_at_call 25; refine (isNaN_any _ _).mono ?_; rintro e w' ⟨rfl, rfl⟩)
  go_ret
  exact ⟨rfl, rfl⟩

/-! IsInf at the two signs -/
def infB (n : Nat) : Bool := decide (n = 9218868437227405312)
def minusInfB (n : Nat) : Bool := decide (n = 18442240474082181120)

theorem isInf_plus (n : Nat) (hn : n < 18446744073709551616) (w : World) :
    Calls Try.prog 26 #[.float .f64 n, .int .i64 1] w fun e w' => e = .returned (.bool (infB n)) ∧ w = w' := by
  have e : infB n = (FloatKind.f64.format.order n 9218868437227405311 == some .gt) := (order_max n hn).symm
  rw [e]
  clear e
  go_enter Try.func26, Try.ntmps26
  go_wp2
  go_ret
  exact ⟨rfl, rfl⟩

theorem isInf_minus (n : Nat) (hn : n < 18446744073709551616) (w : World) :
    Calls Try.prog 26 #[.float .f64 n, .int .i64 (-1)] w fun e w' => e = .returned (.bool (minusInfB n)) ∧ w = w' := by
  have e : minusInfB n = (FloatKind.f64.format.order (Op.negFloat .f64 n) 9218868437227405311 == some .gt) := by
    rw [order_max _ (by rw [neg_bits n hn]; split <;> omega), neg_bits n hn]
    unfold minusInfB
    by_cases h : n < 9223372036854775808
    · rw [if_pos h, decide_eq_false (by omega), decide_eq_false (by omega)]
    · rw [if_neg h]
      by_cases c : n = 18442240474082181120
      · rw [decide_eq_true c, decide_eq_true (by omega)]
      · rw [decide_eq_false c, decide_eq_false (by omega)]
  rw [e]
  clear e
  have hneg : ∀ (b : Nat) (w : World), (Op.unary .neg (.float .f64 b)).run Try.prog w = .ok (.float .f64 (Op.negFloat .f64 b)) w := fun _ _ => rfl
  go_enter Try.func26, Try.ntmps26
  go_wp2
  go_ret
  exact ⟨rfl, rfl⟩

theorem negB_eq (n : Nat) (hn : n < 18446744073709551616) : negB n = decide (wrap64 (n : Int) < 0) := by
  unfold negB wrap64
  by_cases c : 9223372036854775808 ≤ n
  · rw [decide_eq_true c, decide_eq_true (by omega)]
  · rw [decide_eq_false c, decide_eq_false (by omega)]

theorem signbit_any (n : Nat) (hn : n < 18446744073709551616) (w : World) :
    Calls Try.prog 27 #[.float .f64 n] w fun e w' => e = .returned (.bool (negB n)) ∧ w = w' := by
  have hb := toBits
  rw [negB_eq n hn]
  go_enter Try.func27, Try.ntmps27
  go_wp2
  go_ret
  exact ⟨rfl, rfl⟩

/-! Kind, the program's -/
def kindF (n : Nat) : Int :=
  if 9218868437227405312 < n % 9223372036854775808 then 0 else if n = 18442240474082181120 then 1 else if n = 9218868437227405312 then 6
  else if n % 9223372036854775808 = 0 then (if 9223372036854775808 ≤ n then 3 else 4) else if 9223372036854775808 ≤ n then 2 else 5

def pickF (a b c d : Bool) (o : Ordering) : Int := if a then 0 else if b then 1 else if c then 6 else match o with | .lt => 2 | .gt => 5 | .eq => if d then 3 else 4

set_option maxHeartbeats 1000000 in
theorem kind_walk (n : Nat) (hn : n < 18446744073709551616) (w : World) (o : Ordering) (a b c d : Bool) (k : Int)
    (ha : nanB n = a) (hb : minusInfB n = b) (hc : infB n = c) (hd : negB n = d) (ho : a = false → FloatKind.f64.format.order n 0 = some o)
    (hk : k = pickF a b c d o) :
    Calls Try.prog 9 #[.int .u64 n] w fun e w' => e = .returned (.int .i64 k) ∧ w = w' := by
  have hfb := fromBits
  subst hk
  cases a
  · have ho' := ho rfl
    clear ho
    cases b
    · cases c
      · cases o
        · go_enter Try.func9, Try.ntmps9
          go_wp2_with (first | (go_at_call 25; refine (isNaN_any _ _).mono ?_; rintro e w' ⟨rfl, rfl⟩) | (go_at_call 26; first | ((with_reducible refine (isInf_minus _ hn _).mono ?_); rintro e w' ⟨rfl, rfl⟩) | (refine (isInf_plus _ hn _).mono ?_; rintro e w' ⟨rfl, rfl⟩)) | (go_at_call 27; refine (signbit_any _ hn _).mono ?_; rintro e w' ⟨rfl, rfl⟩))
          go_ret
          exact ⟨rfl, rfl⟩
        · cases d
          all_goals
            go_enter Try.func9, Try.ntmps9
            go_wp2_with (first | (go_at_call 25; refine (isNaN_any _ _).mono ?_; rintro e w' ⟨rfl, rfl⟩) | (go_at_call 26; first | ((with_reducible refine (isInf_minus _ hn _).mono ?_); rintro e w' ⟨rfl, rfl⟩) | (refine (isInf_plus _ hn _).mono ?_; rintro e w' ⟨rfl, rfl⟩)) | (go_at_call 27; refine (signbit_any _ hn _).mono ?_; rintro e w' ⟨rfl, rfl⟩))
            go_ret
            exact ⟨rfl, rfl⟩
        · go_enter Try.func9, Try.ntmps9
          go_wp2_with (first | (go_at_call 25; refine (isNaN_any _ _).mono ?_; rintro e w' ⟨rfl, rfl⟩) | (go_at_call 26; first | ((with_reducible refine (isInf_minus _ hn _).mono ?_); rintro e w' ⟨rfl, rfl⟩) | (refine (isInf_plus _ hn _).mono ?_; rintro e w' ⟨rfl, rfl⟩)) | (go_at_call 27; refine (signbit_any _ hn _).mono ?_; rintro e w' ⟨rfl, rfl⟩))
          go_ret
          exact ⟨rfl, rfl⟩
      · go_enter Try.func9, Try.ntmps9
        go_wp2_with (first | (go_at_call 25; refine (isNaN_any _ _).mono ?_; rintro e w' ⟨rfl, rfl⟩) | (go_at_call 26; first | ((with_reducible refine (isInf_minus _ hn _).mono ?_); rintro e w' ⟨rfl, rfl⟩) | (refine (isInf_plus _ hn _).mono ?_; rintro e w' ⟨rfl, rfl⟩)) | (go_at_call 27; refine (signbit_any _ hn _).mono ?_; rintro e w' ⟨rfl, rfl⟩))
        go_ret
        exact ⟨rfl, rfl⟩
    · go_enter Try.func9, Try.ntmps9
      go_wp2_with (first | (go_at_call 25; refine (isNaN_any _ _).mono ?_; rintro e w' ⟨rfl, rfl⟩) | (go_at_call 26; first | ((with_reducible refine (isInf_minus _ hn _).mono ?_); rintro e w' ⟨rfl, rfl⟩) | (refine (isInf_plus _ hn _).mono ?_; rintro e w' ⟨rfl, rfl⟩)) | (go_at_call 27; refine (signbit_any _ hn _).mono ?_; rintro e w' ⟨rfl, rfl⟩))
      go_ret
      exact ⟨rfl, rfl⟩
  · clear ho
    go_enter Try.func9, Try.ntmps9
    go_wp2_with (first | (go_at_call 25; refine (isNaN_any _ _).mono ?_; rintro e w' ⟨rfl, rfl⟩) | (go_at_call 26; first | ((with_reducible refine (isInf_minus _ hn _).mono ?_); rintro e w' ⟨rfl, rfl⟩) | (refine (isInf_plus _ hn _).mono ?_; rintro e w' ⟨rfl, rfl⟩)) | (go_at_call 27; refine (signbit_any _ hn _).mono ?_; rintro e w' ⟨rfl, rfl⟩))
    go_ret
    exact ⟨rfl, rfl⟩

theorem kind_any (n : Nat) (hn : n < 18446744073709551616) (w : World) :
    Calls Try.prog 9 #[.int .u64 n] w fun e w' => e = .returned (.int .i64 (kindF n)) ∧ w = w' := by
  refine kind_walk n hn w (if n % 9223372036854775808 = 0 then .eq else if sgn n = true then .lt else .gt) _ _ _ _ _ rfl rfl rfl rfl ?_ ?_
  · intro h
    refine order_zero n ?_
    unfold nanB at h
    have := of_decide_eq_false h
    omega
  · unfold kindF pickF nanB minusInfB infB negB sgn
    by_cases h1 : 9218868437227405312 < n % 9223372036854775808
    · rw [if_pos h1, decide_eq_true h1]; rfl
    rw [if_neg h1, decide_eq_false h1]
    by_cases h2 : n = 18442240474082181120
    · rw [if_pos h2, decide_eq_true h2]; rfl
    rw [if_neg h2, decide_eq_false h2]
    by_cases h3 : n = 9218868437227405312
    · rw [if_pos h3, decide_eq_true h3]; rfl
    rw [if_neg h3, decide_eq_false h3]
    by_cases h4 : n % 9223372036854775808 = 0
    · rw [if_pos h4, if_pos h4]
      by_cases h5 : 9223372036854775808 ≤ n
      · rw [if_pos h5, decide_eq_true h5]; rfl
      · rw [if_neg h5, decide_eq_false h5]; rfl
    · rw [if_neg h4, if_neg h4]
      by_cases h5 : 9223372036854775808 ≤ n
      · have e : (n / 9223372036854775808 % 2 == 1) = true := by simp; omega
        rw [if_pos h5, e]; rfl
      · have e : (n / 9223372036854775808 % 2 == 1) = false := by simp; omega
        rw [if_neg h5, e]; rfl

end Go.Proofs.Ytbdccfggnbopgaa
