/- What the document's own Order of layer num does at every two numbers, and that it is the order of the keys; that the program isn't asleep. Conditions: the bits are below 2^64. -/
import Derived.Test.YtmaohddmhdhkkaaDoorNumKeys

namespace Go.Proofs.YtmaohddmhdhkkaaDoor

open Go.RowKit

def magF (n : Nat) : Nat := n % 9223372036854775808
theorem magF_bits (n : Nat) (hn : n < 18446744073709551616) : bits .and .u64 (n : Int) 9223372036854775807 = ((magF n : Nat) : Int) := by
  rw [u64_and _ _ (by omega) (by omega) (by omega) (by omega)]
  rw [Int.toNat_natCast, show (9223372036854775807 : Int).toNat = 2 ^ 63 - 1 from rfl, Nat.and_two_pow_sub_one_eq_mod]
  rfl

theorem kind_cases (n : Nat) (hn : n < 18446744073709551616) :
    (kindF n = 0 ∧ keyF n = 0) ∨ (kindF n = 1 ∧ keyF n = 4503599627370495 ∧ magF n = 9218868437227405312)
    ∨ (kindF n = 2 ∧ 4503599627370495 < keyF n ∧ keyF n + magF n = 9223372036854775807 ∧ 0 < magF n)
    ∨ (kindF n = 3 ∧ keyF n = 9223372036854775807 ∧ magF n = 0) ∨ (kindF n = 4 ∧ keyF n = 9223372036854775808 ∧ magF n = 0)
    ∨ (kindF n = 5 ∧ keyF n < 18442240474082181120 ∧ keyF n = 9223372036854775808 + magF n ∧ 0 < magF n)
    ∨ (kindF n = 6 ∧ keyF n = 18442240474082181120 ∧ magF n = 9218868437227405312) := by
  unfold kindF keyF magF
  by_cases h1 : 9218868437227405312 < n % 9223372036854775808
  · rw [if_pos h1, if_pos h1]; exact .inl ⟨rfl, rfl⟩
  rw [if_neg h1, if_neg h1]
  by_cases h2 : n = 18442240474082181120
  · subst h2; decide
  rw [if_neg h2]
  by_cases h3 : n = 9218868437227405312
  · subst h3; decide
  rw [if_neg h3]
  by_cases h5 : 9223372036854775808 ≤ n
  · rw [if_pos h5, if_pos h5, if_pos h5]
    by_cases h4 : n % 9223372036854775808 = 0
    · rw [if_pos h4]; omega
    · rw [if_neg h4]; omega
  · rw [if_neg h5, if_neg h5, if_neg h5]
    by_cases h4 : n % 9223372036854775808 = 0
    · rw [if_pos h4]; omega
    · rw [if_neg h4]; omega

def orderRefF (a b : Nat) : Int :=
  if kindF a < kindF b then -1 else if kindF b < kindF a then 1 else if kindF a = 0 ∨ magF a = magF b then 0 else if (magF a < magF b ↔ kindF a = 5) then -1 else 1

theorem orderRefF_eq (a b : Nat) (ha : a < 18446744073709551616) (hb : b < 18446744073709551616) : orderRefF a b = orderF a b := by
  have h1 := kind_cases a ha
  have h2 := kind_cases b hb
  unfold orderRefF orderF cmpF
  generalize kindF a = ka at *
  generalize kindF b = kb at *
  generalize keyF a = xa at *
  generalize keyF b = xb at *
  generalize magF a = ma at *
  generalize magF b = mb at *
  clear ha hb
  rcases h1 with h | h | h | h | h | h | h <;> rcases h2 with g | g | g | g | g | g | g <;> (split <;> first | omega | (split <;> first | omega | (split <;> first | omega | (split <;> first | omega | (split <;> first | omega | (split <;> omega))))))

theorem orderRef_lt (a b : Nat) (ha : a < 18446744073709551616) (hb : b < 18446744073709551616) (w : World) (h : kindF a < kindF b) :
    Calls Tryd.prog 40 #[.int .u64 a, .int .u64 b] w fun e w' => e = .returned (.int .i64 (-1)) ∧ w = w' := by
  go_enter Tryd.func40, Tryd.ntmps40
  go_wp2_with (go_at_call 57; ((with_reducible refine (kindRef_any _ (by first | exact ha | exact hb) _).mono ?_); rintro e w' ⟨rfl, rfl⟩))
  go_ret
  exact ⟨rfl, rfl⟩

theorem orderRef_gt (a b : Nat) (ha : a < 18446744073709551616) (hb : b < 18446744073709551616) (w : World) (h : kindF b < kindF a) :
    Calls Tryd.prog 40 #[.int .u64 a, .int .u64 b] w fun e w' => e = .returned (.int .i64 1) ∧ w = w' := by
  have h' : ¬ kindF a < kindF b := by omega
  go_enter Tryd.func40, Tryd.ntmps40
  go_wp2_with (go_at_call 57; ((with_reducible refine (kindRef_any _ (by first | exact ha | exact hb) _).mono ?_); rintro e w' ⟨rfl, rfl⟩))
  go_ret
  exact ⟨rfl, rfl⟩

theorem orderRef_nan (a b : Nat) (ha : a < 18446744073709551616) (hb : b < 18446744073709551616) (w : World) (h1 : ¬ kindF a < kindF b) (h2 : ¬ kindF b < kindF a) (h : (kindF a == 0) = true) :
    Calls Tryd.prog 40 #[.int .u64 a, .int .u64 b] w fun e w' => e = .returned (.int .i64 0) ∧ w = w' := by
  have ea := magF_bits a ha
  have eb := magF_bits b hb
  go_enter Tryd.func40, Tryd.ntmps40
  go_wp2_with (go_at_call 57; ((with_reducible refine (kindRef_any _ (by first | exact ha | exact hb) _).mono ?_); rintro e w' ⟨rfl, rfl⟩))
  go_ret
  exact ⟨rfl, rfl⟩

theorem orderRef_eq (a b : Nat) (ha : a < 18446744073709551616) (hb : b < 18446744073709551616) (w : World) (h1 : ¬ kindF a < kindF b) (h2 : ¬ kindF b < kindF a) (h : (kindF a == 0) = false) (hm : (((magF a : Nat) : Int) == ((magF b : Nat) : Int)) = true) :
    Calls Tryd.prog 40 #[.int .u64 a, .int .u64 b] w fun e w' => e = .returned (.int .i64 0) ∧ w = w' := by
  have ea := magF_bits a ha
  have eb := magF_bits b hb
  go_enter Tryd.func40, Tryd.ntmps40
  go_wp2_with (go_at_call 57; ((with_reducible refine (kindRef_any _ (by first | exact ha | exact hb) _).mono ?_); rintro e w' ⟨rfl, rfl⟩))
  all_goals
    go_ret
    exact ⟨rfl, rfl⟩

theorem orderRef_sides (a b : Nat) (ha : a < 18446744073709551616) (hb : b < 18446744073709551616) (w : World) (h1 : ¬ kindF a < kindF b) (h2 : ¬ kindF b < kindF a) (h : (kindF a == 0) = false) (hm : (((magF a : Nat) : Int) == ((magF b : Nat) : Int)) = false)
    (p q : Bool) (hp : decide (magF a < magF b) = p) (hq : (kindF a == 5) = q) :
    Calls Tryd.prog 40 #[.int .u64 a, .int .u64 b] w fun e w' => e = .returned (.int .i64 (if p == q then -1 else 1)) ∧ w = w' := by
  have ea := magF_bits a ha
  have eb := magF_bits b hb
  cases p <;> cases q
  all_goals
    go_enter Tryd.func40, Tryd.ntmps40
    go_wp2_with (go_at_call 57; ((with_reducible refine (kindRef_any _ (by first | exact ha | exact hb) _).mono ?_); rintro e w' ⟨rfl, rfl⟩))
    go_ret
    exact ⟨rfl, rfl⟩

theorem orderRef_any (a b : Nat) (ha : a < 18446744073709551616) (hb : b < 18446744073709551616) (w : World) :
    Calls Tryd.prog 40 #[.int .u64 a, .int .u64 b] w fun e w' => e = .returned (.int .i64 (orderF a b)) ∧ w = w' := by
  rw [← orderRefF_eq a b ha hb]
  unfold orderRefF
  by_cases h1 : kindF a < kindF b
  · rw [if_pos h1]; exact orderRef_lt a b ha hb w h1
  rw [if_neg h1]
  by_cases h2 : kindF b < kindF a
  · rw [if_pos h2]; exact orderRef_gt a b ha hb w h2
  rw [if_neg h2]
  by_cases h3 : kindF a = 0
  · rw [if_pos (.inl h3)]; exact orderRef_nan a b ha hb w h1 h2 (by rw [h3]; rfl)
  by_cases h4 : magF a = magF b
  · rw [if_pos (.inr h4)]; exact orderRef_eq a b ha hb w h1 h2 (by simpa using h3) (by simp [h4])
  rw [if_neg (by omega)]
  have e := orderRef_sides a b ha hb w h1 h2 (by simpa using h3) (by simp; omega) _ _ rfl rfl
  have k : (if (magF a < magF b ↔ kindF a = 5) then (-1 : Int) else 1) = if decide (magF a < magF b) == (kindF a == 5) then -1 else 1 := by
    by_cases c : magF a < magF b <;> by_cases d : kindF a = 5 <;> simp [c, d]
  rw [k]
  exact e

theorem order_zeros (w : World) : Calls Tryd.prog 38 #[.int .u64 9223372036854775808, .int .u64 0] w fun e w' => e = .returned (.int .i64 (-1)) ∧ w = w' := numOrder_any 9223372036854775808 0 (by decide) (by decide) w

end Go.Proofs.YtmaohddmhdhkkaaDoor
