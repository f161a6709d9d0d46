/- Contracts of quorum's functions: fits, bounded, Has, Add, Least, Count, Majority, in the terms of the plain mathematics. Condition: a set is below 2^64. -/
import Derived.Test.YtfmbjjdicghbaaaRows

import Derived.Test.YtfmbjjdicghbaaaQuorumMath

import Derived.WalkKit

import Derived.Lib.Hide

import Derived.Laws.BitsAllLaws

namespace Go.Proofs.Ytfmbjjdicghbaaa

open Go.RowKit

def fitB (i : Int) : Bool := decide (0 ≤ i) && decide (i ≤ 63)
theorem fit_yes (i : Int) (h0 : 0 ≤ i) (h1 : i ≤ 63) : fitB i = true := by unfold fitB; simp [h0, h1]
theorem fit_no (i : Int) (h : i < 0 ∨ 63 < i) : fitB i = false := by unfold fitB; rw [Bool.and_eq_false_iff, decide_eq_false_iff_not, decide_eq_false_iff_not]; omega

set_option maxHeartbeats 1000000 in
theorem qFits_any (i : Int) (w : World) :
    Calls Try.prog 23 #[.int .i64 i] w fun e w' => e = .returned (.bool (fitB i)) ∧ w = w' := by
  by_cases h0 : 0 ≤ i
  · by_cases h1 : i ≤ 63
    · have HF := Lib.hid (fit_yes i h0 h1)
      have h2 : i < 64 := by omega
      go_enter Try.func23, Try.ntmps23
      go_wp2
      go_ret
      exact ⟨by rw [HF.out]; rfl, rfl⟩
    · have HF := Lib.hid (fit_no i (.inr (by omega)))
      have h2 : ¬ i < 64 := by omega
      go_enter Try.func23, Try.ntmps23
      go_wp2
      go_ret
      exact ⟨by rw [HF.out]; rfl, rfl⟩
  · have HF := Lib.hid (fit_no i (.inl (by omega)))
    go_enter Try.func23, Try.ntmps23
    go_wp2
    go_ret
    exact ⟨by rw [HF.out]; rfl, rfl⟩

theorem upto_low (n : Int) (h : n < 0) : upto n = 0 := by unfold upto; rw [if_pos h]
theorem upto_high (n : Int) (h : 64 < n) : upto n = 64 := by unfold upto; rw [if_neg (by omega), if_pos h]
theorem upto_mid (n : Int) (h0 : 0 ≤ n) (h1 : n ≤ 64) : ((upto n : Nat) : Int) = n := by unfold upto; rw [if_neg (by omega), if_neg (by omega)]; omega

set_option maxHeartbeats 1000000 in
theorem qBounded_any (n : Int) (w : World) :
    Calls Try.prog 22 #[.int .i64 n] w fun e w' => e = .returned (.int .i64 (upto n : Nat)) ∧ w = w' := by
  have hc : n < 0 ∨ 64 < n ∨ (0 ≤ n ∧ n ≤ 64) := by omega
  rcases hc with h | h | ⟨h, h1⟩
  · have HU := Lib.hid (upto_low n h)
    go_enter Try.func22, Try.ntmps22
    go_wp2
    go_ret
    exact ⟨by rw [HU.out]; rfl, rfl⟩
  · have HU := Lib.hid (upto_high n h)
    have h2 : ¬ n < 0 := by omega
    go_enter Try.func22, Try.ntmps22
    go_wp2
    go_ret
    exact ⟨by rw [HU.out]; rfl, rfl⟩
  · have HU := Lib.hid (upto_mid n h h1)
    have h2 : ¬ n < 0 := by omega
    have h3 : ¬ 64 < n := by omega
    go_enter Try.func22, Try.ntmps22
    go_wp2
    go_ret
    exact ⟨by rw [HU.out]; rfl, rfl⟩

theorem has_yes (s : Nat) (i : Int) (h0 : 0 ≤ i) (h1 : i ≤ 63) : hasB s i = s.testBit i.toNat := by unfold hasB; simp [h0, h1]
theorem has_no (s : Nat) (i : Int) (h : i < 0 ∨ 63 < i) : hasB s i = false := by
  unfold hasB
  rcases h with h | h
  · have : decide (0 ≤ i) = false := by simp; omega
    rw [this]; rfl
  · have : decide (i ≤ 63) = false := by simp; omega
    rw [this, Bool.false_and, Bool.and_false]
theorem shr_and (s : Nat) (i : Int) (hs : s < 18446744073709551616) (h0 : 0 ≤ i) (h1 : i ≤ 63) : (bits .and .u64 ((s : Int) / 2 ^ i.toNat) 1 == 1) = hasB s i := by
  rw [has_yes s i h0 h1, Nat.testBit_eq_decide_div_mod_eq]
  generalize i.toNat = k
  have hd : s / 2 ^ k < 18446744073709551616 := Nat.lt_of_le_of_lt (Nat.div_le_self _ _) hs
  have g := u64_and_nat (s / 2 ^ k) 1 hd (by omega)
  rw [nat_mask1] at g
  have c : ((s : Int) / 2 ^ k) = ((s / 2 ^ k : Nat) : Int) := by push_cast; rfl
  have g' : bits .and .u64 ((s : Int) / 2 ^ k) 1 = ((s / 2 ^ k % 2 : Nat) : Int) := by rw [c]; exact g
  rw [g']
  rcases Nat.mod_two_eq_zero_or_one (s / 2 ^ k) with h | h <;> rw [h] <;> rfl

set_option maxHeartbeats 1000000 in
theorem qHas_any (s : Nat) (i : Int) (w : World) (hs : s < 18446744073709551616) :
    Calls Try.prog 20 #[.int .u64 s, .int .i64 i] w fun e w' => e = .returned (.bool (hasB s i)) ∧ w = w' := by
  by_cases h0 : 0 ≤ i ∧ i ≤ 63
  · have HF := fit_yes i h0.1 h0.2
    have HB := shr_and s i hs h0.1 h0.2
    have h00 : 0 ≤ i := h0.1
    have HH := Lib.hid HB
    clear HB
    go_enter Try.func20, Try.ntmps20
    go_wp2_with (go_at_call 23; ((with_reducible refine (qFits_any _ _).mono ?_); rintro e w' ⟨rfl, rfl⟩))
    go_ret
    exact ⟨by rw [← HH.out]; rfl, rfl⟩
  · have HF := fit_no i (by omega)
    have HB := Lib.hid (has_no s i (by omega))
    go_enter Try.func20, Try.ntmps20
    go_wp2_with (go_at_call 23; ((with_reducible refine (qFits_any _ _).mono ?_); rintro e w' ⟨rfl, rfl⟩))
    go_ret
    exact ⟨by rw [HB.out]; rfl, rfl⟩

theorem add_yes (s : Nat) (i : Int) (h0 : 0 ≤ i) (h1 : i ≤ 63) : addF s i = s ||| 2 ^ i.toNat := by unfold addF; rw [if_pos ⟨h0, h1⟩]
theorem add_no (s : Nat) (i : Int) (h : i < 0 ∨ 63 < i) : addF s i = s := by unfold addF; rw [if_neg (by omega)]
theorem or_shl (s : Nat) (i : Int) (hs : s < 18446744073709551616) (h0 : 0 ≤ i) (h1 : i ≤ 63) : bits .or .u64 (s : Int) (IntKind.u64.wrap (2 ^ i.toNat)) = ((addF s i : Nat) : Int) := by
  have hp : 2 ^ i.toNat < 18446744073709551616 := by
    have : 2 ^ i.toNat < 2 ^ 64 := Nat.pow_lt_pow_right (by omega) (by omega)
    omega
  have g := u64_or_nat s (2 ^ i.toNat) hs hp
  rw [add_yes s i h0 h1, ← g]
  have c : IntKind.u64.wrap (2 ^ i.toNat) = ((2 ^ i.toNat : Nat) : Int) := by
    rw [show ((2 : Int) ^ i.toNat) = ((2 ^ i.toNat : Nat) : Int) by push_cast; rfl]
    generalize 2 ^ i.toNat = p at *
    rw [IntKind.wrap_u64]; omega
  rw [c]

set_option maxHeartbeats 1000000 in
theorem qAdd_any (s : Nat) (i : Int) (w : World) (hs : s < 18446744073709551616) :
    Calls Try.prog 18 #[.int .u64 s, .int .i64 i] w fun e w' => e = .returned (.int .u64 (addF s i : Nat)) ∧ w = w' := by
  by_cases h0 : 0 ≤ i ∧ i ≤ 63
  · have HF := fit_yes i h0.1 h0.2
    have HH := Lib.hid (or_shl s i hs h0.1 h0.2)
    have h00 : 0 ≤ i := h0.1
    go_enter Try.func18, Try.ntmps18
    go_wp2_with (go_at_call 23; ((with_reducible refine (qFits_any _ _).mono ?_); rintro e w' ⟨rfl, rfl⟩))
    go_ret
    exact ⟨by rw [← HH.out]; rfl, rfl⟩
  · have HF := fit_no i (by omega)
    have HB := Lib.hid (add_no s i (by omega))
    go_enter Try.func18, Try.ntmps18
    go_wp2_with (go_at_call 23; ((with_reducible refine (qFits_any _ _).mono ?_); rintro e w' ⟨rfl, rfl⟩))
    go_ret
    exact ⟨by rw [HB.out]; rfl, rfl⟩

theorem least_eq (n : Int) : leastF n = upto n / 2 + 1 := by
  unfold leastF
  split
  · have : upto n = 0 := by unfold upto; split; rfl; rw [if_neg (by omega)]; omega
    rw [this]
  · rfl

set_option maxHeartbeats 1000000 in
theorem qLeast_any (n : Int) (w : World) :
    Calls Try.prog 13 #[.int .i64 n] w fun e w' => e = .returned (.int .i64 (leastF n : Nat)) ∧ w = w' := by
  have HL := Lib.hid (least_eq n)
  have hu := upto_le n
  go_enter Try.func13, Try.ntmps13
  go_wp2_with (go_at_call 22; ((with_reducible refine (qBounded_any _ _).mono ?_); rintro e w' ⟨rfl, rfl⟩))
  go_ret
  exact ⟨by rw [HL.out]; go_num, rfl⟩

theorem cnt_step (s k : Nat) (hk : k ≤ 63) : cntN s (k + 1) = cntN s k + (if hasB s (k : Int) = true then 1 else 0) := by
  rw [cntN, has_yes s k (by omega) (by omega)]; rfl

set_option maxHeartbeats 1000000 in
theorem qCount_any (s : Nat) (n : Int) (w : World) (hs : s < 18446744073709551616) :
    Calls Try.prog 9 #[.int .u64 s, .int .i64 n] w fun e w' => e = .returned (.int .i64 (cntN s (upto n) : Nat)) ∧ w = w' := by
  have hu := upto_le n
  go_enter Try.func9, Try.ntmps9
  go_wp2_with (go_at_call 22; ((with_reducible refine (qBounded_any _ _).mono ?_); rintro e w' ⟨rfl, rfl⟩))
  generalize hm : upto n = m at *
  have HM := Lib.hid hm
  clear hm
  go_loop [5, 9] (fun c i => ∃ (k : Nat), k ≤ m ∧ i = .int .i64 k ∧ c = .int .i64 (cntN s k : Nat)) (fun _ i => m - (intOf i).toNat)
  case atStart => exact ⟨0, by omega, rfl, rfl⟩
  case round =>
    obtain ⟨k, hk, rfl, rfl⟩ := hrel
    have hc := cnt_le s k
    by_cases hlt : k < m
    · have HS := cnt_step s k (by omega)
      cases hb : hasB s k
      · rw [hb] at HS
        have HS := Lib.hid HS
        go_wp2_with (go_at_call 20; ((with_reducible refine (qHas_any _ _ _ hs).mono ?_); rintro e w' ⟨rfl, rfl⟩))
        go_round
        case rel => exact ⟨k + 1, by omega, by go_num, by rw [HS.out]; rfl⟩
        case measure => simp [intOf]; omega
      · rw [hb] at HS
        have HS := Lib.hid HS
        go_wp2_with (go_at_call 20; ((with_reducible refine (qHas_any _ _ _ hs).mono ?_); rintro e w' ⟨rfl, rfl⟩))
        go_round
        case rel => exact ⟨k + 1, by omega, by go_num, by rw [HS.out]; go_num⟩
        case measure => simp [intOf]; omega
    · obtain rfl : k = m := by omega
      go_wp2
      go_ret
      exact ⟨by rw [HM.out]; rfl, rfl⟩

theorem maj_le (s : Nat) (n : Int) : decide (leastF n ≤ cntN s (upto n)) = majB s n := by
  unfold majB
  by_cases h : 1 ≤ n
  · simp [h]
  · have h1 : leastF n = 1 := by unfold leastF; rw [if_pos (by omega)]
    have h2 : upto n = 0 := by unfold upto; split; rfl; rw [if_neg (by omega)]; omega
    rw [h1, h2]; simp [h, cntN]

set_option maxHeartbeats 1000000 in
theorem qMajority_any (s : Nat) (n : Int) (w : World) (hs : s < 18446744073709551616) :
    Calls Try.prog 11 #[.int .u64 s, .int .i64 n] w fun e w' => e = .returned (.bool (majB s n)) ∧ w = w' := by
  have HM := Lib.hid (maj_le s n)
  go_enter Try.func11, Try.ntmps11
  go_wp2_with (first
    | (go_at_call 9; ((with_reducible refine (qCount_any _ _ _ hs).mono ?_); rintro e w' ⟨rfl, rfl⟩))
    | (go_at_call 13; ((with_reducible refine (qLeast_any _ _).mono ?_); rintro e w' ⟨rfl, rfl⟩)))
  go_ret
  exact ⟨by rw [← HM.out]; simp, rfl⟩

theorem awake_maj : majB 5 3 = true := by decide
theorem awake_least : leastF 5 = 3 := by decide
theorem maj53_any (w : World) : Calls Try.prog 11 #[.int .u64 5, .int .i64 3] w fun e w' => e = .returned (.bool true) ∧ w = w' := by
  have h := qMajority_any 5 3 w (by omega)
  rw [awake_maj] at h
  exact h
theorem least5_any (w : World) : Calls Try.prog 13 #[.int .i64 5] w fun e w' => e = .returned (.int .i64 3) ∧ w = w' := by
  have h := qLeast_any 5 w
  rw [awake_least] at h
  exact h
set_option maxHeartbeats 1000000 in
theorem awake5_any (w : World) : Calls Try.prog 8 #[] w fun e w' => e = .returned (.bool true) ∧ w = w' := by
  go_enter Try.func8, Try.ntmps8
  go_wp2_with (first
    | (go_at_call 11; ((with_reducible refine (maj53_any _).mono ?_); rintro e w' ⟨rfl, rfl⟩))
    | (go_at_call 13; ((with_reducible refine (least5_any _).mono ?_); rintro e w' ⟨rfl, rfl⟩)))
  go_ret
  exact ⟨rfl, rfl⟩
end Go.Proofs.Ytfmbjjdicghbaaa
