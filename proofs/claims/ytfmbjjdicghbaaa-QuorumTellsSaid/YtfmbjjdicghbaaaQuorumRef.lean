/- Contracts of the document's own functions of layer quorum. Condition: a set is below 2^64. -/
import Derived.Test.YtfmbjjdicghbaaaQuorumList

import Derived.Tactics2

import Derived.Deep.DeepCutAuto

import Derived.Deep.QuietTactic

import Derived.BigQuiet

namespace Go.Proofs.Ytfmbjjdicghbaaa

open Go.RowKit

theorem half_bit (s k : Nat) : s / 2 ^ k / 2 = s / 2 ^ (k + 1) := by rw [Nat.div_div_eq_div_mul, ← Nat.pow_succ]
theorem low_bit (s k : Nat) : (s / 2 ^ k % 2 = 1) = (s.testBit k = true) := by rw [Nat.testBit_eq_decide_div_mod_eq]; simp

set_option maxHeartbeats 1000000 in
theorem rHas_any (s : Nat) (i : Int) (w : World) (hs : s < 18446744073709551616) :
    Calls Try.prog 21 #[.int .u64 s, .int .i64 i] w fun e w' => e = .returned (.bool (hasB s i)) ∧ w = w' := by
  go_enter Try.func21, Try.ntmps21
  go_wp2
  go_loop [0, 5] (fun x k => ∃ (j v : Nat), j ≤ 64 ∧ k = .int .i64 j ∧ x = .int .u64 v ∧ Hid (v = s / 2 ^ j) ∧ v < 18446744073709551616 ∧ Hid (¬ (0 ≤ i ∧ i < j))) (fun _ k => 64 - (intOf k).toNat)
  case atStart => exact ⟨0, s, by omega, rfl, rfl, Lib.hid (by simp), hs, Lib.hid (by omega)⟩
  case round =>
    obtain ⟨j, v, hj, rfl, rfl, HV, hv, HI⟩ := hrel
    by_cases hlt : j < 64
    · by_cases he : (j : Int) = i
      · subst he
        have HH := Lib.hid (has_yes s (j : Int) (by omega) (by omega))
        have HT := Lib.hid (low_bit s j)
        cases hb : hasB s j
        · have h0 : ((v : Int) % 2 == 1) = false := by
            rw [HH.out] at hb
            have h1 := HT.out
            rw [← HV.out] at h1
            have : ¬ v % 2 = 1 := by rw [h1]; intro h; have h' : s.testBit j = false := hb; rw [h'] at h; cases h
            simp; omega
          have HB := Lib.hid hb
          clear hb
          go_wp2
          go_ret
          exact ⟨by rw [HB.out]; rfl, rfl⟩
        · have h0 : ((v : Int) % 2 == 1) = true := by
            rw [HH.out] at hb
            have h1 := HT.out
            rw [← HV.out] at h1
            have : v % 2 = 1 := by rw [h1]; exact hb
            simp; omega
          have HB := Lib.hid hb
          clear hb
          go_wp2
          go_ret
          exact ⟨by rw [HB.out]; rfl, rfl⟩
      · have h0 : ((j : Int) == i) = false := by simp; exact he
        have HN : Hid (¬ (0 ≤ i ∧ i < ((j + 1 : Nat) : Int))) := Lib.hid (by have := HI.out; omega)
        have HW : Hid (v / 2 = s / 2 ^ (j + 1)) := Lib.hid (by rw [HV.out, half_bit])
        have hv2 : v / 2 < 18446744073709551616 := by omega
        clear he
        go_wp2
        go_round
        case rel => exact ⟨j + 1, v / 2, by omega, by go_num, by go_num, HW, hv2, HN⟩
        case measure => simp [intOf]; omega
    · obtain rfl : j = 64 := by omega
      have HB := Lib.hid (has_no s i (by have := HI.out; omega))
      go_wp2
      go_ret
      exact ⟨by rw [HB.out]; rfl, rfl⟩

theorem ref_add (s : Nat) (i : Int) (h0 : 0 ≤ i) (h1 : i ≤ 63) (h : hasB s i = false) (hs : s < 18446744073709551616) : s + 2 ^ i.toNat = addF s i ∧ s + 2 ^ i.toNat < 18446744073709551616 := by
  rw [has_yes s i h0 h1] at h
  rw [add_yes s i h0 h1, add_or s _ h]
  exact ⟨rfl, or_lt s _ hs (by omega)⟩
theorem ref_add_has (s : Nat) (i : Int) (h0 : 0 ≤ i) (h1 : i ≤ 63) (h : hasB s i = true) : addF s i = s := by
  rw [has_yes s i h0 h1] at h
  rw [add_yes s i h0 h1]
  apply Nat.eq_of_testBit_eq
  intro j
  rw [Nat.testBit_or, Nat.testBit_two_pow]
  by_cases e : i.toNat = j
  · subst e; rw [h]; rfl
  · simp [e]

set_option maxHeartbeats 1000000 in
theorem rAdd_any (s : Nat) (i : Int) (w : World) (hs : s < 18446744073709551616) :
    Calls Try.prog 19 #[.int .u64 s, .int .i64 i] w fun e w' => e = .returned (.int .u64 (addF s i : Nat)) ∧ w = w' := by
  by_cases h0 : i < 0
  · have HB := Lib.hid (add_no s i (.inl h0))
    go_enter Try.func19, Try.ntmps19
    go_wp2
    go_ret
    exact ⟨by rw [HB.out]; rfl, rfl⟩
  · by_cases h1 : 63 < i
    · have HB := Lib.hid (add_no s i (.inr h1))
      go_enter Try.func19, Try.ntmps19
      go_wp2
      go_ret
      exact ⟨by rw [HB.out]; rfl, rfl⟩
    · cases hh : hasB s i
      · have hr := ref_add s i (by omega) (by omega) hh hs
        have HA := Lib.hid hr.1
        have hl := hr.2
        clear hr
        obtain ⟨m, rfl⟩ := Int.eq_ofNat_of_zero_le (show 0 ≤ i by omega)
        rw [Int.toNat_natCast] at hl HA
        have hm : m ≤ 63 := by omega
        clear h0 h1
        go_enter Try.func19, Try.ntmps19
        go_wp2_with (go_at_call 21; ((with_reducible refine (rHas_any _ _ _ hs).mono ?_); rintro e w' ⟨rfl, rfl⟩))
        go_loop [5, 6] (fun x k => ∃ (j v : Nat), j ≤ m ∧ k = .int .i64 j ∧ x = .int .u64 v ∧ Hid (v = 2 ^ j)) (fun _ k => m - (intOf k).toNat)
        case atStart => exact ⟨0, 1, by omega, rfl, rfl, Lib.hid rfl⟩
        case round =>
          obtain ⟨j, v, hj, rfl, rfl, HV⟩ := hrel
          by_cases hlt : j < m
          · have HW : Hid (v * 2 = 2 ^ (j + 1)) := Lib.hid (by rw [HV.out, Nat.pow_succ])
            have hv : v * 2 < 18446744073709551616 := by
              rw [HW.out]
              have : 2 ^ (j + 1) < 2 ^ 64 := Nat.pow_lt_pow_right (by omega) (by omega)
              omega
            go_wp2
            go_round
            case rel => exact ⟨j + 1, v * 2, by omega, by go_num, by go_num, HW⟩
            case measure => simp [intOf]; omega
          · obtain rfl : j = m := by omega
            have HS : Hid (addF s (j : Int) = s + v) := Lib.hid (by rw [← HA.out, HV.out])
            have hv : s + v < 18446744073709551616 := by rw [HV.out]; exact hl
            clear hl HA
            go_wp2
            go_ret
            exact ⟨by rw [HS.out]; go_num, rfl⟩
      · have HB := Lib.hid (ref_add_has s i (by omega) (by omega) hh)
        go_enter Try.func19, Try.ntmps19
        go_wp2_with (go_at_call 21; ((with_reducible refine (rHas_any _ _ _ hs).mono ?_); rintro e w' ⟨rfl, rfl⟩))
        go_ret
        exact ⟨by rw [HB.out]; rfl, rfl⟩

theorem least_of (n : Int) (j : Nat) (h1 : 1 ≤ j) (h2 : j ≤ 33) (h3 : j = 1 ∨ 2 * ((j : Int) - 1) ≤ n) (h4 : j = 33 ∨ n < 2 * (j : Int)) : leastF n = j := by
  unfold leastF upto
  split
  · omega
  · rw [if_neg (by omega)]
    split <;> omega

set_option maxHeartbeats 1000000 in
theorem rLeast_any (n : Int) (w : World) :
    Calls Try.prog 14 #[.int .i64 n] w fun e w' => e = .returned (.int .i64 (leastF n : Nat)) ∧ w = w' := by
  go_enter Try.func14, Try.ntmps14
  go_wp2
  go_loop [3] (fun k => ∃ (j : Nat), 1 ≤ j ∧ j ≤ 33 ∧ k = .int .i64 j ∧ Hid (j = 1 ∨ 2 * ((j : Int) - 1) ≤ n)) (fun k => 33 - (intOf k).toNat)
  case atStart => exact ⟨1, by omega, by omega, rfl, Lib.hid (.inl rfl)⟩
  case round =>
    obtain ⟨j, h1, h2, rfl, HJ⟩ := hrel
    by_cases hlt : j < 33
    · by_cases hn : 2 * (j : Int) ≤ n
      · have HW : Hid (j + 1 = 1 ∨ 2 * (((j + 1 : Nat) : Int) - 1) ≤ n) := Lib.hid (.inr (by omega))
        go_wp2
        go_round
        case rel => exact ⟨j + 1, by omega, by omega, by go_num, HW⟩
        case measure => simp [intOf]; omega
      · have HL := Lib.hid (least_of n j h1 h2 HJ.out (.inr (by omega)))
        go_wp2
        go_ret
        exact ⟨by rw [HL.out]; rfl, rfl⟩
    · have HL := Lib.hid (least_of n j h1 h2 HJ.out (.inl (by omega)))
      go_wp2
      go_ret
      exact ⟨by rw [HL.out]; rfl, rfl⟩

theorem upto_lt (n : Int) (k : Nat) (h : k < upto n) : (k : Int) < n ∧ k < 64 := by unfold upto at h; split at h; omega; split at h <;> omega
theorem upto_ge (n : Int) (k : Nat) (h : k = upto n) : ¬ (k : Int) < n ∨ k = 64 := by unfold upto at h; split at h; omega; split at h <;> omega

set_option maxHeartbeats 1000000 in
theorem rList_any (s : Nat) (n : Int) (w : World) (hs : s < 18446744073709551616) :
    Calls Try.prog 17 #[.int .u64 s, .int .i64 n] w (NewN w (listN s (upto n))) := by
  obtain ⟨i0, hi, hz0, hz1, hz2⟩ := info_parts Try.qInfo3
  have hu := upto_le n
  have HL : Hid (∀ k : Nat, k < upto n → (k : Int) < n ∧ k < 64) := Lib.hid (upto_lt n)
  have HG : Hid (∀ k : Nat, k = upto n → ¬ (k : Int) < n ∨ k = 64) := Lib.hid (upto_ge n)
  go_enter Try.func17, Try.ntmps17
  go_wp2
  generalize upto n = m at *
  go_loopw [5, 6] (fun v i wr => ∃ (k : Nat), k ≤ m ∧ i = .int .i64 k ∧ MadeN w wr v (listN s k)) (fun _ i _ => m - (intOf i).toNat)
  case atStart => exact ⟨0, by omega, rfl, MadeN.start w⟩
  case round =>
    obtain ⟨k, hk, rfl, hM⟩ := hrel
    by_cases hlt : k < m
    · have hll : (listN s k).length ≤ 64 := by rw [listN_len]; have := cnt_le s k; omega
      obtain ⟨hk1, hk2⟩ := HL.out k hlt
      cases hb : hasB s k
      · have HS := Lib.hid (list_no s k (by omega) hb)
        generalize listN s k = l at *
        go_wp2_with (go_at_call 21; ((with_reducible refine (rHas_any _ _ _ hs).mono ?_); rintro e w' ⟨rfl, rfl⟩))
        go_roundw
        case rel => exact ⟨k + 1, by omega, by go_num, by rw [HS.out]; exact hM⟩
        case measure => simp [intOf]; omega
      · have HS := Lib.hid (list_yes s k (by omega) hb)
        generalize listN s k = l at *
        have hown := hM.own
        have hsz := hM.bel.size
        go_wp2_with (first
          | (go_at_call 21; ((with_reducible refine (rHas_any _ _ _ hs).mono ?_); rintro e w' ⟨rfl, rfl⟩))
          | (at_builtin; refine wpList_append_own _ rfl _ _ 28 rfl w.heap.size 3 i0 (.int .i64 0) 1 8 Try.underlying28 hi hz0 hz1 hz2 rfl (by decide) _ _ _ rfl (hown.alloc _) ⟨wr.heap.size, 0, none⟩ 1 1 [.int .i64 k] rfl rfl (cell_one_new _ _ _) (by intro u hu; simp at hu; subst hu; rfl) (by unfold maxLen; omega) (by omega) (by simp; omega) ?_; intro v' w1 hown' hgrow _; have R := hM.next hown' hgrow; clear hown' hgrow))
        go_roundw
        case rel => exact ⟨k + 1, by omega, by go_num, by rw [HS.out]; exact R⟩
        case measure => simp [intOf]; omega
    · obtain rfl : k = m := by omega
      obtain ⟨a, cap, rfl, hN⟩ := hM.lies
      have hbel := hM.bel
      clear hM
      by_cases hq : (k : Int) < n
      · have h64 : ¬ (k : Int) < 64 := by have := HG.out k rfl; omega
        go_wp2
        go_ret
        exact ⟨a, cap, rfl, hN, hbel⟩
      · go_wp2
        go_ret
        exact ⟨a, cap, rfl, hN, hbel⟩

set_option maxHeartbeats 1000000 in
theorem rCount_any (s : Nat) (n : Int) (w : World) (hs : s < 18446744073709551616) :
    Calls Try.prog 10 #[.int .u64 s, .int .i64 n] w fun e w' => e = .returned (.int .i64 (cntN s (upto n) : Nat)) ∧ Below w.heap.size w w' := by
  have HL := Lib.hid (listN_len s (upto n))
  go_enter Try.func10, Try.ntmps10
  go_wp2_with (go_at_call 17; ((with_reducible refine (rList_any _ _ _ hs).mono ?_); rintro e w' ⟨a, cap, rfl, hN, hbel⟩))
  go_ret
  exact ⟨by rw [← HL.out]; rfl, hbel⟩

theorem maj_low (s : Nat) (n : Int) (h : ¬ 1 ≤ n) : majB s n = false := by unfold majB; simp [h]
theorem maj_int (s : Nat) (n : Int) (b : Bool) (h : majB s n = b) (h1 : 1 ≤ n) : decide (((leastF n : Nat) : Int) ≤ ((cntN s (upto n) : Nat) : Int)) = b := by
  rw [← h]; unfold majB; simp [h1]

set_option maxHeartbeats 1000000 in
theorem rMajority_any (s : Nat) (n : Int) (w : World) (hs : s < 18446744073709551616) :
    Calls Try.prog 12 #[.int .u64 s, .int .i64 n] w fun e w' => e = .returned (.bool (majB s n)) ∧ Below w.heap.size w w' := by
  by_cases h1 : 1 ≤ n
  · have HM := Lib.hid (maj_le s n)
    go_enter Try.func12, Try.ntmps12
    go_wp2_with (first
      | (go_at_call 10; ((with_reducible refine (rCount_any _ _ _ hs).mono ?_); rintro e w' ⟨rfl, hbel⟩))
      | (go_at_call 14; ((with_reducible refine (rLeast_any _ _).mono ?_); rintro e w' ⟨rfl, rfl⟩)))
    go_ret
    exact ⟨by rw [← HM.out]; simp, hbel⟩
  · have HM := Lib.hid (maj_low s n h1)
    go_enter Try.func12, Try.ntmps12
    go_wp2
    go_ret
    exact ⟨by rw [HM.out]; rfl, Below.refl _ _⟩

set_option maxHeartbeats 1000000 in
theorem rInts_same (a a' : Option Addr) (c c' : Nat) (l : List Nat) (w : World) (h : NAt w a l) (h' : NAt w a' l) (hl : l.length ≤ 64) :
    Calls Try.prog 15 #[.slice a l.length c, .slice a' l.length c'] w fun e w' => e = .returned (.bool true) ∧ Below w.heap.size w w' := by
  go_enter Try.func15, Try.ntmps15
  go_wp2
  go_loopw [5] (fun i wr => ∃ (k q : Nat), k ≤ l.length ∧ i = .int .i64 k ∧ wr = w.drewN q) (fun i _ => l.length - (intOf i).toNat)
  case atStart => exact ⟨0, 0, by omega, rfl, rfl⟩
  case round =>
    obtain ⟨k, q, hk, rfl, rfl⟩ := hrel
    by_cases hlt : k < l.length
    · obtain ⟨b, off, rfl, hc⟩ := h.at_ hlt
      obtain ⟨b', off', rfl, hc'⟩ := h'.at_ hlt
      generalize l[k] = v at *
      clear h h'
      generalize l.length = n at *
      go_upto_region 6 with (fail)
      go_quiet (fail)
      go_wp2
      go_roundw
      case rel => exact ⟨k + 1, _, by omega, by go_num, rfl⟩
      case measure => simp [intOf]; omega
    · clear h h'
      go_wp2
      go_ret
      exact ⟨rfl, ⟨rfl, rfl, rfl, Nat.le_refl _, fun _ _ => rfl⟩⟩
end Go.Proofs.Ytfmbjjdicghbaaa
