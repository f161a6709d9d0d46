/- Contracts of frame.Sum and of the document's own Sum: both answer the sum of the bytes. Condition: the bytes lie in memory. -/
import Derived.Test.YtmkadjchcfmbjaaCodeReader
import Derived.Test.YtmkadjchcfmbjaaCodeRef
import Derived.Test.YtmkadjchcfmbjaaFrameMath
namespace Go.Proofs.Ytmkadjchcfmbjaa
open Go.RowKit

theorem crcN_succ (k v : Nat) : crcN (k + 1) v = crcN k (crcStep v) := rfl
theorem sum_bits (v : Nat) (hv : v < 4294967296) : bits .and .u32 (v : Int) 1 = ((v % 2 : Nat) : Int) := by
  have := u32_and_nat v 1 hv (by omega)
  rw [nat_mask1] at this; exact this
theorem sum_over (v : Nat) (hv : v < 4294967296) : bits .xor .u32 ((v : Int) / 2) 3988292384 = ((v / 2 ^^^ 3988292384 : Nat) : Int) := u32_xor_nat (v / 2) 3988292384 (by omega) (by omega)
theorem sum_byte (v c : Nat) (hv : v < 4294967296) (hc : c < 256) : bits .xor .u32 (v : Int) (c : Int) = ((v ^^^ c : Nat) : Int) := u32_xor_nat v c hv (by omega)
theorem sum_last (v : Nat) (hv : v < 4294967296) : bits .xor .u32 (v : Int) 4294967295 = ((4294967295 - v : Nat) : Int) := by
  have := u32_xor_nat v 4294967295 hv (by omega)
  rw [all_turned v hv] at this; exact this

set_option maxHeartbeats 1000000 in
theorem shift_any (s : Nat) (w : World) (hs : s < 4294967296) :
    Calls Try.prog 22 #[.int .u32 s] w fun e w' => e = .returned (.int .u32 (crcN 8 s : Nat)) ∧ w = w' := by
  go_enter Try.func22, Try.ntmps22
  go_wp2
  go_loop [0, 4] (fun x i => ∃ (j v : Nat), j ≤ 8 ∧ i = .int .i64 j ∧ x = .int .u32 v ∧ v < 4294967296 ∧ crcN (8 - j) v = crcN 8 s) (fun _ i => 8 - (intOf i).toNat)
  case atStart => exact ⟨0, s, by omega, rfl, rfl, hs, rfl⟩
  case round =>
    obtain ⟨j, v, hj, rfl, rfl, hv, hc⟩ := hrel
    by_cases hlt : j < 8
    · have e1 : 8 - j = (8 - (j + 1)) + 1 := by omega
      rw [e1, crcN_succ] at hc
      have hst := crcStep_lt v hv
      have HC := Lib.hid hc
      clear hc e1
      have g1 := sum_bits v hv
      have g2 := sum_over v hv
      rcases Nat.mod_two_eq_zero_or_one v with h0 | h1
      · rw [h0] at g1
        have hx : crcStep v = v / 2 := by unfold crcStep; rw [if_neg (by omega)]
        rw [hx] at HC hst
        clear hx g2
        go_wp2
        go_round
        case rel => exact ⟨j + 1, v / 2, by omega, by go_num, by go_num, hst, HC.out⟩
        case measure => simp [intOf]; omega
      · rw [h1] at g1
        have hx : crcStep v = v / 2 ^^^ 3988292384 := by unfold crcStep; rw [if_pos h1]
        rw [hx] at HC hst
        clear hx
        generalize v / 2 ^^^ 3988292384 = u at *
        go_wp2
        go_round
        case rel => exact ⟨j + 1, u, by omega, by go_num, by go_num, hst, HC.out⟩
        case measure => simp [intOf]; omega
    · obtain rfl : j = 8 := by omega
      have HC := Lib.hid hc
      clear hc
      go_wp2
      go_ret
      exact ⟨by rw [← HC.out]; rfl, rfl⟩

set_option maxHeartbeats 1000000 in
theorem sum_any (B : Nat) (a : Option Addr) (n c : Nat) (l : List UInt8) (w : World) (h : BAt w B a n l) (hn : n ≤ maxLen) :
    Calls Try.prog 12 #[.slice a n c] w fun e w' => e = .returned (.int .u32 (sumB l : Nat)) ∧ w = w' := by
  unfold maxLen at hn
  go_enter Try.func12, Try.ntmps12
  go_wp2
  go_loop [3, 8] (fun x i => ∃ (k : Nat), k ≤ n ∧ i = .int .i64 k ∧ x = .int .u32 (crcAll 4294967295 (l.take k) : Nat)) (fun _ i => n - (intOf i).toNat)
  case atStart => exact ⟨0, by omega, rfl, rfl⟩
  case round =>
    obtain ⟨k, hk, rfl, rfl⟩ := hrel
    have hlen := h.len
    have hv := crcAll_lt 4294967295 (l.take k) (by omega)
    by_cases hlt : k < n
    · obtain ⟨b, off, rfl, _, hc⟩ := h.at_ (i := k) (by omega)
      have hS : crcAll 4294967295 (l.take (k + 1)) = crcN 8 (crcAll 4294967295 (l.take k) ^^^ (l[k]'(by omega)).toNat) := by
        rw [take_snoc _ _ (by omega), crcAll_snoc]; rfl
      have hb8 := (l[k]'(by omega)).toNat_lt
      have HS := Lib.hid hS
      clear hS
      generalize crcAll 4294967295 (l.take k) = v at *
      generalize (l[k]'(by omega)).toNat = d at *
      have g1 := sum_byte v d hv hb8
      have hx : v ^^^ d < 4294967296 := Nat.xor_lt_two_pow (n := 32) hv (by omega)
      generalize v ^^^ d = u at *
      clear h hlen
      go_wp2_with (go_at_call 22; ((with_reducible refine (shift_any u _ hx).mono ?_); rintro e w' ⟨rfl, rfl⟩))
      go_round
      case rel => exact ⟨k + 1, by omega, by go_num, by rw [HS.out]⟩
      case measure => simp [intOf]; omega
    · have e1 : l.take k = l := List.take_of_length_le (by omega)
      rw [e1] at hv ⊢
      have g := sum_last _ hv
      have HS : Hid (sumB l = 4294967295 - crcAll 4294967295 l) := rfl
      generalize crcAll 4294967295 l = v at *
      clear h hlen e1
      go_wp2
      go_ret
      exact ⟨by rw [HS.out]; rfl, rfl⟩

set_option maxHeartbeats 1000000 in
theorem refSum_any (B : Nat) (a : Option Addr) (n c : Nat) (l : List UInt8) (w : World) (h : BAt w B a n l) (hn : n ≤ maxLen) :
    Calls Try.prog 13 #[.slice a n c] w fun e w' => e = .returned (.int .u32 (sumB l : Nat)) ∧ w = w' := by
  unfold maxLen at hn
  go_enter Try.func13, Try.ntmps13
  go_wp2
  go_loop [3, 4] (fun x i => ∃ (k : Nat), k ≤ n ∧ i = .int .i64 k ∧ x = .int .u32 (crcAll 4294967295 (l.take k) : Nat)) (fun _ i => n - (intOf i).toNat)
  case atStart => exact ⟨0, by omega, rfl, rfl⟩
  case round =>
    obtain ⟨k, hk, rfl, rfl⟩ := hrel
    have hlen := h.len
    have hv := crcAll_lt 4294967295 (l.take k) (by omega)
    by_cases hlt : k < n
    · obtain ⟨b, off, rfl, _, hc⟩ := h.at_ (i := k) (by omega)
      have hS : crcAll 4294967295 (l.take (k + 1)) = crcN 8 (crcAll 4294967295 (l.take k) ^^^ (l[k]'(by omega)).toNat) := by
        rw [take_snoc _ _ (by omega), crcAll_snoc]; rfl
      have hb8 := (l[k]'(by omega)).toNat_lt
      have HS := Lib.hid hS
      clear hS
      generalize crcAll 4294967295 (l.take k) = v at *
      generalize (l[k]'(by omega)).toNat = d at *
      have g1 := sum_byte v d hv hb8
      have hx : v ^^^ d < 4294967296 := Nat.xor_lt_two_pow (n := 32) hv (by omega)
      generalize v ^^^ d = s at *
      clear h hlen
      go_wp2
      clear g1
      go_loop [3, 5] (fun x i => ∃ (j v : Nat), j ≤ 8 ∧ i = .int .i64 j ∧ x = .int .u32 v ∧ v < 4294967296 ∧ crcN (8 - j) v = crcN 8 s) (fun _ i => 8 - (intOf i).toNat)
      case atStart => exact ⟨0, s, by omega, rfl, rfl, hx, rfl⟩
      case round =>
        obtain ⟨j, v, hj, rfl, rfl, hv, hc⟩ := hrel
        by_cases hlt : j < 8
        · have e1 : 8 - j = (8 - (j + 1)) + 1 := by omega
          rw [e1, crcN_succ] at hc
          have hst := crcStep_lt v hv
          have HC := Lib.hid hc
          clear hc e1
          have g2 := sum_over v hv
          rcases Nat.mod_two_eq_zero_or_one v with h0 | h1
          · have g1 : (v : Int) % 2 = 0 := by omega
            have hx : crcStep v = v / 2 := by unfold crcStep; rw [if_neg (by omega)]
            rw [hx] at HC hst
            clear hx g2 h0
            go_wp2
            go_round
            case rel => exact ⟨j + 1, v / 2, by omega, by go_num, by go_num, hst, HC.out⟩
            case measure => simp [intOf]; omega
          · have g1 : (v : Int) % 2 = 1 := by omega
            have hx : crcStep v = v / 2 ^^^ 3988292384 := by unfold crcStep; rw [if_pos h1]
            rw [hx] at HC hst
            clear hx h1
            generalize v / 2 ^^^ 3988292384 = u at *
            go_wp2
            go_round
            case rel => exact ⟨j + 1, u, by omega, by go_num, by go_num, hst, HC.out⟩
            case measure => simp [intOf]; omega
        · obtain rfl : j = 8 := by omega
          have hc' : v = crcN 8 s := hc
          subst hc'
          clear hc
          go_wp2
          go_round
          case rel => exact ⟨k + 1, by omega, by go_num, by rw [HS.out]⟩
          case measure => simp [intOf]; omega
    · have e1 : l.take k = l := List.take_of_length_le (by omega)
      rw [e1] at hv ⊢
      have HS : Hid (sumB l = 4294967295 - crcAll 4294967295 l) := rfl
      generalize crcAll 4294967295 l = v at *
      clear h hlen e1
      go_wp2
      go_ret
      exact ⟨by rw [HS.out]; go_num, rfl⟩
end Go.Proofs.Ytmkadjchcfmbjaa
