/- What Sum of layer num, and the document's own, do at every list of numbers: walks over their text. Conditions: each number's bits are below 2^64. -/
import Derived.Test.YtbdccfggnbopgaaAdd
import Derived.Deep.Draws
import Derived.Lib.Hide
namespace Go.Proofs.Ytbdccfggnbopgaa
open Go.RowKit

/-- The world has at most drawn from the tape. -/
def Drawn (w w' : World) : Prop := ∃ n, w' = w.drewN n
theorem Drawn.refl (w : World) : Drawn w w := ⟨0, rfl⟩
theorem Drawn.mk (w : World) (n : Nat) : Drawn w (w.drewN n) := ⟨n, rfl⟩

/-- The cells from off on hold the numbers f 0, f 1, .. (len of them). -/
def Holds (w : World) (b off len : Nat) (f : Nat → Nat) : Prop :=
  ∀ i, i < len → w.cell? ⟨b, off + i, none⟩ = some (.int .u64 ((f i : Nat) : Int)) ∧ f i < 18446744073709551616

theorem sum_none (a : Option Addr) (cap : Nat) (w : World) :
    Calls Try.prog 22 #[.slice a 0 cap] w fun e w' => e = .returned (.int .u64 0) ∧ w = w' := by
  go_enter Try.func22, Try.ntmps22
  go_wp2
  go_ret
  exact ⟨rfl, rfl⟩

set_option maxHeartbeats 1000000 in
theorem sum_some (b off len cap : Nat) (f : Nat → Nat) (w : World) (hl : 0 < len) (hlc : len ≤ cap) (hcap : cap ≤ maxLen) (hrow : Holds w b off len f) (hc1 : ¬ cap = 1) :
    Calls Try.prog 22 #[.slice (some ⟨b, off, none⟩) len cap] w fun e w' => e = .returned (.int .u64 (canonF (sumTo f (len - 1)) : Nat)) ∧ Drawn w w' := by
  unfold maxLen at hcap
  have hfb := fromBits
  have htb := toBits
  have h0 : w.cell? ⟨b, off, none⟩ = some (.int .u64 ((f 0 : Nat) : Int)) := by simpa using (hrow 0 hl).1
  have hf0 := (hrow 0 hl).2
  have hne : ((len : Int) == 0) = false := by simp; omega
  have hlp : (0 : Int) < (len : Int) := by omega
  go_enter Try.func22, Try.ntmps22
  go_wp2
  go_loopw [3, 16] (fun s i wr => ∃ (k x n : Nat), k ≤ len - 1 ∧ i = .int .i64 k ∧ s = .float .f64 x ∧ x < 18446744073709551616 ∧ Hid (Same x (sumTo f k)) ∧ wr = w.drewN n) (fun _ i _ => len - (intOf i).toNat)
  case atStart => exact ⟨0, f 0, 0, by omega, rfl, rfl, hf0, Same.refl _, rfl⟩
  case round =>
    obtain ⟨k, x, n, hk, rfl, rfl, hx, hs, rfl⟩ := hrel
    by_cases hlt : k < len - 1
    · have hck : w.cell? ⟨b, off + 1 + k, none⟩ = some (.int .u64 ((f (k + 1) : Nat) : Int)) := by
        rw [show off + 1 + k = off + (k + 1) by omega]; exact (hrow (k + 1) (by omega)).1
      cases hadd : FloatKind.f64.format.add x (f (k + 1)) with
      | some r =>
        have hrun := fun w => run_float_arith (P := Try.prog) w .add 38 .f64 x (f (k + 1)) r hadd
        have hr := add_lt64 hadd
        have hs' : Hid (Same r (sumTo f (k + 1))) := hs.out.add_some hadd
        have HA := Lib.hid hadd
        clear hadd
        go_wp2
        go_roundw
        case rel => exact ⟨k + 1, r, n, by omega, by go_num, rfl, hr, hs', rfl⟩
        case measure => simp [intOf]; omega
      | none =>
        have hrun := run_add_nan 38 x (f (k + 1)) hadd
        have hr := nanAt_lt (w.drewN n) x (f (k + 1))
        have hs' : Hid (Same (nanAt (w.drewN n) x (f (k + 1))) (sumTo f (k + 1))) := hs.out.add_none hadd (nanAt_nan _ _ _)
        have HA := Lib.hid hadd
        clear hadd
        go_wp2
        go_roundw
        case rel => exact ⟨k + 1, nanAt (w.drewN n) x (f (k + 1)), n + 1, by omega, by go_num, rfl, hr, hs', rfl⟩
        case measure => simp [intOf]; omega
    · have hk' : k = len - 1 := by omega
      have hcan : Hid (canonF x = canonF (sumTo f (len - 1))) := by rw [← hk']; exact hs.out.canon
      clear hk'
      go_wp2_with (go_at_call 11; ((with_reducible refine (canon_any _ _).mono ?_); rintro e w' ⟨rfl, rfl⟩))
      go_ret
      exact ⟨ret_u64 (by rw [hcan.out]), Drawn.mk w n⟩

set_option maxHeartbeats 1000000 in
theorem sum_one (b off : Nat) (f : Nat → Nat) (w : World) (hrow : Holds w b off 1 f) :
    Calls Try.prog 22 #[.slice (some ⟨b, off, none⟩) 1 1] w fun e w' => e = .returned (.int .u64 (canonF (sumTo f 0) : Nat)) ∧ Drawn w w' := by
  have hfb := fromBits
  have htb := toBits
  have h0 : w.cell? ⟨b, off, none⟩ = some (.int .u64 ((f 0 : Nat) : Int)) := by simpa using (hrow 0 (by omega)).1
  go_enter Try.func22, Try.ntmps22
  go_wp2
  refine wp_loop_rounds 1 ?_
  rw [rounds_succ]
  go_wp2_with (go_at_call 11; ((with_reducible refine (canon_any _ _).mono ?_); rintro e w' ⟨rfl, rfl⟩))
  go_ret
  exact ⟨rfl, Drawn.refl w⟩

def sumF (f : Nat → Nat) (len : Nat) : Nat := if len = 0 then 0 else canonF (sumTo f (len - 1))

/-- What a function is told of a list of numbers: it is empty, or leads to cells that hold them. -/
def Lies (w : World) (a : Option Addr) (len cap : Nat) (f : Nat → Nat) : Prop :=
  len = 0 ∨ ∃ b off, a = some ⟨b, off, none⟩ ∧ 0 < len ∧ len ≤ cap ∧ cap ≤ maxLen ∧ Holds w b off len f

theorem sum_any (a : Option Addr) (len cap : Nat) (f : Nat → Nat) (w : World) (h : Lies w a len cap f) :
    Calls Try.prog 22 #[.slice a len cap] w fun e w' => e = .returned (.int .u64 (sumF f len : Nat)) ∧ Drawn w w' := by
  rcases h with rfl | ⟨b, off, rfl, hl, hlc, hcap, hrow⟩
  · exact (sum_none a cap w).mono fun e w' ⟨he, hw⟩ => ⟨he, hw ▸ Drawn.refl w⟩
  · unfold sumF
    rw [if_neg (by omega)]
    by_cases hc1 : cap = 1
    · obtain rfl : cap = 1 := hc1
      obtain rfl : len = 1 := by omega
      exact sum_one b off f w hrow
    · exact sum_some b off len cap f w hl hlc hcap hrow hc1

/-! The document's own -/
theorem refSum_none (a : Option Addr) (cap : Nat) (w : World) :
    Calls Try.prog 23 #[.slice a 0 cap] w fun e w' => e = .returned (.int .u64 0) ∧ w = w' := by
  go_enter Try.func23, Try.ntmps23
  go_wp2
  go_ret
  exact ⟨rfl, rfl⟩

set_option maxHeartbeats 1000000 in
theorem refSum_some (b off len cap : Nat) (f : Nat → Nat) (w : World) (hl : 0 < len) (hlc : len ≤ cap) (hcap : cap ≤ maxLen) (hrow : Holds w b off len f) :
    Calls Try.prog 23 #[.slice (some ⟨b, off, none⟩) len cap] w fun e w' => e = .returned (.int .u64 (canonF (sumTo f (len - 1)) : Nat)) ∧ Drawn w w' := by
  unfold maxLen at hcap
  have hfb := fromBits
  have htb := toBits
  have h0 : w.cell? ⟨b, off, none⟩ = some (.int .u64 ((f 0 : Nat) : Int)) := by simpa using (hrow 0 hl).1
  have hf0 := (hrow 0 hl).2
  have hne : ((len : Int) == 0) = false := by simp; omega
  have hlp : (0 : Int) < (len : Int) := by omega
  go_enter Try.func23, Try.ntmps23
  go_wp2
  go_loopw [3, 4] (fun s i wr => ∃ (k x n : Nat), 1 ≤ k ∧ k ≤ len ∧ i = .int .i64 k ∧ s = .float .f64 x ∧ x < 18446744073709551616 ∧ Hid (Same x (sumTo f (k - 1))) ∧ wr = w.drewN n) (fun _ i _ => len - (intOf i).toNat)
  case atStart => exact ⟨1, f 0, 0, by omega, by omega, rfl, rfl, hf0, Same.refl _, rfl⟩
  case round =>
    obtain ⟨k, x, n, hk1, hk, rfl, rfl, hx, hs, rfl⟩ := hrel
    by_cases hlt : k < len
    · have hck : w.cell? ⟨b, off + k, none⟩ = some (.int .u64 ((f k : Nat) : Int)) := (hrow k hlt).1
      have hsk : Hid (sumTo f k = addF (sumTo f (k - 1)) (f k)) := by
        obtain ⟨j, rfl⟩ : ∃ j, k = j + 1 := ⟨k - 1, by omega⟩
        exact rfl
      cases hadd : FloatKind.f64.format.add x (f k) with
      | some r =>
        have hrun := fun w => run_float_arith (P := Try.prog) w .add 38 .f64 x (f k) r hadd
        have hr := add_lt64 hadd
        have hs' : Hid (Same r (sumTo f k)) := by unfold Hid; rw [hsk.out]; exact hs.out.add_some hadd
        have HA := Lib.hid hadd
        clear hadd
        go_wp2
        go_roundw
        case rel => exact ⟨k + 1, r, n, by omega, by omega, by go_num, rfl, hr, hs', rfl⟩
        case measure => simp [intOf]; omega
      | none =>
        have hrun := run_add_nan 38 x (f k) hadd
        have hr := nanAt_lt (w.drewN n) x (f k)
        have hs' : Hid (Same (nanAt (w.drewN n) x (f k)) (sumTo f k)) := by unfold Hid; rw [hsk.out]; exact hs.out.add_none hadd (nanAt_nan _ _ _)
        have HA := Lib.hid hadd
        clear hadd
        go_wp2
        go_roundw
        case rel => exact ⟨k + 1, nanAt (w.drewN n) x (f k), n + 1, by omega, by omega, by go_num, rfl, hr, hs', rfl⟩
        case measure => simp [intOf]; omega
    · have hk' : k = len := by omega
      have hcan : Hid (canonF x = canonF (sumTo f (len - 1))) := by rw [← hk']; exact hs.out.canon
      clear hk'
      go_wp2_with (go_at_call 12; ((with_reducible refine (canonRef_any _ hx _).mono ?_); rintro e w' ⟨rfl, rfl⟩))
      go_ret
      exact ⟨ret_u64 (by rw [hcan.out]), Drawn.mk w n⟩

theorem refSum_any (a : Option Addr) (len cap : Nat) (f : Nat → Nat) (w : World) (h : Lies w a len cap f) :
    Calls Try.prog 23 #[.slice a len cap] w fun e w' => e = .returned (.int .u64 (sumF f len : Nat)) ∧ Drawn w w' := by
  rcases h with rfl | ⟨b, off, rfl, hl, hlc, hcap, hrow⟩
  · exact (refSum_none a cap w).mono fun e w' ⟨he, hw⟩ => ⟨he, hw ▸ Drawn.refl w⟩
  · unfold sumF
    rw [if_neg (by omega)]
    exact refSum_some b off len cap f w hl hlc hcap hrow
end Go.Proofs.Ytbdccfggnbopgaa
