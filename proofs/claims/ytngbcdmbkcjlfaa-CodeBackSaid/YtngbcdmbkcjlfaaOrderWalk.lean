/- The walk of the statement CodeOrder. Conditions: the numbers fit their kinds. -/
import Derived.Test.YtngbcdmbkcjlfaaAwake
import Derived.Deep.RegionWith
namespace Go.Proofs.Ytngbcdmbkcjlfaa
open Go.RowKit

theorem held_nat (k : Nat) (h : k ≤ 8) : held (k : Int) = k := by unfold held; omega
theorem pow_wrap (k : Nat) (h : k < 8) : IntKind.u64.wrap (2 ^ (8 * k)) = ((256 ^ k : Nat) : Int) := by
  have h3 : (2 : Int) ^ 8 = ((256 : Nat) : Int) := by decide
  have h4 : 256 ^ k ≤ 256 ^ 7 := Nat.pow_le_pow_right (by omega) (by omega)
  rw [Int.pow_mul, h3, ← Int.natCast_pow, IntKind.wrap_u64]
  generalize 256 ^ k = p at *
  omega

theorem put_lt_num (x y k : Nat) : Op.bytesLess (putB x k) (putB y k) = decide (x % 256 ^ k < y % 256 ^ k) := by
  induction k with
  | zero => simp [putB, Op.bytesLess, Nat.mod_one]
  | succ k ih =>
    have hx : (UInt8.ofNat (x / 256 ^ k)).toNat = x / 256 ^ k % 256 := UInt8.toNat_ofNat'
    have hy : (UInt8.ofNat (y / 256 ^ k)).toNat = y / 256 ^ k % 256 := UInt8.toNat_ofNat'
    have ex : x % 256 ^ (k + 1) = x % 256 ^ k + 256 ^ k * (x / 256 ^ k % 256) := by rw [Nat.pow_succ, Nat.mod_mul]
    have ey : y % 256 ^ (k + 1) = y % 256 ^ k + 256 ^ k * (y / 256 ^ k % 256) := by rw [Nat.pow_succ, Nat.mod_mul]
    have bx : x % 256 ^ k < 256 ^ k := Nat.mod_lt _ (Nat.pow_pos (by omega))
    have by' : y % 256 ^ k < 256 ^ k := Nat.mod_lt _ (Nat.pow_pos (by omega))
    rw [putB, putB, ex, ey]
    generalize x / 256 ^ k % 256 = p at *
    generalize y / 256 ^ k % 256 = q at *
    simp only [Op.bytesLess]
    rw [ih]
    generalize UInt8.ofNat (x / 256 ^ k) = a at *
    generalize UInt8.ofNat (y / 256 ^ k) = b at *
    generalize 256 ^ k = P at *
    have e1 : (a < b) = (p < q) := by rw [UInt8.lt_iff_toNat_lt, hx, hy]
    have e2 : (a == b) = decide (p = q) := by
      rw [Bool.eq_iff_iff]; simp [← UInt8.toNat_inj, hx, hy]
    simp only [e1, e2]
    rcases Nat.lt_trichotomy p q with h | h | h
    · have h1 : P * (p + 1) ≤ P * q := Nat.mul_le_mul_left P h
      rw [Nat.mul_add, Nat.mul_one] at h1
      have h2 : x % P + P * p < y % P + P * q := by omega
      simp [h, h2]
    · subst h
      simp
    · have h1 : P * (q + 1) ≤ P * p := Nat.mul_le_mul_left P h
      rw [Nat.mul_add, Nat.mul_one] at h1
      have h2 : ¬ x % P + P * p < y % P + P * q := by omega
      have h3 : ¬ p < q := by omega
      have h4 : ¬ p = q := by omega
      simp [h2, h3, h4]
theorem put_less (x y k : Nat) (hx : x < 256 ^ k) (hy : y < 256 ^ k) : Op.bytesLess (putB x k) (putB y k) = decide (x < y) := by
  rw [put_lt_num, Nat.mod_eq_of_lt hx, Nat.mod_eq_of_lt hy]
theorem put_same (x y k : Nat) (hx : x < 256 ^ k) (hy : y < 256 ^ k) : (putB x k == putB y k) = ((x : Int) == (y : Int)) := by
  have h0 : ((x : Int) == (y : Int)) = decide (x = y) := by rw [Bool.eq_iff_iff]; simp [Int.ofNat_inj]
  rw [h0]
  by_cases h : x = y
  · subst h; simp
  · have h2 : putB x k ≠ putB y k := fun e => by
      have := congrArg numB e
      rw [numB_put, numB_put, Nat.mod_eq_of_lt hx, Nat.mod_eq_of_lt hy] at this
      exact h this
    simp [h, h2]

set_option maxHeartbeats 1000000 in
theorem order_walk (x y n : Nat) (w : World) (hx : x < 18446744073709551616) (hy : y < 18446744073709551616) (hn : n < 256) :
    Calls Try.prog 7 #[.int .u64 x, .int .u64 y, .int .u8 n] w fun e w' => e = .returned (.bool true) ∧ Below w.heap.size w w' := by
  obtain ⟨k, hk⟩ : ∃ k, k = 1 + n % 8 := ⟨_, rfl⟩
  have hki : (1 + (n : Int) % 8) = (k : Int) := by omega
  have hk1 : 1 ≤ k := by omega
  have hk8 : k ≤ 8 := by omega
  by_cases h7 : n % 8 = 7
  · have hd : decide (1 + (n : Int) % 8 < 8) = false := by simp; omega
    have hk' : k = 8 := by omega
    have bx : x < 256 ^ k := by rw [hk']; omega
    have by' : y < 256 ^ k := by rw [hk']; omega
    have L1 : Hid ((putB x (held (k : Int))).length = k) := by rw [held_nat k hk8]; exact putB_len _ _
    have L2 : Hid ((putB y (held (k : Int))).length = k) := by rw [held_nat k hk8]; exact putB_len _ _
    have L3 : Hid (Op.bytesLess (putB x (held (k : Int))) (putB y (held (k : Int))) = decide (x < y)) := by rw [held_nat k hk8]; exact put_less _ _ _ bx by'
    have L4 : Hid ((putB x (held (k : Int)) == putB y (held (k : Int))) = (((x : Nat) : Int) == ((y : Nat) : Int))) := by rw [held_nat k hk8]; exact put_same _ _ _ bx by'
    have HK := Lib.hid hki
    clear hki hk hk' bx by' h7
    go_enter Try.func7, Try.ntmps7
    go_upto_region 5 with (fail)
    rw [HK.out]
    go_region_with (first | (go_at_call 10; ((with_reducible refine (put_any none 0 0 x _ [] _ BAt.nil (by omega) hx).mono ?_); rintro e w1 ⟨a1, n1, c1, rfl, ho1, hb1⟩; have hcv1 := run_convert_bytes (P := Try.prog) w1 22 5 9 Try.underlying22 Try.underlying5 Try.underlying9 w1.heap.size a1 n1 _ c1 (BAt.of_own ho1); have hcw1 := fun W (hW : Below w1.heap.size w1 W) => run_convert_bytes (P := Try.prog) W 22 5 9 Try.underlying22 Try.underlying5 Try.underlying9 w1.heap.size a1 n1 _ c1 ((BAt.of_own ho1).below hW (Nat.le_refl _)))) | (go_at_call 10; ((with_reducible refine (put_any none 0 0 y _ [] _ BAt.nil (by omega) hy).mono ?_); rintro e w2 ⟨a2, n2, c2, rfl, ho2, hb2⟩; have hcv2 := run_convert_bytes (P := Try.prog) w2 22 5 9 Try.underlying22 Try.underlying5 Try.underlying9 w2.heap.size a2 n2 _ c2 (BAt.of_own ho2))))
    all_goals
      have hbb : Below w.heap.size w w2 := (Below.refl _ _).drew.trans (hb1.trans (hb2.mono hb1.size))
      have hz := hbb.size
      clear hcv1 hcw1 hcv2 ho1 ho2 hb1 hb2
      have f1 := L1.out
      have f2 := L2.out
      have f3 := L3.out
      have f4 := L4.out
      go_wp2_with (go_at_call 8; ((with_reducible refine (awake_any _).mono ?_); rintro e w3 ⟨rfl, hb3⟩))
      go_ret
      exact ⟨by simp, hbb.trans (hb3.mono hz)⟩
  · have hd : decide (1 + (n : Int) % 8 < 8) = true := by simp; omega
    have hk7 : k < 8 := by omega
    have hp : 0 < 256 ^ k := Nat.pow_pos (by omega)
    have hp2 : 256 ^ k ≤ 256 ^ 7 := Nat.pow_le_pow_right (by omega) (by omega)
    have bx : x % 256 ^ k < 256 ^ k := Nat.mod_lt _ hp
    have by' : y % 256 ^ k < 256 ^ k := Nat.mod_lt _ hp
    have hx' : x % 256 ^ k < 18446744073709551616 := by omega
    have hy' : y % 256 ^ k < 18446744073709551616 := by omega
    have L1 : Hid ((putB (x % 256 ^ k) (held (k : Int))).length = k) := by rw [held_nat k hk8]; exact putB_len _ _
    have L2 : Hid ((putB (y % 256 ^ k) (held (k : Int))).length = k) := by rw [held_nat k hk8]; exact putB_len _ _
    have L3 : Hid (Op.bytesLess (putB (x % 256 ^ k) (held (k : Int))) (putB (y % 256 ^ k) (held (k : Int))) = decide ((x % 256 ^ k) < (y % 256 ^ k))) := by rw [held_nat k hk8]; exact put_less _ _ _ bx by'
    have L4 : Hid ((putB (x % 256 ^ k) (held (k : Int)) == putB (y % 256 ^ k) (held (k : Int))) = ((((x % 256 ^ k) : Nat) : Int) == (((y % 256 ^ k) : Nat) : Int))) := by rw [held_nat k hk8]; exact put_same _ _ _ bx by'
    have hw : IntKind.u64.wrap (2 ^ (8 * (1 + n % 8))) = ((256 ^ k : Nat) : Int) := by rw [← hk]; exact pow_wrap k hk7
    have ex : (x : Int) % ((256 ^ k : Nat) : Int) = ((x % 256 ^ k : Nat) : Int) := by rw [Int.natCast_emod]
    have ey : (y : Int) % ((256 ^ k : Nat) : Int) = ((y % 256 ^ k : Nat) : Int) := by rw [Int.natCast_emod]
    generalize x % 256 ^ k = x' at *
    generalize y % 256 ^ k = y' at *
    generalize 256 ^ k = p at *
    have HK := Lib.hid hki
    have EX := Lib.hid ex
    have EY := Lib.hid ey
    have hpi : ¬ (p : Int) = 0 := by omega
    clear hki hk ex ey bx by' h7 hp2
    go_enter Try.func7, Try.ntmps7
    go_upto_region 5 with (fail)
    rw [EX.out, EY.out, HK.out]
    clear hw
    go_region_with (first | (go_at_call 10; ((with_reducible refine (put_any none 0 0 x' _ [] _ BAt.nil (by omega) hx').mono ?_); rintro e w1 ⟨a1, n1, c1, rfl, ho1, hb1⟩; have hcv1 := run_convert_bytes (P := Try.prog) w1 22 5 9 Try.underlying22 Try.underlying5 Try.underlying9 w1.heap.size a1 n1 _ c1 (BAt.of_own ho1); have hcw1 := fun W (hW : Below w1.heap.size w1 W) => run_convert_bytes (P := Try.prog) W 22 5 9 Try.underlying22 Try.underlying5 Try.underlying9 w1.heap.size a1 n1 _ c1 ((BAt.of_own ho1).below hW (Nat.le_refl _)))) | (go_at_call 10; ((with_reducible refine (put_any none 0 0 y' _ [] _ BAt.nil (by omega) hy').mono ?_); rintro e w2 ⟨a2, n2, c2, rfl, ho2, hb2⟩; have hcv2 := run_convert_bytes (P := Try.prog) w2 22 5 9 Try.underlying22 Try.underlying5 Try.underlying9 w2.heap.size a2 n2 _ c2 (BAt.of_own ho2))))
    all_goals
      have hbb : Below w.heap.size w w2 := (Below.refl _ _).drew.trans (hb1.trans (hb2.mono hb1.size))
      have hz := hbb.size
      clear hcv1 hcw1 hcv2 ho1 ho2 hb1 hb2
      have f1 := L1.out
      have f2 := L2.out
      have f3 := L3.out
      have f4 := L4.out
      go_wp2_with (go_at_call 8; ((with_reducible refine (awake_any _).mono ?_); rintro e w3 ⟨rfl, hb3⟩))
      go_ret
      exact ⟨by simp, hbb.trans (hb3.mono hz)⟩
end Go.Proofs.Ytngbcdmbkcjlfaa
