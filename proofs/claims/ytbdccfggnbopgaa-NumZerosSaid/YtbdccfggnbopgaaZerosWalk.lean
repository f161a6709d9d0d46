/- The walk of the statement NumZeros: the loop that makes a list of zeros, and its sum. Conditions: the bools lie in memory, at most 100 of them. -/
import Derived.Test.YtbdccfggnbopgaaInf
import Derived.OwnWalk
namespace Go.Proofs.Ytbdccfggnbopgaa
open Go.RowKit

theorem Try.info22 : (Try.prog.info? 22).map (fun i => (i.zero, i.size, i.bytes)) = some (some (.int .u64 0), 1, 8) := by kernel_rfl

def zeroOf (b : Bool) : Nat := if b then 9223372036854775808 else 0
def row (B : Nat → Bool) (k : Nat) : List Value := (List.range k).map fun i => .int .u64 ((zeroOf (B i) : Nat) : Int)
def allZ (B : Nat → Bool) (len : Nat) : Nat → Bool
  | 0 => decide (0 < len)
  | k + 1 => allZ B len k && B k

theorem row_succ (B : Nat → Bool) (k : Nat) (v : Value) (h : v = .int .u64 ((zeroOf (B k) : Nat) : Int)) : row B (k + 1) = row B k ++ [v] := by
  subst h; unfold row; rw [List.range_succ, List.map_append]; rfl

/-- What the loop holds: the list made so far. -/
def Made (w wr : World) (B : Nat → Bool) (v : Value) (k : Nat) : Prop := wr.ownsRow w.heap.size 22 1 v k (row B k) ∧ Below w.heap.size w wr

theorem Made.start (w : World) (B : Nat → Bool) : Made w w B (.slice none 0 0) 0 := ⟨World.ownsRow_nil _ _ _ _, Below.refl _ _⟩
theorem Made.next {w wr w1 : World} {B : Nat → Bool} {v v' x : Value} {k : Nat} {o : Obj} (h : Made w wr B v k) (hx : x = .int .u64 ((zeroOf (B k) : Nat) : Int))
    (ho : w1.ownsRow w.heap.size 22 1 v' (k + 1) (row B k ++ [x])) (hg : (wr.alloc o).grownBy w1 v.ownBlock) : Made w w1 B v' (k + 1) := by
  refine ⟨by rw [row_succ B k x hx]; exact ho, ?_⟩
  have hs := h.2.size
  exact (h.2.alloc hs o).grown hg (by simp; omega) fun j hj => (h.1.lt j hj).1

theorem sumTo_zeros (B : Nat → Bool) (k : Nat) : sumTo (fun i => zeroOf (B i)) k = zeroOf (decide (∀ i, i ≤ k → B i = true)) := by
  induction k with
  | zero =>
    show zeroOf (B 0) = _
    congr 1
    cases h : B 0
    · symm; simp; exact h
    · symm; simp; exact h
  | succ k ih =>
    rw [sumTo, ih]
    by_cases a : ∀ i, i ≤ k → B i = true
    · rw [decide_eq_true a]
      cases h : B (k + 1)
      · rw [decide_eq_false (fun g => by rw [g (k + 1) (Nat.le_refl _)] at h; cases h)]; rfl
      · rw [decide_eq_true (fun i hi => by by_cases c : i = k + 1; · rw [c]; exact h
                                           · exact a i (by omega))]; rfl
    · rw [decide_eq_false a, decide_eq_false (fun g => a fun i hi => g i (by omega))]
      cases B (k + 1) <;> rfl

theorem allZ_iff (B : Nat → Bool) (len k : Nat) : allZ B len k = true ↔ 0 < len ∧ ∀ i, i < k → B i = true := by
  induction k with
  | zero => simp [allZ]
  | succ k ih =>
    rw [allZ, Bool.and_eq_true, ih]
    constructor
    · rintro ⟨⟨p, h⟩, g⟩
      refine ⟨p, fun i hi => ?_⟩
      by_cases c : i = k
      · rw [c]; exact g
      · exact h i (by omega)
    · exact fun ⟨p, h⟩ => ⟨⟨p, fun i hi => h i (by omega)⟩, h k (by omega)⟩

theorem sumF_zeros (B : Nat → Bool) (len : Nat) : sumF (fun i => zeroOf (B i)) len = zeroOf (allZ B len len) := by
  unfold sumF
  by_cases h : len = 0
  · subst h; rfl
  · rw [if_neg h, sumTo_zeros]
    have e : decide (∀ i, i ≤ len - 1 → B i = true) = allZ B len len := by
      rw [Bool.eq_iff_iff, allZ_iff, decide_eq_true_iff]
      exact ⟨fun g => ⟨by omega, fun i hi => g i (by omega)⟩, fun ⟨_, g⟩ i hi => g i (by omega)⟩
    rw [e]
    cases allZ B len len <;> rfl

theorem zeroOf_lt (b : Bool) : zeroOf b < 18446744073709551616 := by cases b <;> decide

/-- The list that was made, as Sum is told of it. -/
theorem Made.lies {w wr : World} {B : Nat → Bool} {v : Value} {k : Nat} (h : Made w wr B v k) : ∃ a cap, v = .slice a k cap ∧ Lies wr a k cap (fun i => zeroOf (B i)) := by
  obtain ⟨hlen, h0 | ⟨g, cap, cur, rfl, hbg, hg, hnc, hcm, hcs, htake⟩⟩ := h.1
  · obtain ⟨rfl, rfl⟩ := h0
    exact ⟨none, 0, rfl, .inl rfl⟩
  · refine ⟨_, cap, rfl, ?_⟩
    by_cases c : k = 0
    · exact .inl c
    · refine .inr ⟨g, 0, rfl, by omega, hnc, hcm, fun i hi => ⟨?_, zeroOf_lt _⟩⟩
      have := h.1.cells (g := g) rfl i (.int .u64 ((zeroOf (B i) : Nat) : Int)) (by simp [row, hi])
      have ha : (⟨g, 0, none⟩ : Addr).add i = ⟨g, 0 + i, none⟩ := by by_cases c : i = 0 <;> simp [Addr.add, c]
      rw [ha] at this
      exact this

/-- What the walk is told of a list of bools that came in. -/
def BoolsAt (w : World) (a : Option Addr) (len : Nat) (B : Nat → Bool) : Prop :=
  len = 0 ∨ ∃ b off, a = some ⟨b, off, none⟩ ∧ ∀ i, i < len → w.cell? ⟨b, off + i, none⟩ = some (.bool (B i))

set_option maxHeartbeats 2000000 in
theorem zeros_walk (a : Option Addr) (len cap : Nat) (B : Nat → Bool) (w : World) (hB : BoolsAt w a len B) (hlen : len ≤ 100) :
    Calls Try.prog 8 #[.slice a len cap] w fun e w' => e = .returned (.bool true) ∧ Below w.heap.size w w' := by
  obtain ⟨i0, hi, hz0, hz1, hz2⟩ := info_parts Try.info22
  have hd : decide ((100 : Int) < (len : Int)) = false := by simp; omega
  go_enter Try.func8, Try.ntmps8
  go_wp2_with (go_at_call 16; ((with_reducible refine (awake_any _).mono ?_); rintro e w' ⟨rfl, rfl⟩))
  go_loopw [3, 4, 5] (fun v p c wr => ∃ k : Nat, k ≤ len ∧ c = .int .i64 k ∧ p = .bool (allZ B len k) ∧ Made w wr B v k) (fun _ _ c _ => len - (intOf c).toNat)
  case atStart => exact ⟨0, by omega, rfl, by simp [allZ], Made.start w B⟩
  case round =>
    obtain ⟨k, hk, rfl, rfl, hM⟩ := hrel
    by_cases hlt : k < len
    · rcases hB with h0 | ⟨b, off, rfl, hrow⟩
      · omega
      have hc : wr.cell? ⟨b, off + k, none⟩ = some (.bool (B k)) := cell_later hM.2 (hrow k hlt)
      have h1 : (k : Int) < (len : Int) := by omega
      have hown := hM.1
      have hsz := hM.2.size
      cases hb : B k <;> cases ha : allZ B len k
      · have hA : Hid (allZ B len (k + 1) = false) := by unfold Hid allZ; rw [ha, hb]; rfl
        have hx : Hid (Value.int .u64 0 = .int .u64 ((zeroOf (B k) : Nat) : Int)) := by unfold Hid; rw [hb]; rfl
        go_wp2_with (at_builtin; refine wpList_append_own _ rfl _ _ 30 rfl w.heap.size 22 i0 (.int .u64 0) 1 8 Try.underlying30 hi hz0 hz1 hz2 rfl (by decide) _ _ _ rfl (hown.alloc _) ⟨wr.heap.size, 0, none⟩ 1 1 [.int .u64 0] rfl rfl (cell_one_new _ _ _) (by intro u hu; simp at hu; subst hu; rfl) (by unfold maxLen; omega) (by omega) (by simp; omega) ?_; intro v' w1 hown' hgrow _; have R := hM.next hx.out hown' hgrow; clear hown' hgrow)
        go_roundw
        case rel => exact ⟨k + 1, by omega, by go_num, by rw [hA.out], R⟩
        case measure => simp [intOf]; omega
      · have hA : Hid (allZ B len (k + 1) = false) := by unfold Hid allZ; rw [ha, hb]; rfl
        have hx : Hid (Value.int .u64 0 = .int .u64 ((zeroOf (B k) : Nat) : Int)) := by unfold Hid; rw [hb]; rfl
        go_wp2_with (at_builtin; refine wpList_append_own _ rfl _ _ 30 rfl w.heap.size 22 i0 (.int .u64 0) 1 8 Try.underlying30 hi hz0 hz1 hz2 rfl (by decide) _ _ _ rfl (hown.alloc _) ⟨wr.heap.size, 0, none⟩ 1 1 [.int .u64 0] rfl rfl (cell_one_new _ _ _) (by intro u hu; simp at hu; subst hu; rfl) (by unfold maxLen; omega) (by omega) (by simp; omega) ?_; intro v' w1 hown' hgrow _; have R := hM.next hx.out hown' hgrow; clear hown' hgrow)
        go_roundw
        case rel => exact ⟨k + 1, by omega, by go_num, by rw [hA.out], R⟩
        case measure => simp [intOf]; omega
      · have hA : Hid (allZ B len (k + 1) = false) := by unfold Hid allZ; rw [ha, hb]; rfl
        have hx : Hid (Value.int .u64 9223372036854775808 = .int .u64 ((zeroOf (B k) : Nat) : Int)) := by unfold Hid; rw [hb]; rfl
        go_wp2_with (at_builtin; refine wpList_append_own _ rfl _ _ 30 rfl w.heap.size 22 i0 (.int .u64 0) 1 8 Try.underlying30 hi hz0 hz1 hz2 rfl (by decide) _ _ _ rfl (hown.alloc _) ⟨wr.heap.size, 0, none⟩ 1 1 [.int .u64 9223372036854775808] rfl rfl (cell_one_new _ _ _) (by intro u hu; simp at hu; subst hu; rfl) (by unfold maxLen; omega) (by omega) (by simp; omega) ?_; intro v' w1 hown' hgrow _; have R := hM.next hx.out hown' hgrow; clear hown' hgrow)
        go_roundw
        case rel => exact ⟨k + 1, by omega, by go_num, by rw [hA.out], R⟩
        case measure => simp [intOf]; omega
      · have hA : Hid (allZ B len (k + 1) = true) := by unfold Hid allZ; rw [ha, hb]; rfl
        have hx : Hid (Value.int .u64 9223372036854775808 = .int .u64 ((zeroOf (B k) : Nat) : Int)) := by unfold Hid; rw [hb]; rfl
        go_wp2_with (at_builtin; refine wpList_append_own _ rfl _ _ 30 rfl w.heap.size 22 i0 (.int .u64 0) 1 8 Try.underlying30 hi hz0 hz1 hz2 rfl (by decide) _ _ _ rfl (hown.alloc _) ⟨wr.heap.size, 0, none⟩ 1 1 [.int .u64 9223372036854775808] rfl rfl (cell_one_new _ _ _) (by intro u hu; simp at hu; subst hu; rfl) (by unfold maxLen; omega) (by omega) (by simp; omega) ?_; intro v' w1 hown' hgrow _; have R := hM.next hx.out hown' hgrow; clear hown' hgrow)
        go_roundw
        case rel => exact ⟨k + 1, by omega, by go_num, by rw [hA.out], R⟩
        case measure => simp [intOf]; omega
    · obtain rfl : k = len := by omega
      obtain ⟨a', cap', rfl, hL⟩ := hM.lies
      have hbel := hM.2
      have hs := sumF_zeros B k
      cases hall : allZ B k k
      · have k1 : (((sumF (fun i => zeroOf (B i)) k : Nat) : Int) == 0) = true := by rw [hs, hall]; rfl
        clear hs hM
        go_wp2_with (go_at_call 22; ((with_reducible refine (sum_any _ _ _ _ _ hL).mono ?_); rintro e w' ⟨rfl, hdr⟩))
        go_ret
        exact ⟨rfl, hbel.trans (hdr.below _)⟩
      · have k1 : (((sumF (fun i => zeroOf (B i)) k : Nat) : Int) == 9223372036854775808) = true := by rw [hs, hall]; rfl
        clear hs hM
        go_wp2_with (go_at_call 22; ((with_reducible refine (sum_any _ _ _ _ _ hL).mono ?_); rintro e w' ⟨rfl, hdr⟩))
        go_ret
        exact ⟨rfl, hbel.trans (hdr.below _)⟩
end Go.Proofs.Ytbdccfggnbopgaa
