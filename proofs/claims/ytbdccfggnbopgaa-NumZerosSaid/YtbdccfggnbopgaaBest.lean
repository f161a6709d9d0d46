/- What Least and Most of layer num, and the document's own, do at every list of numbers: walks over their text. Conditions: each number's bits are below 2^64. -/
import Derived.Test.YtbdccfggnbopgaaSum
import Derived.Deep.QuietTactic
import Derived.BigQuiet
namespace Go.Proofs.Ytbdccfggnbopgaa
open Go.RowKit

/-- The outermost of f 0, .., f k to the side that Order tells by -1 or 1. -/
def bestTo (f : Nat → Nat) (side : Int) : Nat → Nat
  | 0 => f 0
  | k + 1 => if (orderF (f (k + 1)) (bestTo f side k) == side) = true then f (k + 1) else bestTo f side k

theorem bestTo_lt (f : Nat → Nat) (side : Int) (k : Nat) (h : ∀ i, i ≤ k → f i < 18446744073709551616) : bestTo f side k < 18446744073709551616 := by
  induction k with
  | zero => exact h 0 (Nat.le_refl _)
  | succ k ih =>
    unfold bestTo
    split
    · exact h _ (Nat.le_refl _)
    · exact ih fun i hi => h i (by omega)

theorem outer_none (a : Option Addr) (cap : Nat) (side : Int) (w : World) :
    Calls Try.prog 30 #[.slice a 0 cap, .int .i64 side] w fun e w' => e = .returned (.tuple #[.int .u64 0, .bool false]) ∧ w = w' := by
  go_enter Try.func30, Try.ntmps30
  go_wp2
  go_ret2
  exact ⟨rfl, rfl⟩

theorem ret_num {a b : Nat} {c : Bool} (h : a = b) : Ending.returned (.tuple #[.int .u64 (a : Int), .bool c]) = .returned (.tuple #[.int .u64 (b : Int), .bool c]) := by rw [h]

set_option maxHeartbeats 1000000 in
theorem outer_some (b off len cap : Nat) (f : Nat → Nat) (side : Int) (w : World) (hl : 0 < len) (hlc : len ≤ cap) (hcap : cap ≤ maxLen) (hrow : Holds w b off len f) (hc1 : ¬ cap = 1) :
    Calls Try.prog 30 #[.slice (some ⟨b, off, none⟩) len cap, .int .i64 side] w fun e w' => e = .returned (.tuple #[.int .u64 (canonF (bestTo f side (len - 1)) : Nat), .bool true]) ∧ w = w' := by
  unfold maxLen at hcap
  have h0 : w.cell? ⟨b, off, none⟩ = some (.int .u64 ((f 0 : Nat) : Int)) := by simpa using (hrow 0 hl).1
  have hne : ((len : Int) == 0) = false := by simp; omega
  have hlp : (0 : Int) < (len : Int) := by omega
  go_enter Try.func30, Try.ntmps30
  go_wp2
  go_loop [6, 18] (fun s i => ∃ k : Nat, k ≤ len - 1 ∧ i = .int .i64 k ∧ s = .int .u64 ((bestTo f side k : Nat) : Int)) (fun _ i => len - (intOf i).toNat)
  case atStart => exact ⟨0, by omega, rfl, rfl⟩
  case round =>
    obtain ⟨k, hk, rfl, rfl⟩ := hrel
    have hx := bestTo_lt f side k fun i hi => (hrow i (by omega)).2
    by_cases hlt : k < len - 1
    · have hck : w.cell? ⟨b, off + 1 + k, none⟩ = some (.int .u64 ((f (k + 1) : Nat) : Int)) := by
        rw [show off + 1 + k = off + (k + 1) by omega]; exact (hrow (k + 1) (by omega)).1
      have hy := (hrow (k + 1) (by omega)).2
      have hb : Hid (bestTo f side (k + 1) = if (orderF (f (k + 1)) (bestTo f side k) == side) = true then f (k + 1) else bestTo f side k) := by exact rfl
      by_cases ho : (orderF (f (k + 1)) (bestTo f side k) == side) = true
      · have hb' : Hid (bestTo f side (k + 1) = f (k + 1)) := by unfold Hid; rw [hb.out, if_pos ho]
        go_wp2_with (go_at_call 15; ((with_reducible refine (order_any _ _ hy hx _).mono ?_); rintro e w' ⟨rfl, rfl⟩))
        go_round
        case rel => exact ⟨k + 1, by omega, by go_num, by rw [hb'.out]⟩
        case measure => simp [intOf]; omega
      · have hb' : Hid (bestTo f side (k + 1) = bestTo f side k) := by unfold Hid; rw [hb.out, if_neg ho]
        have ho' : (orderF (f (k + 1)) (bestTo f side k) == side) = false := by simpa using ho
        clear ho
        go_wp2_with (go_at_call 15; ((with_reducible refine (order_any _ _ hy hx _).mono ?_); rintro e w' ⟨rfl, rfl⟩))
        go_round
        case rel => exact ⟨k + 1, by omega, by go_num, by rw [hb'.out]⟩
        case measure => simp [intOf]; omega
    · have hk' : Hid (k = len - 1) := by unfold Hid; omega
      go_wp2_with (go_at_call 11; ((with_reducible refine (canon_any _ _).mono ?_); rintro e w' ⟨rfl, rfl⟩))
      go_ret2
      exact ⟨ret_num (by rw [hk'.out]), rfl⟩

set_option maxHeartbeats 1000000 in
theorem outer_one (b off : Nat) (f : Nat → Nat) (side : Int) (w : World) (hrow : Holds w b off 1 f) :
    Calls Try.prog 30 #[.slice (some ⟨b, off, none⟩) 1 1, .int .i64 side] w fun e w' => e = .returned (.tuple #[.int .u64 (canonF (bestTo f side 0) : Nat), .bool true]) ∧ w = w' := by
  have h0 : w.cell? ⟨b, off, none⟩ = some (.int .u64 ((f 0 : Nat) : Int)) := by simpa using (hrow 0 (by omega)).1
  go_enter Try.func30, Try.ntmps30
  go_wp2
  refine wp_loop_rounds 1 ?_
  rw [rounds_succ]
  go_wp2_with (go_at_call 11; ((with_reducible refine (canon_any _ _).mono ?_); rintro e w' ⟨rfl, rfl⟩))
  go_ret2
  exact ⟨rfl, rfl⟩

def bestF (f : Nat → Nat) (side : Int) (len : Nat) : Nat := if len = 0 then 0 else canonF (bestTo f side (len - 1))
def someB (len : Nat) : Bool := decide (0 < len)

theorem outer_any (a : Option Addr) (len cap : Nat) (f : Nat → Nat) (side : Int) (w : World) (h : Lies w a len cap f) :
    Calls Try.prog 30 #[.slice a len cap, .int .i64 side] w fun e w' => e = .returned (.tuple #[.int .u64 (bestF f side len : Nat), .bool (someB len)]) ∧ w = w' := by
  rcases h with rfl | ⟨b, off, rfl, hl, hlc, hcap, hrow⟩
  · exact outer_none a cap side w
  · unfold bestF someB
    rw [if_neg (by omega), decide_eq_true hl]
    by_cases hc1 : cap = 1
    · obtain rfl : cap = 1 := hc1
      obtain rfl : len = 1 := by omega
      exact outer_one b off f side w hrow
    · exact outer_some b off len cap f side w hl hlc hcap hrow hc1

theorem least_any (a : Option Addr) (len cap : Nat) (f : Nat → Nat) (w : World) (h : Lies w a len cap f) :
    Calls Try.prog 18 #[.slice a len cap] w fun e w' => e = .returned (.tuple #[.int .u64 (bestF f (-1) len : Nat), .bool (someB len)]) ∧ w = w' := by
  go_enter Try.func18, Try.ntmps18
  go_wp2_with (go_at_call 30; ((with_reducible refine (outer_any _ _ _ f _ _ h).mono ?_); rintro e w' ⟨rfl, rfl⟩))
  go_ret2
  exact ⟨rfl, rfl⟩

theorem most_any (a : Option Addr) (len cap : Nat) (f : Nat → Nat) (w : World) (h : Lies w a len cap f) :
    Calls Try.prog 20 #[.slice a len cap] w fun e w' => e = .returned (.tuple #[.int .u64 (bestF f 1 len : Nat), .bool (someB len)]) ∧ w = w' := by
  go_enter Try.func20, Try.ntmps20
  go_wp2_with (go_at_call 30; ((with_reducible refine (outer_any _ _ _ f _ _ h).mono ?_); rintro e w' ⟨rfl, rfl⟩))
  go_ret2
  exact ⟨rfl, rfl⟩
end Go.Proofs.Ytbdccfggnbopgaa
