/- The law's walk of DiskReplaces. Condition: the bytes lie in memory. -/
import Derived.Test.YtclfgkeepmdmjaaDiskLaw

import Derived.Test.YtclfgkeepmdmjaaCodeSame

namespace Go.Proofs.Ytclfgkeepmdmjaa

open Go.RowKit

set_option linter.unusedVariables false
set_option linter.unusedSimpArgs false

/-- The disk from one step of the law to the next. -/
def dA (o : List UInt8) : Dk := ⟨10000, [], o, -1, false, false, []⟩
def dB (o : List UInt8) : Dk := ⟨10000, o, [], -1, false, false, []⟩
def dC (o r : List UInt8) : Dk := ⟨10000, o, r, -1, false, false, []⟩
def dE (o r : List UInt8) : Dk := ⟨10000, o, r, 0, false, false, []⟩
def dF (o r x : List UInt8) : Dk := ⟨10000, o, r, 0, true, true, x⟩
def dG (o x : List UInt8) (k : Int) : Dk := ⟨10000, if 0 < k then x else o, [], -1, false, false, []⟩
section

variable {o r x : List UInt8} {k : Int}

theorem full_dA (ho : o.length ≤ 1000) : fullA (newD 10000) o = false := decide_eq_false (by show ¬ (10000 : Int) < ((0 : Nat) : Int) + ((0 : Nat) : Int) + o.length; omega)
theorem full_dC (ho : o.length ≤ 1000) (hr : r.length ≤ 1000) : fullA (dB o) r = false := decide_eq_false (by show ¬ (10000 : Int) < (o.length : Int) + ((0 : Nat) : Int) + r.length; omega)
theorem full_dF (hx : x.length ≤ 1000) : fullR (dE o r) x = false := decide_eq_false (by show ¬ (10000 : Int) < (x.length : Int); omega)
theorem stepA (ho : o.length ≤ 1000) : appE (newD 10000) o = 0 ∧ appD (newD 10000) o = dA o := by
  unfold appE appD
  rw [full_dA ho]
  exact ⟨rfl, by simp [newD, goesD, dA]; decide⟩
theorem stepB : synE (dA o) = 0 ∧ synD (dA o) = dB o := ⟨rfl, by simp [synD, dA, dB, goesB, goesD]⟩
theorem stepC (ho : o.length ≤ 1000) (hr : r.length ≤ 1000) : appE (dB o) r = 0 ∧ appD (dB o) r = dC o r := by
  unfold appE appD
  rw [full_dC ho hr]
  exact ⟨rfl, by simp [dB, goesD, dC]⟩
theorem stepE : fusD (dC o r) 0 = dE o r := rfl
theorem stepF (hx : x.length ≤ 1000) : repE (dE o r) x = 8 ∧ repD (dE o r) x = dF o r x := by
  unfold repE repD
  rw [full_dF hx]
  exact ⟨rfl, by simp [dE, goesD, goesB, dF]⟩
theorem fuA : (dA o).fuse < 9223372036854775808 := show (-1 : Int) < 9223372036854775808 by decide
theorem fuB : (dB o).fuse < 9223372036854775808 := show (-1 : Int) < 9223372036854775808 by decide
theorem fuE : (dE o r).fuse < 9223372036854775808 := show (0 : Int) < 9223372036854775808 by decide
theorem stepG : cutD (dF o r x) k = dG o x k := rfl
theorem bndA (ho : o.length ≤ 1000) : BndD (dA o) 1099511627776 := ⟨by show 0 + o.length ≤ _; omega, by show 0 ≤ _; omega⟩
theorem bndB (ho : o.length ≤ 1000) : BndD (dB o) 1099511627776 := ⟨by show o.length + 0 ≤ _; omega, by show 0 ≤ _; omega⟩
theorem bndF (ho : o.length ≤ 1000) (hr : r.length ≤ 1000) (hx : x.length ≤ 1000) : BndD (dF o r x) 1099511627776 := ⟨by show o.length + r.length ≤ _; omega, by show x.length ≤ _; omega⟩
theorem bndG (ho : o.length ≤ 1000) (hx : x.length ≤ 1000) : BndD (dG o x k) 1099511627776 := by
  refine ⟨?_, by show 0 ≤ _; omega⟩
  show (if 0 < k then x else o).length + 0 ≤ _
  split <;> omega
end

set_option maxRecDepth 100000 in
set_option maxHeartbeats 8000000 in
theorem replaces_walk (a0 a1 a2 : Option Addr) (n0 n1 n2 c0 c1 c2 : Nat) (o r x : List UInt8) (k : Int) (W : World) (hb0 : BAt W W.heap.size a0 n0 o) (hb1 : BAt W W.heap.size a1 n1 r) (hb2 : BAt W W.heap.size a2 n2 x) (hk1 : -9223372036854775808 ≤ k) (hk2 : k < 9223372036854775808) :
    Calls Try.prog 6 #[.slice a0 n0 c0, .agg #[.slice a1 n1 c1, .slice a2 n2 c2], .int .i64 k] W (Quiet2 W (.bool true)) := by
  have B0 : Hid (Below W.heap.size W (W.alloc (.cells #[.slice a1 n1 c1, .slice a2 n2 c2] 50))) := (Below.refl _ _).alloc (Nat.le_refl _) _
  obtain ⟨y0, y1⟩ := (BoxC.new W #[.slice a1 n1 c1, .slice a2 n2 c2] 50).two
  by_cases hq : n0 ≤ 1000 ∧ n1 ≤ 1000 ∧ n2 ≤ 1000
  · obtain ⟨q0, q1, q2⟩ := hq
    have d0 : decide ((n0 : Int) > 1000) = false := decide_eq_false (by omega)
    have d1 : decide ((n1 : Int) > 1000) = false := decide_eq_false (by omega)
    have d2 : decide ((n2 : Int) > 1000) = false := decide_eq_false (by omega)
    have l0 : Hid (o.length ≤ 1000) := by unfold Hid; rw [hb0.len]; exact q0
    have l1 : Hid (r.length ≤ 1000) := by unfold Hid; rw [hb1.len]; exact q1
    have l2 : Hid (x.length ≤ 1000) := by unfold Hid; rw [hb2.len]; exact q2
    have H0 := Lib.hid hb0
    have H1 := Lib.hid hb1
    have H2 := Lib.hid hb2
    have m0 : n0 ≤ maxLen := by unfold maxLen; omega
    have m2 : n2 ≤ maxLen := by unfold maxLen; omega
    clear hb0 hb1 hb2
    go_enter Try.func6, Try.ntmps6
    go_upto_region 1 with (fail)
    go_quiet (fail)
    have B1 := Lib.hid (below_drewN nq B0.out)
    go_upto_region 11 with (first
      | (go_at_call 8; ((with_reducible refine (awake12_any _).mono ?_); rintro e w1 ⟨rfl, hb1⟩; have B2 := Lib.hid (B1.out.trans (hb1.mono B1.out.size)); clear hb1))
      | (go_at_call 10; ((with_reducible refine (new_law (W := W) 10000 (by omega) B2.out).mono ?_); rintro e w2 ⟨rfl, h2⟩; have D2 := Lib.hid h2; clear h2))
      | (go_at_call 18; (first | ((with_reducible refine (append_to (stepA l0.out).1 (stepA l0.out).2 D2.out (by decide) ((BndD.new _).mono (by omega)) (D2.out.bat H0.out (Nat.le_refl _)) (by omega)).mono ?_); rintro e w3 ⟨rfl, h3⟩; have D3 := Lib.hid h3; clear h3 D2) | ((with_reducible refine (append_to (stepC l0.out l1.out).1 (stepC l0.out l1.out).2 D4.out fuB (bndB l0.out) (D4.out.bat H1.out (Nat.le_refl _)) (by omega)).mono ?_); rintro e w5 ⟨rfl, h5⟩; have D5 := Lib.hid h5; clear h5 D4)))
      | (go_at_call 19; ((with_reducible refine (sync_to stepB.1 stepB.2 D3.out fuA).mono ?_); rintro e w4 ⟨rfl, h4⟩; have D4 := Lib.hid h4; clear h4))
      | (go_at_call 22; ((with_reducible refine (fuse_to 0 stepE D5.out).mono ?_); rintro e w6 ⟨rfl, h6⟩; have D6 := Lib.hid h6; clear h6))
      | (go_at_call 23; ((with_reducible refine (replace_to (stepF l2.out).1 (stepF l2.out).2 D6.out fuE (D6.out.bat H2.out (Nat.le_refl _)) (by omega)).mono ?_); rintro e w7 ⟨rfl, h7⟩; have D7 := Lib.hid h7; clear h7))
      | (go_at_call 20; ((with_reducible refine (cut_to k stepG D7.out (bndF l0.out l1.out l2.out) hk1 hk2).mono ?_); rintro e w8 ⟨g8, rfl, _, h8⟩; have D8 := Lib.hid h8; clear h8))
      | (go_at_call 16; ((with_reducible refine (bytes_law D8.out (bndG l0.out l2.out)).mono ?_); rintro e w9 ⟨a9, n9, c9, rfl, hb9, hn9, hc9, hm9, h9, _⟩; have D9 := Lib.hid h9; have T9 := Lib.hid hb9; have N9 := Lib.hid (Nat.le_trans hc9 hm9); clear h9 hb9 hn9)))
    by_cases hk : 0 < k
    · have hd : decide (k > 0) = true := decide_eq_true hk
      have T : Hid (BAt w9 w9.heap.size a9 n9 x) := by
        have e : (dG o x k).la ++ (dG o x k).re = x := by show (if 0 < k then x else o) ++ [] = x; rw [if_pos hk, List.append_nil]
        exact e ▸ T9.out
      go_wp2_with (go_at_call 15; ((with_reducible refine (same_any a9 a2 n9 n2 c9 c2 _ _ x x _ T.out (D9.out.bat H2.out (Nat.le_refl _)) N9.out m2).mono ?_); rintro e w10 ⟨rfl, q, rfl⟩))
      go_ret
      exact ⟨by simp, (D9.out.drewN q).bel⟩
    · have hd : decide (k > 0) = false := decide_eq_false hk
      have T : Hid (BAt w9 w9.heap.size a9 n9 o) := by
        have e : (dG o x k).la ++ (dG o x k).re = o := by show (if 0 < k then x else o) ++ [] = o; rw [if_neg hk, List.append_nil]
        exact e ▸ T9.out
      go_wp2_with (go_at_call 15; ((with_reducible refine (same_any a9 a0 n9 n0 c9 c0 _ _ o o _ T.out (D9.out.bat H0.out (Nat.le_refl _)) N9.out m0).mono ?_); rintro e w10 ⟨rfl, q, rfl⟩))
      go_ret
      exact ⟨by simp, (D9.out.drewN q).bel⟩
  · clear hb0 hb1 hb2
    by_cases q0 : n0 ≤ 1000
    · have d0 : decide ((n0 : Int) > 1000) = false := decide_eq_false (by omega)
      by_cases q1 : n1 ≤ 1000
      · have d1 : decide ((n1 : Int) > 1000) = false := decide_eq_false (by omega)
        have d2 : decide ((n2 : Int) > 1000) = true := decide_eq_true (by omega)
        clear hq
        go_enter Try.func6, Try.ntmps6
        go_upto_region 1 with (fail)
        go_quiet (fail)
        have B1 := Lib.hid (below_drewN nq B0.out)
        go_wp2_with (go_at_call 8; ((with_reducible refine (awake12_any _).mono ?_); rintro e w1 ⟨rfl, hb1⟩; first | (have B3 := Lib.hid (B2.out.trans (hb1.mono B2.out.size)); clear hb1) | (have B2 := Lib.hid (B1.out.trans (hb1.mono B1.out.size)); clear hb1)))
        go_ret
        exact ⟨rfl, B3.out⟩
      · have d1 : decide ((n1 : Int) > 1000) = true := decide_eq_true (by omega)
        clear hq
        go_enter Try.func6, Try.ntmps6
        go_upto_region 1 with (fail)
        go_quiet (fail)
        have B1 := Lib.hid (below_drewN nq B0.out)
        go_wp2_with (go_at_call 8; ((with_reducible refine (awake12_any _).mono ?_); rintro e w1 ⟨rfl, hb1⟩; first | (have B3 := Lib.hid (B2.out.trans (hb1.mono B2.out.size)); clear hb1) | (have B2 := Lib.hid (B1.out.trans (hb1.mono B1.out.size)); clear hb1)))
        go_ret
        exact ⟨rfl, B3.out⟩
    · have d0 : decide ((n0 : Int) > 1000) = true := decide_eq_true (by omega)
      clear hq
      go_enter Try.func6, Try.ntmps6
      go_upto_region 1 with (fail)
      go_quiet (fail)
      have B1 := Lib.hid (below_drewN nq B0.out)
      go_wp2_with (go_at_call 8; ((with_reducible refine (awake12_any _).mono ?_); rintro e w1 ⟨rfl, hb1⟩; first | (have B3 := Lib.hid (B2.out.trans (hb1.mono B2.out.size)); clear hb1) | (have B2 := Lib.hid (B1.out.trans (hb1.mono B1.out.size)); clear hb1)))
      go_ret
      exact ⟨rfl, B3.out⟩
end Go.Proofs.Ytclfgkeepmdmjaa
