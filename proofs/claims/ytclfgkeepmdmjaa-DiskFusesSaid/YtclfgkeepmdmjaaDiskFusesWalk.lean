/- The law's walk of DiskFuses. Condition: the bytes lie in memory. -/
import Derived.Test.YtclfgkeepmdmjaaDiskLaw

namespace Go.Proofs.Ytclfgkeepmdmjaa

open Go.RowKit

set_option linter.unusedVariables false
set_option linter.unusedSimpArgs false

/-- The disk behind k acts, with a fuse of n. -/
structure FuS (n k : Nat) (d : Dk) : Prop where
  size : d.size = 1000
  bnd : BndD d k
  dn : d.down = decide (n < k)
  fu : d.fuse = ((n - k : Nat) : Int)
section

variable {n k : Nat} {d : Dk}

theorem FuS.start (n : Nat) : FuS n 0 (fusD (newD 1000) n) := ⟨rfl, ⟨Nat.le_refl _, Nat.le_refl _⟩, rfl, by show max (n : Int) (-1) = _; omega⟩
theorem FuS.lt (h : FuS n k d) (hn : n < 256) : d.fuse < 9223372036854775808 := by rw [h.fu]; omega
theorem FuS.past (h : FuS n k d) (hk : n < k) : d.down = true ∧ FuS n (k + 1) d := ⟨by rw [h.dn]; exact decide_eq_true hk, h.size, h.bnd.mono (by omega), by rw [h.dn, decide_eq_true hk, decide_eq_true (by omega)], by rw [h.fu]; omega⟩
theorem FuS.ahead (h : FuS n k d) (hk : ¬ n < k) : d.down = false ∧ goesB d = decide (¬ k < n) := by
  refine ⟨by rw [h.dn]; exact decide_eq_false hk, ?_⟩
  unfold goesB
  rw [h.fu]
  exact decide_eq_decide.2 ⟨fun h => by omega, fun h => by omega⟩
theorem FuS.goes (h : FuS n k d) (hk : ¬ n < k) : (goesD d).down = decide (n < k + 1) ∧ (goesD d).fuse = ((n - (k + 1) : Nat) : Int) := by
  obtain ⟨h1, h2⟩ := h.ahead hk
  refine ⟨?_, ?_⟩
  · rw [goes_down, h2, h1, Bool.or_false]
    exact decide_eq_decide.2 ⟨fun h => by omega, fun h => by omega⟩
  · unfold goesD
    rw [h.fu]
    by_cases e : k < n
    · rw [if_neg (by omega), if_pos (by omega)]; show ((n - k : Nat) : Int) - 1 = _; omega
    · rw [if_pos (by omega)]; show ((n - k : Nat) : Int) = _; omega
theorem FuS.app (h : FuS n k d) (hk : k < 100) (x : UInt8) : appE d [x] = (if k < n then 0 else 8) ∧ FuS n (k + 1) (appD d [x]) := by
  unfold appE appD
  by_cases hp : n < k
  · obtain ⟨h1, h2⟩ := h.past hp
    rw [if_pos h1, if_pos h1, if_neg (by omega)]
    exact ⟨rfl, h2⟩
  · obtain ⟨h1, h2⟩ := h.ahead hp
    obtain ⟨g1, g2⟩ := h.goes hp
    have hf : fullA d [x] = false := decide_eq_false (by have := h.bnd.1; rw [h.size]; show ¬ (1000 : Int) < (d.la.length : Int) + d.re.length + ((1 : Nat) : Int); omega)
    rw [h1, hf, h2, if_neg Bool.false_ne_true, if_neg Bool.false_ne_true, if_neg Bool.false_ne_true, if_neg Bool.false_ne_true]
    refine ⟨?_, ?_, ⟨?_, ?_⟩, g1, g2⟩
    · by_cases e : k < n
      · rw [if_pos e, if_neg (by simp [e])]
      · rw [if_neg e, if_pos (by simp [e])]
    · show (goesD d).size = _; rw [goes_size]; exact h.size
    · show (goesD d).la.length + (d.re ++ [x]).length ≤ _
      rw [goes_la, List.length_append]; have := h.bnd.1; simp; omega
    · show (goesD d).half.length ≤ _
      rw [goes_half]; have := h.bnd.2; omega
theorem FuS.syn (h : FuS n k d) : synE d = (if k < n then 0 else 8) ∧ FuS n (k + 1) (synD d) := by
  unfold synE synD
  by_cases hp : n < k
  · obtain ⟨h1, h2⟩ := h.past hp
    rw [if_pos h1, if_pos h1, if_neg (by omega)]
    exact ⟨rfl, h2⟩
  · obtain ⟨h1, h2⟩ := h.ahead hp
    obtain ⟨g1, g2⟩ := h.goes hp
    rw [h1, h2, if_neg Bool.false_ne_true, if_neg Bool.false_ne_true]
    by_cases e : k < n
    · rw [if_pos e, if_neg (by simp [e]), if_neg (by simp [e])]
      refine ⟨rfl, (goes_size d).trans h.size, ⟨?_, ?_⟩, g1, g2⟩
      · show (d.la ++ d.re).length + 0 ≤ _
        rw [List.length_append]; have := h.bnd.1; omega
      · show (goesD d).half.length ≤ _
        rw [goes_half]; have := h.bnd.2; omega
    · rw [if_neg e, if_pos (by simp [e]), if_pos (by simp [e])]
      exact ⟨rfl, (goes_size d).trans h.size, (h.bnd.goes).mono (by omega), g1, g2⟩
theorem FuS.rep (h : FuS n k d) (hk : k < 100) (x : UInt8) : repE d [x] = (if k < n then 0 else 8) ∧ FuS n (k + 1) (repD d [x]) := by
  unfold repE repD
  by_cases hp : n < k
  · obtain ⟨h1, h2⟩ := h.past hp
    rw [if_pos h1, if_pos h1, if_neg (by omega)]
    exact ⟨rfl, h2⟩
  · obtain ⟨h1, h2⟩ := h.ahead hp
    obtain ⟨g1, g2⟩ := h.goes hp
    have hf : fullR d [x] = false := decide_eq_false (by rw [h.size]; show ¬ (1000 : Int) < ((1 : Nat) : Int); omega)
    rw [h1, hf, h2, if_neg Bool.false_ne_true, if_neg Bool.false_ne_true, if_neg Bool.false_ne_true, if_neg Bool.false_ne_true]
    by_cases e : k < n
    · rw [if_pos e, if_neg (by simp [e]), if_neg (by simp [e])]
      refine ⟨rfl, (goes_size d).trans h.size, ⟨?_, ?_⟩, g1, g2⟩
      · show 1 + 0 ≤ _; omega
      · show (goesD d).half.length ≤ _
        rw [goes_half]; have := h.bnd.2; omega
    · rw [if_neg e, if_pos (by simp [e]), if_pos (by simp [e])]
      refine ⟨rfl, (goes_size d).trans h.size, ⟨?_, ?_⟩, g1, g2⟩
      · show (goesD d).la.length + (goesD d).re.length ≤ _
        rw [goes_la, goes_re]; have := h.bnd.1; omega
      · show 1 ≤ _; omega
theorem FuS.cut (h : FuS n k d) (hk : k ≤ 100) (c : Int) : appE (cutD d c) [3] = 0 ∧ appD (cutD d c) [3] = { cutD d c with re := [3] } ∧ synE { cutD d c with re := [3] } = 0 ∧ synD { cutD d c with re := [3] } = { cutD d c with la := behD d c ++ [3] } := by
  have hb := beh_len h.bnd c
  have hf : fullA (cutD d c) [3] = false := decide_eq_false (by show ¬ d.size < ((behD d c).length : Int) + ((0 : Nat) : Int) + ((1 : Nat) : Int); rw [h.size]; omega)
  have hg : goesB (cutD d c) = false := rfl
  refine ⟨?_, ?_, rfl, ?_⟩
  · unfold appE; rw [hf, hg]; rfl
  · unfold appD; rw [hf]; rfl
  · rfl
end

set_option maxRecDepth 100000 in
set_option maxHeartbeats 8000000 in
theorem fuses_walk (n : Nat) (hn : n < 256) (a : Option Addr) (m c : Nat) (l : List UInt8) (k : Int) (W : World) (hb : BAt W W.heap.size a m l) (hk1 : -9223372036854775808 ≤ k) (hk2 : k < 9223372036854775808) :
    Calls Try.prog 5 #[.int .u8 n, .slice a m c, .int .i64 k] W (Quiet2 W (.bool true)) := by
  have hlen := hb.len
  by_cases hq : m ≤ 100
  · have hd : decide ((m : Int) > 100) = false := decide_eq_false (by omega)
    go_enter Try.func5, Try.ntmps5
    go_wp2_with (first
      | (go_at_call 8; ((with_reducible refine (awake12_any _).mono ?_); rintro e w1 ⟨rfl, hb1⟩; have B1 := Lib.hid hb1; clear hb1))
      | (go_at_call 10; ((with_reducible refine (new_law (W := W) 1000 (by omega) B1.out).mono ?_); rintro e w2 ⟨rfl, h2⟩; have D2 := Lib.hid h2; clear h2))
      | (go_at_call 22; ((with_reducible refine (fuse_law n D2.out).mono ?_); rintro e w3 ⟨rfl, h3⟩; have D3 := Lib.hid h3; clear h3)))
    obtain ⟨g, hg⟩ : ∃ g, g = w1.heap.size := ⟨_, rfl⟩
    rw [← hg] at D3 ⊢
    clear hg D2
    go_loopw [8] (fun i wr => ∃ (j : Nat) (d : Dk), j ≤ m ∧ i = .int .i64 j ∧ FuS n j d ∧ LawD W wr g d []) (fun i _ => m - (intOf i).toNat)
    case atStart => exact ⟨0, _, by omega, rfl, FuS.start n, D3.out⟩
    case round =>
      obtain ⟨j, d, hj, rfl, hF, hL⟩ := hrel
      clear D3 B1
      have HF := Lib.hid hF
      have HL := Lib.hid hL
      by_cases hlt : j < m
      · obtain ⟨b, off, rfl, hb0, hc⟩ := hb.at_ (i := j) (by omega)
        have hc' := (hL.bel.cell (p := ⟨b, off + j, none⟩) hb0).trans hc
        have HB := Lib.hid hb
        generalize l[j].toNat = x at *
        clear hb hL hc hF hlen
        have j100 : j < 100 := by omega
        have hfl : Hid (d.fuse < 9223372036854775808) := HF.out.lt hn
        rcases (show (x : Int) % 3 = 0 ∨ (x : Int) % 3 = 1 ∨ (x : Int) % 3 = 2 by omega) with hr | hr | hr
        · have S : Hid (FuS n (j + 1) (appD d [1])) := (HF.out.app j100 1).2
          by_cases hjn : j < n
          · have ha := (HF.out.app j100 1).1
            rw [if_pos hjn] at ha
            have p1 : decide ((j : Int) < (n : Int)) = true := decide_eq_true (by omega)
            have p2 : decide ((j : Int) ≥ (n : Int)) = false := decide_eq_false (by omega)
            have p4 : decide (n ≤ j) = false := decide_eq_false (by omega)
            have p3 : (appD d [1]).down = false := by rw [S.out.dn]; exact decide_eq_false (by omega)
            have cA : ∀ fr : Nat × Nat, Calls Try.prog 18 #[.pointer (some ⟨g, 0, none⟩), .slice (some ⟨wr.heap.size, 0, none⟩) 1 1] (wr.alloc (.cells #[.int .u8 1] 5 fr)) (fun e w' => e = .returned (.int .i64 0) ∧ LawD W w' g (appD d [1]) []) := fun fr => append_to ha rfl (HL.out.later ((Below.refl _ _).alloc (Nat.le_refl _) _)) hfl.out (HF.out.bnd.mono (by omega)) (BAt.lit wr _ [1] rfl 1 rfl fr) (by omega)
            go_wp2_with (first
              | (go_at_call 18; ((with_reducible refine (cA _).mono ?_); rintro e w4 ⟨rfl, h4⟩; have D4 := Lib.hid h4; clear h4))
              | (go_at_call 13; ((with_reducible refine (down_law D4.out).mono ?_); rw [p3]; rintro e w5 ⟨rfl, rfl⟩)))
            go_roundw
            case rel => exact ⟨j + 1, _, by omega, by go_num, S.out, D4.out⟩
            case measure => simp [intOf]; omega
          · have ha := (HF.out.app j100 1).1
            rw [if_neg hjn] at ha
            have p1 : decide ((j : Int) < (n : Int)) = false := decide_eq_false (by omega)
            have p2 : decide ((j : Int) ≥ (n : Int)) = true := decide_eq_true (by omega)
            have p4 : decide (n ≤ j) = true := decide_eq_true (by omega)
            have p3 : (appD d [1]).down = true := by rw [S.out.dn]; exact decide_eq_true (by omega)
            have cA : ∀ fr : Nat × Nat, Calls Try.prog 18 #[.pointer (some ⟨g, 0, none⟩), .slice (some ⟨wr.heap.size, 0, none⟩) 1 1] (wr.alloc (.cells #[.int .u8 1] 5 fr)) (fun e w' => e = .returned (.int .i64 8) ∧ LawD W w' g (appD d [1]) []) := fun fr => append_to ha rfl (HL.out.later ((Below.refl _ _).alloc (Nat.le_refl _) _)) hfl.out (HF.out.bnd.mono (by omega)) (BAt.lit wr _ [1] rfl 1 rfl fr) (by omega)
            go_wp2_with (first
              | (go_at_call 18; ((with_reducible refine (cA _).mono ?_); rintro e w4 ⟨rfl, h4⟩; have D4 := Lib.hid h4; clear h4))
              | (go_at_call 13; ((with_reducible refine (down_law D4.out).mono ?_); rw [p3]; rintro e w5 ⟨rfl, rfl⟩)))
            go_roundw
            case rel => exact ⟨j + 1, _, by omega, by go_num, S.out, D4.out⟩
            case measure => simp [intOf]; omega
        · have S : Hid (FuS n (j + 1) (synD d)) := (HF.out.syn).2
          by_cases hjn : j < n
          · have ha := (HF.out.syn).1
            rw [if_pos hjn] at ha
            have p1 : decide ((j : Int) < (n : Int)) = true := decide_eq_true (by omega)
            have p2 : decide ((j : Int) ≥ (n : Int)) = false := decide_eq_false (by omega)
            have p4 : decide (n ≤ j) = false := decide_eq_false (by omega)
            have p3 : (synD d).down = false := by rw [S.out.dn]; exact decide_eq_false (by omega)
            go_wp2_with (first
              | (go_at_call 19; ((with_reducible refine (sync_to ha rfl HL.out hfl.out).mono ?_); rintro e w4 ⟨rfl, h4⟩; have D4 := Lib.hid h4; clear h4))
              | (go_at_call 13; ((with_reducible refine (down_law D4.out).mono ?_); rw [p3]; rintro e w5 ⟨rfl, rfl⟩)))
            go_roundw
            case rel => exact ⟨j + 1, _, by omega, by go_num, S.out, D4.out⟩
            case measure => simp [intOf]; omega
          · have ha := (HF.out.syn).1
            rw [if_neg hjn] at ha
            have p1 : decide ((j : Int) < (n : Int)) = false := decide_eq_false (by omega)
            have p2 : decide ((j : Int) ≥ (n : Int)) = true := decide_eq_true (by omega)
            have p4 : decide (n ≤ j) = true := decide_eq_true (by omega)
            have p3 : (synD d).down = true := by rw [S.out.dn]; exact decide_eq_true (by omega)
            go_wp2_with (first
              | (go_at_call 19; ((with_reducible refine (sync_to ha rfl HL.out hfl.out).mono ?_); rintro e w4 ⟨rfl, h4⟩; have D4 := Lib.hid h4; clear h4))
              | (go_at_call 13; ((with_reducible refine (down_law D4.out).mono ?_); rw [p3]; rintro e w5 ⟨rfl, rfl⟩)))
            go_roundw
            case rel => exact ⟨j + 1, _, by omega, by go_num, S.out, D4.out⟩
            case measure => simp [intOf]; omega
        · have S : Hid (FuS n (j + 1) (repD d [2])) := (HF.out.rep j100 2).2
          by_cases hjn : j < n
          · have ha := (HF.out.rep j100 2).1
            rw [if_pos hjn] at ha
            have p1 : decide ((j : Int) < (n : Int)) = true := decide_eq_true (by omega)
            have p2 : decide ((j : Int) ≥ (n : Int)) = false := decide_eq_false (by omega)
            have p4 : decide (n ≤ j) = false := decide_eq_false (by omega)
            have p3 : (repD d [2]).down = false := by rw [S.out.dn]; exact decide_eq_false (by omega)
            have cA : ∀ fr : Nat × Nat, Calls Try.prog 23 #[.pointer (some ⟨g, 0, none⟩), .slice (some ⟨wr.heap.size, 0, none⟩) 1 1] (wr.alloc (.cells #[.int .u8 2] 5 fr)) (fun e w' => e = .returned (.int .i64 0) ∧ LawD W w' g (repD d [2]) []) := fun fr => replace_to ha rfl (HL.out.later ((Below.refl _ _).alloc (Nat.le_refl _) _)) hfl.out (BAt.lit wr _ [2] rfl 1 rfl fr) (by omega)
            go_wp2_with (first
              | (go_at_call 23; ((with_reducible refine (cA _).mono ?_); rintro e w4 ⟨rfl, h4⟩; have D4 := Lib.hid h4; clear h4))
              | (go_at_call 13; ((with_reducible refine (down_law D4.out).mono ?_); rw [p3]; rintro e w5 ⟨rfl, rfl⟩)))
            go_roundw
            case rel => exact ⟨j + 1, _, by omega, by go_num, S.out, D4.out⟩
            case measure => simp [intOf]; omega
          · have ha := (HF.out.rep j100 2).1
            rw [if_neg hjn] at ha
            have p1 : decide ((j : Int) < (n : Int)) = false := decide_eq_false (by omega)
            have p2 : decide ((j : Int) ≥ (n : Int)) = true := decide_eq_true (by omega)
            have p4 : decide (n ≤ j) = true := decide_eq_true (by omega)
            have p3 : (repD d [2]).down = true := by rw [S.out.dn]; exact decide_eq_true (by omega)
            have cA : ∀ fr : Nat × Nat, Calls Try.prog 23 #[.pointer (some ⟨g, 0, none⟩), .slice (some ⟨wr.heap.size, 0, none⟩) 1 1] (wr.alloc (.cells #[.int .u8 2] 5 fr)) (fun e w' => e = .returned (.int .i64 8) ∧ LawD W w' g (repD d [2]) []) := fun fr => replace_to ha rfl (HL.out.later ((Below.refl _ _).alloc (Nat.le_refl _) _)) hfl.out (BAt.lit wr _ [2] rfl 1 rfl fr) (by omega)
            go_wp2_with (first
              | (go_at_call 23; ((with_reducible refine (cA _).mono ?_); rintro e w4 ⟨rfl, h4⟩; have D4 := Lib.hid h4; clear h4))
              | (go_at_call 13; ((with_reducible refine (down_law D4.out).mono ?_); rw [p3]; rintro e w5 ⟨rfl, rfl⟩)))
            go_roundw
            case rel => exact ⟨j + 1, _, by omega, by go_num, S.out, D4.out⟩
            case measure => simp [intOf]; omega
      · have C := Lib.hid (HF.out.cut (by omega) k)
        have BX : Hid (BndD { cutD d k with la := behD d k ++ [3] } 1099511627776) := by
          have h1 := beh_len HF.out.bnd k
          refine ⟨?_, by show 0 ≤ _; omega⟩
          show (behD d k ++ [3]).length + 0 ≤ _
          rw [List.length_append]
          show (behD d k).length + 1 + 0 ≤ _
          omega
        have fX : ({ cutD d k with re := [3] } : Dk).fuse < 9223372036854775808 := show (-1 : Int) < 9223372036854775808 by decide
        obtain ⟨t, ht⟩ : ∃ t, t = (behD d k ++ [3]).length := ⟨_, rfl⟩
        have cL : ∀ w G, LawD W w G { cutD d k with la := behD d k ++ [3] } [] → Calls Try.prog 14 #[.pointer (some ⟨G, 0, none⟩)] w fun e w' => e = .returned (.int .i64 t) ∧ w = w' := fun w G h => by rw [ht]; exact lasting_law h
        have T := Lib.hid ht
        clear ht
        have BC : Hid (BndD (cutD d k) 1000) := (HF.out.bnd.cut k).mono (by omega)
        clear hb hL hF hlen
        go_wp2_with (first
          | (go_at_call 20; ((with_reducible refine (cut_law k HL.out (HF.out.bnd.mono (by omega)) hk1 hk2).mono ?_); rintro e w5 ⟨g5, rfl, _, h5⟩; have D5 := Lib.hid h5; have cX : ∀ fr : Nat × Nat, Calls Try.prog 18 #[.pointer (some ⟨g5, 0, none⟩), .slice (some ⟨w5.heap.size, 0, none⟩) 1 1] (w5.alloc (.cells #[.int .u8 3] 5 fr)) (fun e w' => e = .returned (.int .i64 0) ∧ LawD W w' g5 { cutD d k with re := [3] } []) := fun fr => append_to C.out.1 C.out.2.1 (D5.out.later ((Below.refl _ _).alloc (Nat.le_refl _) _)) (show (-1 : Int) < 9223372036854775808 by decide) (BC.out.mono (by omega)) (BAt.lit w5 _ [3] rfl 1 rfl fr) (by omega); clear h5))
          | (go_at_call 13; ((with_reducible refine (down_law D5.out).mono ?_); rintro e w6 ⟨rfl, rfl⟩))
          | (go_at_call 18; ((with_reducible refine (cX _).mono ?_); rintro e w7 ⟨rfl, h7⟩; have D7 := Lib.hid h7; clear h7))
          | (go_at_call 19; ((with_reducible refine (sync_to C.out.2.2.1 C.out.2.2.2 D7.out fX).mono ?_); rintro e w8 ⟨rfl, h8⟩; have D8 := Lib.hid h8; clear h8))
          | (go_at_call 14; ((with_reducible refine (cL _ _ D8.out).mono ?_); rintro e w9 ⟨rfl, rfl⟩))
          | (go_at_call 16; ((with_reducible refine (bytes_law D8.out BX.out).mono ?_); rintro e wa ⟨aa, na, ca, rfl, hba, hna, hca, hma, ha, _⟩; have Da := Lib.hid ha; obtain rfl : na = t := (show na = (behD d k ++ [3]).length from hna).trans T.out.symm; clear ha hba hca hma)))
        go_ret
        exact ⟨by simp, Da.out.bel⟩
  · have hd : decide ((m : Int) > 100) = true := decide_eq_true (by omega)
    clear hb hlen
    go_enter Try.func5, Try.ntmps5
    go_wp2_with (go_at_call 8; ((with_reducible refine (awake12_any _).mono ?_); rintro e w1 ⟨rfl, hb1⟩; first | (have B2 := Lib.hid (B1.out.trans (hb1.mono B1.out.size)); clear hb1) | (have B1 := Lib.hid hb1; clear hb1)))
    go_ret
    exact ⟨rfl, B2.out⟩
end Go.Proofs.Ytclfgkeepmdmjaa
