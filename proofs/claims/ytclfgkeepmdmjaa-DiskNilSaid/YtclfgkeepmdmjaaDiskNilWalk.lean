/- The law's walk of DiskNil. Condition: the bytes lie in memory. -/
import Derived.Test.YtclfgkeepmdmjaaDiskLaw

namespace Go.Proofs.Ytclfgkeepmdmjaa

open Go.RowKit

set_option linter.unusedVariables false
set_option linter.unusedSimpArgs false

theorem newD_size (s : Nat) : (newD (s : Int)).size = (s : Int) := by show max (s : Int) 0 = _; omega
theorem rep_new (s : Nat) (l : List UInt8) : repE (newD (s : Int)) l = (if l.length ≤ s then 0 else 7) ∧ repD (newD (s : Int)) l = (if l.length ≤ s then { newD (s : Int) with la := l } else newD (s : Int)) := by
  unfold repE repD fullR
  rw [newD_size]
  by_cases h : l.length ≤ s
  · have h1 : decide ((s : Int) < (l.length : Int)) = false := decide_eq_false (by omega)
    rw [h1, if_pos h, if_pos h]
    exact ⟨rfl, rfl⟩
  · have h1 : decide ((s : Int) < (l.length : Int)) = true := decide_eq_true (by omega)
    rw [h1, if_neg h, if_neg h]
    exact ⟨rfl, rfl⟩
theorem app_new (s : Nat) (l : List UInt8) (m : Nat) (hm : l.length = m) : appE { newD (s : Int) with la := l } [1] = (if m < s then 0 else 7) := by
  unfold appE fullA
  show (if false = true then (8 : Int) else if decide (max (s : Int) 0 < (l.length : Int) + 0 + 1) = true then 7 else 0) = _
  rw [hm, if_neg Bool.false_ne_true]
  by_cases h : m < s
  · rw [decide_eq_false (by omega), if_pos h]; rfl
  · rw [decide_eq_true (by omega), if_neg h]; rfl

set_option maxRecDepth 100000 in
set_option maxHeartbeats 8000000 in
theorem nil_walk (s : Nat) (hs : s < 256) (a : Option Addr) (n c : Nat) (l : List UInt8) (k : Int) (W : World) (hb : BAt W W.heap.size a n l) :
    Calls Try.prog 7 #[.int .u8 s, .slice a n c, .int .i64 k] W (Quiet2 W (.bool true)) := by
  have hlen := hb.len
  by_cases hq : n ≤ 1000
  · have hd : decide ((n : Int) > 1000) = false := decide_eq_false (by omega)
    obtain ⟨r1, r2⟩ := rep_new s l
    rw [hlen] at r1 r2
    have HB := Lib.hid hb
    have bM : BndD (newD (s : Int)) 0 := BndD.new _
    have HM : Hid (BndD (repD (newD (s : Int)) l) 1099511627776) := (bM.rep (K := 1000) (by omega)).mono (by omega)
    rcases (show (n ≤ s ∧ n < s) ∨ (n ≤ s ∧ ¬ n < s) ∨ (¬ n ≤ s ∧ 0 < s) ∨ (¬ n ≤ s ∧ ¬ 0 < s) by omega) with ⟨h1, h2⟩ | ⟨h1, h2⟩ | ⟨h1, h2⟩ | ⟨h1, h2⟩
    · have q1 : decide ((n : Int) ≤ (s : Int)) = true := decide_eq_true (by omega)
      have q2 : decide ((n : Int) < (s : Int)) = true := decide_eq_true (by omega)
      have q3 : decide ((s : Int) > 0) = true := decide_eq_true (by omega)
      have e1 : repE (newD (s : Int)) l = 0 := by rw [r1, if_pos h1]
      have e2 : appE (repD (newD (s : Int)) l) [1] = 0 := by rw [r2, if_pos h1]; rw [app_new s l n hlen, if_pos h2]
      have hl : (repD (newD (s : Int)) l).fuse < 9223372036854775808 := by rw [r2, if_pos h1]; exact (show (-1 : Int) < 9223372036854775808 by decide)
      have hl0 : (newD (s : Int)).fuse < 9223372036854775808 := (show (-1 : Int) < 9223372036854775808 by decide)
      clear hb r1 r2 bM hlen
      go_enter Try.func7, Try.ntmps7
      go_wp2_with (first
        | (go_at_call 8; ((with_reducible refine (awake12_any _).mono ?_); rintro e w1 ⟨rfl, hb1⟩; have B1 := Lib.hid hb1; clear hb1))
        | (go_at_call 22; ((with_reducible refine (fuse_nil k _).mono ?_); rintro e w2 ⟨rfl, rfl⟩))
        | (go_at_call 10; ((with_reducible refine (new_law (W := W) s (by omega) B1.out).mono ?_); rintro e w3 ⟨rfl, h3⟩; have H3 := Lib.hid h3; clear h3))
        | (go_at_call 23; (first | ((with_reducible refine (replace_law H3.out hl0 ((HB.out.below H3.out.bel (Nat.le_refl _)).more H3.out.bel.size) (by omega)).mono ?_); rintro e w4 ⟨rfl, h4⟩; rw [e1]; have H4 := Lib.hid h4; clear h4; have cA : ∀ fr : Nat × Nat, Calls Try.prog 18 #[.pointer (some ⟨w1.heap.size, 0, none⟩), .slice (some ⟨w4.heap.size, 0, none⟩) 1 1] (w4.alloc (.cells #[.int .u8 1] 5 fr)) (fun e w' => e = .returned (.int .i64 (appE (repD (newD (s : Int)) l) [1])) ∧ LawD W w' w1.heap.size (appD (repD (newD (s : Int)) l) [1]) []) := fun fr => append_law (H4.out.later ((Below.refl _ _).alloc (Nat.le_refl _) _)) hl HM.out (BAt.lit w4 _ [1] rfl 1 rfl fr) (by omega)) | ((with_reducible refine (replace_nil _).mono ?_); rintro e w8 ⟨rfl, rfl⟩)))
        | (go_at_call 18; (first | ((with_reducible refine (cA _).mono ?_); rintro e w5 ⟨rfl, h5⟩; rw [e2]; have H5 := Lib.hid h5; clear h5 cA) | ((with_reducible refine (append_nil' _).mono ?_); rintro e w6 ⟨rfl, rfl⟩)))
        | (go_at_call 19; ((with_reducible refine (sync_nil _).mono ?_); rintro e w7 ⟨rfl, rfl⟩))
        | (go_at_call 16; ((with_reducible refine (bytes_nil _).mono ?_); rintro e w9 ⟨rfl, rfl⟩))
        | (go_at_call 14; ((with_reducible refine (lasting_nil _).mono ?_); rintro e wa ⟨rfl, rfl⟩))
        | (go_at_call 13; ((with_reducible refine (down_nil _).mono ?_); rintro e wb ⟨rfl, rfl⟩))
        | (go_at_call 20; ((with_reducible refine (cut_nil k _).mono ?_); rintro e wc ⟨rfl, rfl⟩)))
      go_ret
      exact ⟨rfl, H5.out.bel⟩
    · have q1 : decide ((n : Int) ≤ (s : Int)) = true := decide_eq_true (by omega)
      have q2 : decide ((n : Int) < (s : Int)) = false := decide_eq_false (by omega)
      skip
      have e1 : repE (newD (s : Int)) l = 0 := by rw [r1, if_pos h1]
      have e2 : appE (repD (newD (s : Int)) l) [1] = 7 := by rw [r2, if_pos h1]; rw [app_new s l n hlen, if_neg h2]
      have hl : (repD (newD (s : Int)) l).fuse < 9223372036854775808 := by rw [r2, if_pos h1]; exact (show (-1 : Int) < 9223372036854775808 by decide)
      have hl0 : (newD (s : Int)).fuse < 9223372036854775808 := (show (-1 : Int) < 9223372036854775808 by decide)
      clear hb r1 r2 bM hlen
      go_enter Try.func7, Try.ntmps7
      go_wp2_with (first
        | (go_at_call 8; ((with_reducible refine (awake12_any _).mono ?_); rintro e w1 ⟨rfl, hb1⟩; have B1 := Lib.hid hb1; clear hb1))
        | (go_at_call 22; ((with_reducible refine (fuse_nil k _).mono ?_); rintro e w2 ⟨rfl, rfl⟩))
        | (go_at_call 10; ((with_reducible refine (new_law (W := W) s (by omega) B1.out).mono ?_); rintro e w3 ⟨rfl, h3⟩; have H3 := Lib.hid h3; clear h3))
        | (go_at_call 23; (first | ((with_reducible refine (replace_law H3.out hl0 ((HB.out.below H3.out.bel (Nat.le_refl _)).more H3.out.bel.size) (by omega)).mono ?_); rintro e w4 ⟨rfl, h4⟩; rw [e1]; have H4 := Lib.hid h4; clear h4; have cA : ∀ fr : Nat × Nat, Calls Try.prog 18 #[.pointer (some ⟨w1.heap.size, 0, none⟩), .slice (some ⟨w4.heap.size, 0, none⟩) 1 1] (w4.alloc (.cells #[.int .u8 1] 5 fr)) (fun e w' => e = .returned (.int .i64 (appE (repD (newD (s : Int)) l) [1])) ∧ LawD W w' w1.heap.size (appD (repD (newD (s : Int)) l) [1]) []) := fun fr => append_law (H4.out.later ((Below.refl _ _).alloc (Nat.le_refl _) _)) hl HM.out (BAt.lit w4 _ [1] rfl 1 rfl fr) (by omega)) | ((with_reducible refine (replace_nil _).mono ?_); rintro e w8 ⟨rfl, rfl⟩)))
        | (go_at_call 18; (first | ((with_reducible refine (cA _).mono ?_); rintro e w5 ⟨rfl, h5⟩; rw [e2]; have H5 := Lib.hid h5; clear h5 cA) | ((with_reducible refine (append_nil' _).mono ?_); rintro e w6 ⟨rfl, rfl⟩)))
        | (go_at_call 19; ((with_reducible refine (sync_nil _).mono ?_); rintro e w7 ⟨rfl, rfl⟩))
        | (go_at_call 16; ((with_reducible refine (bytes_nil _).mono ?_); rintro e w9 ⟨rfl, rfl⟩))
        | (go_at_call 14; ((with_reducible refine (lasting_nil _).mono ?_); rintro e wa ⟨rfl, rfl⟩))
        | (go_at_call 13; ((with_reducible refine (down_nil _).mono ?_); rintro e wb ⟨rfl, rfl⟩))
        | (go_at_call 20; ((with_reducible refine (cut_nil k _).mono ?_); rintro e wc ⟨rfl, rfl⟩)))
      go_ret
      exact ⟨rfl, H5.out.bel⟩
    · have q1 : decide ((n : Int) ≤ (s : Int)) = false := decide_eq_false (by omega)
      have q2 : decide ((n : Int) < (s : Int)) = false := decide_eq_false (by omega)
      have q3 : decide ((s : Int) > 0) = true := decide_eq_true (by omega)
      have e1 : repE (newD (s : Int)) l = 7 := by rw [r1, if_neg h1]
      have e2 : appE (repD (newD (s : Int)) l) [1] = 0 := by rw [r2, if_neg h1]; exact (app_new s [] 0 rfl).trans (if_pos h2)
      have hl : (repD (newD (s : Int)) l).fuse < 9223372036854775808 := by rw [r2, if_neg h1]; exact (show (-1 : Int) < 9223372036854775808 by decide)
      have hl0 : (newD (s : Int)).fuse < 9223372036854775808 := (show (-1 : Int) < 9223372036854775808 by decide)
      clear hb r1 r2 bM hlen
      go_enter Try.func7, Try.ntmps7
      go_wp2_with (first
        | (go_at_call 8; ((with_reducible refine (awake12_any _).mono ?_); rintro e w1 ⟨rfl, hb1⟩; have B1 := Lib.hid hb1; clear hb1))
        | (go_at_call 22; ((with_reducible refine (fuse_nil k _).mono ?_); rintro e w2 ⟨rfl, rfl⟩))
        | (go_at_call 10; ((with_reducible refine (new_law (W := W) s (by omega) B1.out).mono ?_); rintro e w3 ⟨rfl, h3⟩; have H3 := Lib.hid h3; clear h3))
        | (go_at_call 23; (first | ((with_reducible refine (replace_law H3.out hl0 ((HB.out.below H3.out.bel (Nat.le_refl _)).more H3.out.bel.size) (by omega)).mono ?_); rintro e w4 ⟨rfl, h4⟩; rw [e1]; have H4 := Lib.hid h4; clear h4; have cA : ∀ fr : Nat × Nat, Calls Try.prog 18 #[.pointer (some ⟨w1.heap.size, 0, none⟩), .slice (some ⟨w4.heap.size, 0, none⟩) 1 1] (w4.alloc (.cells #[.int .u8 1] 5 fr)) (fun e w' => e = .returned (.int .i64 (appE (repD (newD (s : Int)) l) [1])) ∧ LawD W w' w1.heap.size (appD (repD (newD (s : Int)) l) [1]) []) := fun fr => append_law (H4.out.later ((Below.refl _ _).alloc (Nat.le_refl _) _)) hl HM.out (BAt.lit w4 _ [1] rfl 1 rfl fr) (by omega)) | ((with_reducible refine (replace_nil _).mono ?_); rintro e w8 ⟨rfl, rfl⟩)))
        | (go_at_call 18; (first | ((with_reducible refine (cA _).mono ?_); rintro e w5 ⟨rfl, h5⟩; rw [e2]; have H5 := Lib.hid h5; clear h5 cA) | ((with_reducible refine (append_nil' _).mono ?_); rintro e w6 ⟨rfl, rfl⟩)))
        | (go_at_call 19; ((with_reducible refine (sync_nil _).mono ?_); rintro e w7 ⟨rfl, rfl⟩))
        | (go_at_call 16; ((with_reducible refine (bytes_nil _).mono ?_); rintro e w9 ⟨rfl, rfl⟩))
        | (go_at_call 14; ((with_reducible refine (lasting_nil _).mono ?_); rintro e wa ⟨rfl, rfl⟩))
        | (go_at_call 13; ((with_reducible refine (down_nil _).mono ?_); rintro e wb ⟨rfl, rfl⟩))
        | (go_at_call 20; ((with_reducible refine (cut_nil k _).mono ?_); rintro e wc ⟨rfl, rfl⟩)))
      go_ret
      exact ⟨rfl, H5.out.bel⟩
    · have q1 : decide ((n : Int) ≤ (s : Int)) = false := decide_eq_false (by omega)
      have q2 : decide ((n : Int) < (s : Int)) = false := decide_eq_false (by omega)
      have q3 : decide ((s : Int) > 0) = false := decide_eq_false (by omega)
      have e1 : repE (newD (s : Int)) l = 7 := by rw [r1, if_neg h1]
      have e2 : appE (repD (newD (s : Int)) l) [1] = 7 := by rw [r2, if_neg h1]; exact (app_new s [] 0 rfl).trans (if_neg h2)
      have hl : (repD (newD (s : Int)) l).fuse < 9223372036854775808 := by rw [r2, if_neg h1]; exact (show (-1 : Int) < 9223372036854775808 by decide)
      have hl0 : (newD (s : Int)).fuse < 9223372036854775808 := (show (-1 : Int) < 9223372036854775808 by decide)
      clear hb r1 r2 bM hlen
      go_enter Try.func7, Try.ntmps7
      go_wp2_with (first
        | (go_at_call 8; ((with_reducible refine (awake12_any _).mono ?_); rintro e w1 ⟨rfl, hb1⟩; have B1 := Lib.hid hb1; clear hb1))
        | (go_at_call 22; ((with_reducible refine (fuse_nil k _).mono ?_); rintro e w2 ⟨rfl, rfl⟩))
        | (go_at_call 10; ((with_reducible refine (new_law (W := W) s (by omega) B1.out).mono ?_); rintro e w3 ⟨rfl, h3⟩; have H3 := Lib.hid h3; clear h3))
        | (go_at_call 23; (first | ((with_reducible refine (replace_law H3.out hl0 ((HB.out.below H3.out.bel (Nat.le_refl _)).more H3.out.bel.size) (by omega)).mono ?_); rintro e w4 ⟨rfl, h4⟩; rw [e1]; have H4 := Lib.hid h4; clear h4; have cA : ∀ fr : Nat × Nat, Calls Try.prog 18 #[.pointer (some ⟨w1.heap.size, 0, none⟩), .slice (some ⟨w4.heap.size, 0, none⟩) 1 1] (w4.alloc (.cells #[.int .u8 1] 5 fr)) (fun e w' => e = .returned (.int .i64 (appE (repD (newD (s : Int)) l) [1])) ∧ LawD W w' w1.heap.size (appD (repD (newD (s : Int)) l) [1]) []) := fun fr => append_law (H4.out.later ((Below.refl _ _).alloc (Nat.le_refl _) _)) hl HM.out (BAt.lit w4 _ [1] rfl 1 rfl fr) (by omega)) | ((with_reducible refine (replace_nil _).mono ?_); rintro e w8 ⟨rfl, rfl⟩)))
        | (go_at_call 18; (first | ((with_reducible refine (cA _).mono ?_); rintro e w5 ⟨rfl, h5⟩; rw [e2]; have H5 := Lib.hid h5; clear h5 cA) | ((with_reducible refine (append_nil' _).mono ?_); rintro e w6 ⟨rfl, rfl⟩)))
        | (go_at_call 19; ((with_reducible refine (sync_nil _).mono ?_); rintro e w7 ⟨rfl, rfl⟩))
        | (go_at_call 16; ((with_reducible refine (bytes_nil _).mono ?_); rintro e w9 ⟨rfl, rfl⟩))
        | (go_at_call 14; ((with_reducible refine (lasting_nil _).mono ?_); rintro e wa ⟨rfl, rfl⟩))
        | (go_at_call 13; ((with_reducible refine (down_nil _).mono ?_); rintro e wb ⟨rfl, rfl⟩))
        | (go_at_call 20; ((with_reducible refine (cut_nil k _).mono ?_); rintro e wc ⟨rfl, rfl⟩)))
      go_ret
      exact ⟨rfl, H5.out.bel⟩
  · have hd : decide ((n : Int) > 1000) = true := decide_eq_true (by omega)
    clear hb hlen
    go_enter Try.func7, Try.ntmps7
    go_wp2_with (go_at_call 8; ((with_reducible refine (awake12_any _).mono ?_); rintro e w1 ⟨rfl, hb1⟩; first | (have B2 := Lib.hid (B1.out.trans (hb1.mono B1.out.size)); clear hb1) | (have B1 := Lib.hid hb1; clear hb1)))
    go_ret
    exact ⟨rfl, B2.out⟩
end Go.Proofs.Ytclfgkeepmdmjaa
