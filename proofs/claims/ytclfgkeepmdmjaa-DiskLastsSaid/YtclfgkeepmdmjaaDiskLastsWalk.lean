/- The law's walk of DiskLasts. Condition: what came in lies in memory. -/
import Derived.Test.YtclfgkeepmdmjaaDiskRows

import Derived.Test.YtclfgkeepmdmjaaOpenFlags

namespace Go.Proofs.Ytclfgkeepmdmjaa

open Go.RowKit

set_option linter.unusedVariables false
set_option linter.unusedSimpArgs false

def dL (la re : List UInt8) : Dk := ⟨100000, la, re, -1, false, false, []⟩
section

variable {la re l : List UInt8} {k : Int}

theorem lastA (h : la.length + re.length + l.length ≤ 100000) : appE (dL la re) l = 0 ∧ appD (dL la re) l = dL la (re ++ l) := by
  have hf : fullA (dL la re) l = false := decide_eq_false (by show ¬ (100000 : Int) < (la.length : Int) + re.length + l.length; omega)
  unfold appE appD
  rw [hf]
  exact ⟨rfl, by simp [dL, goesD]⟩
theorem lastS : synE (dL la re) = 0 ∧ synD (dL la re) = dL (la ++ re) [] := ⟨rfl, by simp [synD, dL, goesB, goesD]⟩
theorem lastN : newD 100000 = dL [] [] := by unfold newD dL; congr 1
theorem lastC : cutD (dL la re) k = dL (la ++ re.take k.toNat) [] := rfl
theorem lastDA : appE (downD (dL la re)) [] = 8 ∧ appD (downD (dL la re)) [] = downD (dL la re) := ⟨rfl, rfl⟩
theorem lastDS : synE (downD (dL la re)) = 8 ∧ synD (downD (dL la re)) = downD (dL la re) := ⟨rfl, rfl⟩
theorem lastF : (dL la re).fuse < 9223372036854775808 := show (-1 : Int) < 9223372036854775808 by decide
theorem lastFD : (downD (dL la re)).fuse < 9223372036854775808 := show (-1 : Int) < 9223372036854775808 by decide
theorem lastB {M : Nat} (h : la.length + re.length ≤ M) : BndD (dL la re) M := ⟨h, Nat.zero_le _⟩
theorem lastBD {M : Nat} (h : la.length + re.length ≤ M) : BndD (downD (dL la re)) M := ⟨h, Nat.zero_le _⟩
end

theorem take_pre (la re : List UInt8) (k : Nat) : (la ++ re).take (la ++ re.take k).length = la ++ re.take k := by
  have h : la ++ re = (la ++ re.take k) ++ re.drop k := by rw [List.append_assoc, List.take_append_drop]
  rw [h, List.take_left]
theorem OwnB.at_ {W : World} {v : Value} {l : List UInt8} {n : Nat} (h : OwnB W v l) (hn : n = l.length) : W.ownsRow 0 5 1 v n (bcells l) := by subst hn; exact h
theorem own_cat {W : World} {v : Value} {x y : List UInt8} {n : Nat} (h : W.ownsRow 0 5 1 v n (bcells x ++ bcells y)) : OwnB W v (x ++ y) := by rw [← bcells_app] at h; exact OwnB.of_own h
theorem LawD.begins {W V : World} {g : Nat} {d : Dk} {v9 v8 : Value} {y : List UInt8} (h : LawD W V g d [(v9, y), (v8, y)]) (hf : ∀ r ∈ [(v8, y)], Far v9 r.1) : LawD W V g d [(v8, y), (v9, y)] ∧ Far v8 v9 := ⟨h.swap, (hf _ (List.mem_cons_self ..)).symm⟩

set_option maxRecDepth 100000 in
set_option maxHeartbeats 8000000 in
theorem lasts_walk (a : Option Addr) (n c : Nat) (ls : List (List UInt8)) (ab : Option Addr) (ns cs : Nat) (B : Nat → Bool) (k : Int) (W : World) (hR : RowsAt W a n ls) (hB : FlagsAt W ab ns B) (hk1 : -9223372036854775808 ≤ k) (hk2 : k < 9223372036854775808) :
    Calls Try.prog 4 #[.slice a n c, .slice ab ns cs, .int .i64 k] W (Quiet2 W (.bool true)) := by
  by_cases hq : n ≤ 50 ∧ ns ≤ 50
  · obtain ⟨q1, q2⟩ := hq
    have hd : decide ((n : Int) > 50) = false := decide_eq_false (by omega)
    have hd2 : decide ((ns : Int) > 50) = false := decide_eq_false (by omega)
    have HR := Lib.hid hR
    have HB := Lib.hid hB
    obtain ⟨i0, hi, hz0, hz1, hz2⟩ := info_parts Try.info5
    clear hR hB
    go_enter Try.func4, Try.ntmps4
    go_wp2_with (first
      | (go_at_call 8; ((with_reducible refine (awake12_any _).mono ?_); rintro e w1 ⟨rfl, hb1⟩; have B1 := Lib.hid hb1; clear hb1))
      | (go_at_call 10; ((with_reducible refine (new_law (W := W) 100000 (by omega) B1.out).mono ?_); rintro e w2 ⟨rfl, h2⟩; rw [lastN] at h2; have D2 := Lib.hid h2.nilrow.nilrow; clear h2)))
    obtain ⟨g, hg⟩ : ∃ g, g = w1.heap.size := ⟨_, rfl⟩
    rw [← hg] at D2 ⊢
    clear hg B1
    go_loopw [8, 9, 10] (fun v8 v9 i wr => ∃ (j : Nat) (la re : List UInt8), j ≤ n ∧ i = .int .i64 j ∧ la.length + re.length ≤ 1000 * j ∧ LawD W wr g (dL la re) [(v8, la ++ re), (v9, la)] ∧ Far v8 v9) (fun _ _ i _ => n - (intOf i).toNat)
    case atStart => exact ⟨0, [], [], by omega, rfl, by simp, D2.out, Far.nil⟩
    case round =>
      obtain ⟨j, la, re, hj, rfl, hlen, hL, hfar⟩ := hrel
      clear D2
      have HL := Lib.hid hL
      have HF := Lib.hid hfar
      have HN := Lib.hid hlen
      obtain ⟨a8, n8, c8, rfl, hn8, _, _, hc8, hm8⟩ := (HL.out.row 0 _ _ rfl).parts
      have N8 := Lib.hid hn8
      have n8b : n8 ≤ 1000 * n := by rw [hn8, List.length_append]; exact Nat.le_trans hlen (Nat.mul_le_mul_left _ hj)
      clear hL hfar hlen hn8
      by_cases hlt : j < n
      · obtain ⟨b, off, a1, m1, c1, rfl, hc, hb1, hm1⟩ := HR.out.2 j (by rw [HR.out.1]; exact hlt)
        have hc' := (HL.out.bel.cell (p := ⟨b, off + j, none⟩) (block_lt hc)).trans hc
        have hlx := hb1.len
        generalize ls[j]'(by rw [HR.out.1]; exact hlt) = l at *
        have H1 := Lib.hid hb1
        have HX := Lib.hid hlx
        unfold maxLen at hm1
        have HC0 := Lib.hid (block_lt hc)
        have HCC := Lib.hid hc
        clear hb1 hlx hc
        by_cases hm : m1 ≤ 1000
        · have hdm : decide ((m1 : Int) > 1000) = false := decide_eq_false (by omega)
          have hT : Hid (la.length + re.length + l.length ≤ 100000) := by unfold Hid; rw [HX.out]; have := HN.out; omega
          go_upto_region 13 with (first
            | (go_at_call 18; ((with_reducible refine (append_to (lastA hT.out).1 (lastA hT.out).2 HL.out lastF (lastB (Nat.le_trans HN.out (by omega))) (HL.out.bat H1.out (Nat.le_refl _)) (by omega)).mono ?_); rintro e w4 ⟨rfl, h4⟩; have D4 := Lib.hid h4; have hc4 := (h4.bel.cell (p := ⟨b, off + j, none⟩) HC0.out).trans HCC.out; clear h4))
            | (at_builtin; (refine wpList_append_row _ rfl _ _ 33 rfl 0 5 i0 _ 1 Try.underlying33 hi hz0 hz1 hz2 rfl (.slice a8 n8 c8) n8 (bcells (la ++ re)) rfl ((D4.out.row 0 _ _ rfl).at_ N8.out) a1 m1 c1 (bcells l) rfl (D4.out.bat H1.out (Nat.le_refl _)).cells (bcells_one l) (by unfold maxLen; omega) (by omega) (Nat.zero_le _) ?_; intro v5 w5 ho5 hg5 hat5; obtain ⟨a5, c5, rfl, hc5, hm5, _⟩ := own_form ho5; have D5 := Lib.hid (D4.out.grow (fun r hr => by simp at hr; subst hr; exact HF.out) (own_cat ho5) hg5 hat5); clear ho5 hg5 hat5)))
          have N5 : Hid (n8 + m1 = (la ++ re ++ l).length) := by unfold Hid; rw [List.length_append, HX.out, N8.out]
          have E5 : Hid (LawD W w5 g (dL la (re ++ l)) [(.slice a5 (n8 + m1) c5, la ++ (re ++ l)), (u9, la)]) := by have := D5.out.1; rw [List.append_assoc] at this; exact this
          have F5 : Hid (Far (.slice a5 (n8 + m1) c5) u9) := D5.out.2 _ (List.mem_cons_self ..)
          have L5 : Hid (la.length + (re ++ l).length ≤ 1000 * (j + 1)) := by unfold Hid; rw [List.length_append, HX.out]; have := HN.out; omega
          have n5b : n8 + m1 ≤ 60000 := by omega
          generalize n8 + m1 = n5 at *
          clear D4 D5 HL
          by_cases hs : j < ns
          · obtain ⟨bs, os, rfl, hcs⟩ := HB.out j hs
            have hcs' := (E5.out.bel.cell (p := ⟨bs, os + j, none⟩) (block_lt hcs)).trans hcs
            clear hcs
            cases hBj : B j with
            | true =>
              rw [hBj] at hcs'
              go_wp2_with (first
                | (go_at_call 19; ((with_reducible refine (sync_to lastS.1 lastS.2 E5.out lastF).mono ?_); rintro e w6 ⟨rfl, h6⟩; have D6 := Lib.hid h6; clear h6))
                | (at_builtin; (refine wpList_append_row _ rfl _ _ 33 rfl 0 5 i0 _ 1 Try.underlying33 hi hz0 hz1 hz2 rfl (.slice none 0 0) 0 (bcells []) rfl (World.ownsRow_nil _ _ _ _) a5 n5 c5 (bcells (la ++ (re ++ l))) rfl ((D6.out.row 0 _ _ rfl).bat (by rw [N5.out, List.append_assoc])).cells (bcells_one _) (by unfold maxLen; omega) (by omega) (Nat.zero_le _) ?_; intro v7 w7 ho7 hg7 hat7; obtain ⟨a7, c7, rfl, hc7, hm7, _⟩ := own_form ho7; have D7 := Lib.hid (D6.out.swap.tail.nilrow.grow (fun r hr => Far.nil') (own_cat ho7) hg7 hat7); clear ho7 hg7 hat7)))
              have D8 : Hid (LawD W w7 g (dL (la ++ (re ++ l)) []) [(.slice a5 n5 c5, la ++ (re ++ l)), (.slice a7 n5 c7, la ++ (re ++ l))] ∧ Far (.slice a5 n5 c5) (.slice a7 n5 c7)) := by have h := D7.out.1.begins D7.out.2; rw [Nat.zero_add] at h; exact h
              go_roundw
              case rel => exact ⟨j + 1, la ++ (re ++ l), [], by omega, by go_num, by have := L5.out; simp only [List.length_append, List.length_nil] at this ⊢; omega, by rw [List.append_nil]; exact D8.out.1, D8.out.2⟩
              case measure => simp [intOf]; omega
            | false =>
              rw [hBj] at hcs'
              go_wp2
              go_roundw
              case rel => exact ⟨j + 1, la, re ++ l, by omega, by go_num, L5.out, E5.out, F5.out⟩
              case measure => simp [intOf]; omega
          · go_wp2
            go_roundw
            case rel => exact ⟨j + 1, la, re ++ l, by omega, by go_num, L5.out, E5.out, F5.out⟩
            case measure => simp [intOf]; omega
        · have hdm : decide ((m1 : Int) > 1000) = true := decide_eq_true (by omega)
          go_wp2
          go_ret
          exact ⟨rfl, HL.out.bel⟩
      · obtain ⟨a9, n9, c9, rfl, hn9, _, _, hc9, hm9⟩ := (HL.out.row 1 _ _ rfl).parts
        have N9 := Lib.hid hn9
        have HM : Hid (BndD (dL la re) 50000) := lastB (Nat.le_trans HN.out (by omega))
        have HZ : Hid ((la ++ re.take k.toNat).length ≤ n8) := by unfold Hid; rw [N8.out, List.length_append, List.length_append, List.length_take]; omega
        clear hn9
        go_upto_region 19 with (first
          | (go_at_call 20; ((with_reducible refine (cut_to k lastC HL.out (HM.out.mono (by omega)) hk1 hk2).mono ?_); rintro e w5 ⟨g5, rfl, h5, h6⟩; have D5 := Lib.hid h5; have D6 := Lib.hid h6; clear h5 h6))
          | (go_at_call 16; ((with_reducible refine (bytes_law D6.out (lastB (M := 1099511627776) (by have := HZ.out; simp only [List.length_nil]; omega))).mono ?_); rintro e w7 ⟨a7, n7, c7, rfl, hb7, hn7, hc7, hm7, h7, hbb⟩; have D7 := Lib.hid h7; have D8 := Lib.hid (D5.out.later hbb); have T7 := Lib.hid hb7; have N7 := Lib.hid hn7; clear h7 hb7 hn7 hbb)))
        have T : Hid (BAt w7 w7.heap.size a7 n7 (la ++ re.take k.toNat)) := by
          have e : (dL (la ++ re.take k.toNat) []).la ++ (dL (la ++ re.take k.toNat) []).re = la ++ re.take k.toNat := List.append_nil _
          exact e ▸ T7.out
        have M : Hid (n7 = (la ++ re.take k.toNat).length) := N7.out
        have q9 : n9 ≤ n7 := by have h1 := M.out; have h2 := N9.out; rw [List.length_append] at h1; omega
        have q7 : n7 ≤ n8 := by have h1 := M.out; have h2 := HZ.out; omega
        have r9 := (D7.out.row 1 _ _ rfl).bat N9.out
        have r8 := (D7.out.row 0 _ _ rfl).bat N8.out
        have cb1 := begins_any a9 a7 n9 n7 c9 c7 _ _ la (la ++ re.take k.toNat) w7 r9 T.out (by rw [N9.out]; simp) q9 hc7 hm7
        have cb2 := fun q => begins_any a7 a8 n7 n8 c7 c8 _ _ (la ++ re.take k.toNat) (la ++ re) (w7.drewN q) (T.out.drewN q) (r8.drewN q) (by rw [M.out]; exact take_pre la re k.toNat) q7 hc8 hm8
        clear r9 r8
        go_wp2_with (first
          | (go_at_call 21; (first | ((with_reducible refine cb1.mono ?_); rintro e wa ⟨rfl, p, rfl⟩) | ((with_reducible refine (cb2 _).mono ?_); rintro e wb ⟨rfl, q, rfl⟩)))
          | (go_at_call 18; ((with_reducible refine (append_to lastDA.1 lastDA.2 (D8.out.drewN _) lastFD (lastBD (Nat.le_trans HN.out (by omega))) BAt.nil (by omega)).mono ?_); rintro e wc ⟨rfl, hc⟩; have Da := Lib.hid hc; clear hc))
          | (go_at_call 19; ((with_reducible refine (sync_to lastDS.1 lastDS.2 Da.out lastFD).mono ?_); rintro e wd ⟨rfl, hd⟩; have Db := Lib.hid hd; clear hd)))
        go_ret
        exact ⟨rfl, Db.out.bel⟩
  · clear hR hB
    by_cases q1 : n ≤ 50
    · have hd : decide ((n : Int) > 50) = false := decide_eq_false (by omega)
      have hd2 : decide ((ns : Int) > 50) = true := decide_eq_true (by omega)
      clear hq
      go_enter Try.func4, Try.ntmps4
      go_wp2_with (go_at_call 8; ((with_reducible refine (awake12_any _).mono ?_); rintro e w1 ⟨rfl, hb1⟩; first | (have B2 := Lib.hid (B1.out.trans (hb1.mono B1.out.size)); clear hb1) | (have B1 := Lib.hid hb1; clear hb1)))
      go_ret
      exact ⟨rfl, B2.out⟩
    · have hd : decide ((n : Int) > 50) = true := decide_eq_true (by omega)
      clear hq
      go_enter Try.func4, Try.ntmps4
      go_wp2_with (go_at_call 8; ((with_reducible refine (awake12_any _).mono ?_); rintro e w1 ⟨rfl, hb1⟩; first | (have B2 := Lib.hid (B1.out.trans (hb1.mono B1.out.size)); clear hb1) | (have B1 := Lib.hid hb1; clear hb1)))
      go_ret
      exact ⟨rfl, B2.out⟩
end Go.Proofs.Ytclfgkeepmdmjaa
