/- The walk of the statement ValueKeys. Conditions: what came in fits its kinds; utf8's tables. -/
import Derived.Test.YtmaohddmhdhkkaaDoorValueAwake

import Derived.Test.YtmaohddmhdhkkaaDoorValueKeyMath

import Derived.Lib.SmallJoins

namespace Go.Proofs.YtmaohddmhdhkkaaDoor

open Go.RowKit

theorem key_empty (w : World) : Calls Tryd.prog 12 #[.string ⟨#[]⟩] w (Says w false) := key_any ⟨#[]⟩ w (by decide)
theorem key_is (s : ByteArray) (b : Bool) (w : World) (hs : s.size ≤ maxLen) (h : keyB s.data.toList = b) : Calls Tryd.prog 12 #[.string s] w (Says w b) := by
  subst h; exact key_any s w hs
theorem size_list (s : ByteArray) : s.data.toList.length = s.size := by rw [Array.length_toList]; rfl

set_option maxHeartbeats 1000000 in
theorem keys_walk (a b : ByteArray) (c : Nat) (w : World) (ha : a.size ≤ maxLen) (hb : b.size ≤ maxLen) (hc : c < 256) (hT : Tabs w) :
    Calls Tryd.prog 8 #[.string a, .string b, .int .u8 c] w fun e w' => e = .returned (.bool true) ∧ Below w.heap.size w w' := by
  have ha' := ha; have hb' := hb
  unfold maxLen at ha' hb'
  by_cases h1 : a.size ≤ 1000
  · have d1 : decide ((1000 : Int) < (a.size : Int)) = false := by simp; omega
    by_cases h2 : b.size ≤ 1000
    · have d2 : decide ((1000 : Int) < (b.size : Int)) = false := by simp; omega
      cases kA : keyB a.data.toList
      · have KA := fun W => key_is a false W ha kA
        clear kA
        go_enter Tryd.func8, Tryd.ntmps8
        go_upto_region 4 with (first | (go_at_call 9; ((with_reducible refine (awake_any _ hT).mono ?_); rintro e w1 ⟨rfl, hb1⟩)) | (go_at_call 12; ((with_reducible refine (key_empty _).mono ?_); rintro e w2 ⟨rfl, hb2⟩)) | (go_at_call 12; ((with_reducible refine (KA _).mono ?_); rintro e w3 ⟨rfl, hb3⟩)))
        go_wp2_with (go_at_call 12; ((with_reducible refine (key_empty _).mono ?_); rintro e w4 ⟨rfl, hb4⟩))
        go_ret
        exact ⟨rfl, ((hb1.trans (hb2.mono hb1.size)).trans (hb3.mono (Nat.le_trans hb1.size hb2.size))).trans (hb4.mono (Nat.le_trans hb1.size (Nat.le_trans hb2.size hb3.size)))⟩
      · cases kB : keyB b.data.toList
        · have KA := fun W => key_is a true W ha kA
          have KB := fun W => key_is b false W hb kB
          clear kA kB
          go_enter Tryd.func8, Tryd.ntmps8
          go_upto_region 4 with (first | (go_at_call 9; ((with_reducible refine (awake_any _ hT).mono ?_); rintro e w1 ⟨rfl, hb1⟩)) | (go_at_call 12; ((with_reducible refine (key_empty _).mono ?_); rintro e w2 ⟨rfl, hb2⟩)) | (go_at_call 12; ((with_reducible refine (KA _).mono ?_); rintro e w3 ⟨rfl, hb3⟩)) | (go_at_call 12; ((with_reducible refine (KB _).mono ?_); rintro e w4 ⟨rfl, hb4⟩)))
          go_wp2_with (go_at_call 12; ((with_reducible refine (key_empty _).mono ?_); rintro e w5 ⟨rfl, hb5⟩))
          go_ret
          have B3 := (hb1.trans (hb2.mono hb1.size)).trans (hb3.mono (Nat.le_trans hb1.size hb2.size))
          have B4 := B3.trans (hb4.mono B3.size)
          exact ⟨rfl, B4.trans (hb5.mono B4.size)⟩
        · obtain ⟨_, pa1, pa2⟩ := key_parts kA
          obtain ⟨_, pb1, pb2⟩ := key_parts kB
          rw [size_list] at pa1 pa2 pb1 pb2
          have hrm : c % a.size < a.size := Nat.mod_lt _ (by omega)
          have er : (c : Int) % (a.size : Int) = ((c % a.size : Nat) : Int) := by rw [Int.natCast_emod]
          have KA := fun W => key_is a true W ha kA
          have KB := fun W => key_is b true W hb kB
          have KT : ∀ W, Calls Tryd.prog 12 #[.string (a.extract 0 (1 + c % a.size))] W (Says W true) := fun W => key_is _ true W (by rw [ByteArray.size_extract]; unfold maxLen; omega) (by
            have e : (a.extract 0 (1 + c % a.size)).data.toList = a.data.toList.take (1 + c % a.size) := by simp
            rw [e]; exact key_take kA _ (by omega) (by rw [size_list]; omega))
          have KAB : ∀ W, Calls Tryd.prog 12 #[.string (a ++ b)] W (Says W (decide (a.size + b.size ≤ 12))) := fun W => key_is _ _ W (by rw [ByteArray.size_append]; unfold maxLen; omega) (by
            rw [Joins.data_append, key_app kA kB, size_list, size_list])
          have KD : ∀ W, Calls Tryd.prog 12 #[.string (a ++ ⟨#[45]⟩)] W (Says W false) := fun W => key_is _ _ W (by rw [ByteArray.size_append]; show a.size + 1 ≤ _; unfold maxLen; omega) (by
            rw [Joins.data_append]; exact key_dash _)
          have KU : ∀ W, Calls Tryd.prog 12 #[.string (⟨#[65]⟩ ++ b)] W (Says W false) := fun W => key_is _ _ W (by rw [ByteArray.size_append]; show 1 + b.size ≤ _; unfold maxLen; omega) (by
            rw [Joins.data_append]; exact key_big _)
          clear kA kB
          generalize c % a.size = r at *
          have ne : ¬ (a.size : Int) = 0 := by omega
          have j1 : 1 + (r : Int) ≤ (a.size : Int) := by omega
          have j2 : (1 + (r : Int)).toNat = 1 + r := by omega
          have j0 : (0 : Int) ≤ 1 + (r : Int) := by omega
          go_enter Tryd.func8, Tryd.ntmps8
          go_upto_region 6 with (first | (go_at_call 9; ((with_reducible refine (awake_any _ hT).mono ?_); rintro e w1 ⟨rfl, hb1⟩)) | (go_at_call 12; ((with_reducible refine (key_empty _).mono ?_); rintro e w2 ⟨rfl, hb2⟩)) | (go_at_call 12; ((with_reducible refine (KA _).mono ?_); rintro e w3 ⟨rfl, hb3⟩)) | (go_at_call 12; ((with_reducible refine (KB _).mono ?_); rintro e w4 ⟨rfl, hb4⟩)))
          clear er ne
          have B3 := (hb1.trans (hb2.mono hb1.size)).trans (hb3.mono (Nat.le_trans hb1.size hb2.size))
          have B4 := B3.trans (hb4.mono B3.size)
          cases d12 : decide (a.size + b.size ≤ 12)
          all_goals
            rw [d12] at KAB
            have d12' : decide ((a.size : Int) + (b.size : Int) ≤ 12) = decide (a.size + b.size ≤ 12) := by
              rw [decide_eq_decide]; omega
            rw [d12] at d12'
            clear d12
            go_wp2_with (first | (go_at_call 12; ((with_reducible refine (KT _).mono ?_); rintro e w5 ⟨rfl, hb5⟩; have B5 := B4.trans (hb5.mono B4.size))) | (go_at_call 12; ((with_reducible refine (KAB _).mono ?_); rintro e w6 ⟨rfl, hb6⟩; have B6 := B5.trans (hb6.mono B5.size))) | (go_at_call 12; ((with_reducible refine (KD _).mono ?_); rintro e w7 ⟨rfl, hb7⟩; have B7 := B6.trans (hb7.mono B6.size))) | (go_at_call 12; ((with_reducible refine (KU _).mono ?_); rintro e w8 ⟨rfl, hb8⟩; have B8 := B7.trans (hb8.mono B7.size))))
            go_ret
            exact ⟨rfl, B8⟩
    · have d2 : decide ((1000 : Int) < (b.size : Int)) = true := by simp; omega
      go_enter Tryd.func8, Tryd.ntmps8
      go_upto_region 2 with (go_at_call 9; ((with_reducible refine (awake_any _ hT).mono ?_); rintro e w1 ⟨rfl, hb1⟩))
      go_wp2_with (go_at_call 9; ((with_reducible refine (awake_any _ (hT.below hb1)).mono ?_); rintro e w2 ⟨rfl, hb2⟩))
      go_ret
      exact ⟨rfl, hb1.trans (hb2.mono hb1.size)⟩
  · have d1 : decide ((1000 : Int) < (a.size : Int)) = true := by simp; omega
    go_enter Tryd.func8, Tryd.ntmps8
    go_upto_region 2 with (go_at_call 9; ((with_reducible refine (awake_any _ hT).mono ?_); rintro e w1 ⟨rfl, hb1⟩))
    go_wp2_with (go_at_call 9; ((with_reducible refine (awake_any _ (hT.below hb1)).mono ?_); rintro e w2 ⟨rfl, hb2⟩))
    go_ret
    exact ⟨rfl, hb1.trans (hb2.mono hb1.size)⟩
end Go.Proofs.YtmaohddmhdhkkaaDoor
