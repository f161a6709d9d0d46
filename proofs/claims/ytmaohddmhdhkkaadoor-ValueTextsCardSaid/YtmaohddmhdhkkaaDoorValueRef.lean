/- Contracts of the document's own Key and Valid. Conditions: none but the texts' lengths. -/
import Derived.Test.YtmaohddmhdhkkaaDoorValueMath

import Derived.Test.YtmaohddmhdhkkaaDoorOwnRows

import Derived.Lib.OthersKept

namespace Go.Proofs.YtmaohddmhdhkkaaDoor

open Go.RowKit

theorem drop3 (l : List UInt8) (p : Nat) (h : p + 3 ≤ l.length) : (l.drop p).take 3 = [l[p], l[p + 1], l[p + 2]] := by
  rw [List.drop_eq_getElem_cons (by omega), List.drop_eq_getElem_cons (by omega), List.drop_eq_getElem_cons (by omega)]; rfl

set_option maxHeartbeats 1000000 in
theorem refKey_any (s : ByteArray) (w : World) (hs : s.size ≤ maxLen) :
    Calls Tryd.prog 13 #[.string s] w fun e w' => e = .returned (.bool (keyB s.data.toList)) ∧ w = w' := by
  unfold maxLen at hs
  have hz : s.data.toList.length = s.size := by rw [Array.length_toList]; rfl
  have HZ := Lib.hid hz
  clear hz
  go_enter Tryd.func13, Tryd.ntmps13
  go_wp2
  go_loop [3] (fun i => ∃ k : Nat, k ≤ s.size ∧ i = .int .i64 k ∧ (s.data.toList.take k).all (fun c => keyC c.toNat) = true) (fun i => s.size - (intOf i).toNat)
  case atStart => exact ⟨0, Nat.zero_le _, rfl, rfl⟩
  case round =>
    obtain ⟨k, hk, rfl, ht⟩ := hrel
    have HT := Lib.hid ht
    clear ht
    by_cases hlt : k < s.size
    · have hl : k < s.data.toList.length := by rw [HZ.out]; exact hlt
      have hbad := fun h => Lib.hid (keyB_bad s.data.toList k hl h)
      have hgood := fun h => Lib.hid (keys_take s.data.toList k hl HT.out h)
      have hv : s.data.toList[k].toNat = (s[k]'hlt).toNat := rfl
      rw [hv] at hbad hgood
      clear hv
      obtain ⟨v, hv⟩ : ∃ v, (s[k]'hlt).toNat = v := ⟨_, rfl⟩
      rw [hv] at hbad hgood
      by_cases h1 : v < 97
      · by_cases h2 : v < 48
        · have R := hbad (by simp [keyC]; omega)
          clear hbad hgood
          go_wp2
          go_ret
          exact ⟨by rw [R.out]; rfl, rfl⟩
        · by_cases h3 : 57 < v
          · have R := hbad (by simp [keyC]; omega)
            clear hbad hgood
            go_wp2
            go_ret
            exact ⟨by rw [R.out]; rfl, rfl⟩
          · have R := hgood (by simp [keyC]; omega)
            clear hbad hgood
            go_wp2
            go_round
            case rel => exact ⟨k + 1, by omega, by go_num, R.out⟩
            case measure => simp [intOf]; omega
      · by_cases h2 : 122 < v
        · have R := hbad (by simp [keyC]; omega)
          clear hbad hgood
          go_wp2
          go_ret
          exact ⟨by rw [R.out]; rfl, rfl⟩
        · have R := hgood (by simp [keyC]; omega)
          clear hbad hgood
          go_wp2
          go_round
          case rel => exact ⟨k + 1, by omega, by go_num, R.out⟩
          case measure => simp [intOf]; omega
    · have hR : keyB s.data.toList = (decide (1 ≤ s.size) && decide (s.size ≤ 12)) := by
        have h1 := HT.out
        rw [List.take_of_length_le (by rw [HZ.out]; omega)] at h1
        unfold keyB
        rw [h1, HZ.out, Bool.true_and]
      have HR := Lib.hid hR
      clear hR HT
      by_cases h1 : 1 ≤ s.size
      · by_cases h2 : s.size ≤ 12
        · have d1 : decide ((1 : Int) ≤ (s.size : Int)) = true := by simp; omega
          have d2 : decide ((s.size : Int) ≤ 12) = true := by simp; omega
          go_wp2
          go_ret
          exact ⟨by rw [HR.out, decide_eq_true h1, decide_eq_true h2]; rfl, rfl⟩
        · have d1 : decide ((1 : Int) ≤ (s.size : Int)) = true := by simp; omega
          have d2 : decide ((s.size : Int) ≤ 12) = false := by simp; omega
          go_wp2
          go_ret
          exact ⟨by rw [HR.out, decide_eq_true h1, decide_eq_false h2]; rfl, rfl⟩
      · have d1 : decide ((1 : Int) ≤ (s.size : Int)) = false := by simp; omega
        go_wp2
        go_ret
        exact ⟨by rw [HR.out, decide_eq_false h1]; rfl, rfl⟩
end Go.Proofs.YtmaohddmhdhkkaaDoor
