/- Contracts of the program's Formed and Key. Conditions: the value's number and text fit their kinds; utf8's tables hold what they hold. -/
import Derived.Test.YtmaohddmhdhkkaaDoorValueFormed
import Derived.Test.YtmaohddmhdhkkaaDoorValueUtf8
import Derived.Test.YtmaohddmhdhkkaaDoorValueCompare
import Derived.Test.YtmaohddmhdhkkaaDoorValueParse
import Derived.Test.YtmaohddmhdhkkaaDoorValueBox
import Derived.Deep.RegionHeld3
import Derived.Deep.RegionWith
namespace Go.Proofs.YtmaohddmhdhkkaaDoor
open Go.RowKit

theorem Tabs.below {w w' : World} (h : Tabs w) (hb : Below w.heap.size w w') : Tabs w' := Utf8Tabs_below h hb
theorem number_any (b : Nat) (w : World) : Calls Tryd.prog 30 #[.int .u64 b] w fun e w' => e = .returned (.agg #[.int .i64 1, .int .u64 b, .string ⟨#[]⟩]) ∧ Below w.heap.size w w' := by
  obtain ⟨a1, a2, a3⟩ := box3 w (.int .i64 1) (.int .u64 b) (.string ⟨#[]⟩) 24
  go_enter Tryd.func30, Tryd.ntmps30
  go_wp2
  exact bodyPost_ret (v := .agg #[.int .i64 1, .int .u64 b, .string ⟨#[]⟩]) (by simp [results, Tryd.results30, go_sem, a1, a2, a3]) rfl ⟨rfl, (Below.refl _ _).alloc (Nat.le_refl _) _⟩
theorem text_any (t : ByteArray) (w : World) : Calls Tryd.prog 32 #[.string t] w fun e w' => e = .returned (.agg #[.int .i64 2, .int .u64 0, .string t]) ∧ Below w.heap.size w w' := by
  obtain ⟨a1, a2, a3⟩ := box3 w (.int .i64 2) (.int .u64 0) (.string t) 24
  go_enter Tryd.func32, Tryd.ntmps32
  go_wp2
  exact bodyPost_ret (v := .agg #[.int .i64 2, .int .u64 0, .string t]) (by simp [results, Tryd.results32, go_sem, a1, a2, a3]) rfl ⟨rfl, (Below.refl _ _).alloc (Nat.le_refl _) _⟩

theorem keyByte_any (c : Nat) (w : World) (hc : c < 256) : Calls Tryd.prog 36 #[.int .u8 c] w fun e w' => e = .returned (.bool (keyC c)) ∧ w = w' := by
  unfold keyC
  by_cases h1 : 97 ≤ c
  · have q1 : decide ((97 : Int) ≤ (c : Int)) = true := by simp; omega
    by_cases h2 : c ≤ 122
    · have q2 : decide ((c : Int) ≤ 122) = true := by simp; omega
      rw [decide_eq_true h1, decide_eq_true h2]
      go_enter Tryd.func36, Tryd.ntmps36
      go_wp2
      go_ret
      exact ⟨rfl, rfl⟩
    · have q2 : decide ((c : Int) ≤ 122) = false := by simp; omega
      have q3 : decide ((48 : Int) ≤ (c : Int)) = true := by simp; omega
      have q4 : decide ((c : Int) ≤ 57) = false := by simp; omega
      rw [decide_eq_true h1, decide_eq_false h2, decide_eq_true (show 48 ≤ c by omega), decide_eq_false (show ¬ c ≤ 57 by omega)]
      go_enter Tryd.func36, Tryd.ntmps36
      go_wp2
      go_ret
      exact ⟨rfl, rfl⟩
  · have q1 : decide ((97 : Int) ≤ (c : Int)) = false := by simp; omega
    rw [decide_eq_false h1, Bool.false_and, Bool.false_or]
    by_cases h3 : 48 ≤ c
    · have q3 : decide ((48 : Int) ≤ (c : Int)) = true := by simp; omega
      rw [decide_eq_true h3, Bool.true_and]
      by_cases h4 : c ≤ 57
      · have q4 : decide ((c : Int) ≤ 57) = true := by simp; omega
        rw [decide_eq_true h4]
        go_enter Tryd.func36, Tryd.ntmps36
        go_wp2
        go_ret
        exact ⟨rfl, rfl⟩
      · have q4 : decide ((c : Int) ≤ 57) = false := by simp; omega
        rw [decide_eq_false h4]
        go_enter Tryd.func36, Tryd.ntmps36
        go_wp2
        go_ret
        exact ⟨rfl, rfl⟩
    · have q3 : decide ((48 : Int) ≤ (c : Int)) = false := by simp; omega
      rw [decide_eq_false h3, Bool.false_and]
      go_enter Tryd.func36, Tryd.ntmps36
      go_wp2
      go_ret
      exact ⟨rfl, rfl⟩
theorem keyB_len (l : List UInt8) (h : l.length < 1 ∨ 12 < l.length) : keyB l = false := by
  unfold keyB
  rw [Bool.and_eq_false_iff]
  right
  rw [Bool.and_eq_false_iff, decide_eq_false_iff_not, decide_eq_false_iff_not]
  omega
set_option maxHeartbeats 1000000 in
theorem key_any (s : ByteArray) (w : World) (hs : s.size ≤ maxLen) :
    Calls Tryd.prog 12 #[.string s] w fun e w' => e = .returned (.bool (keyB s.data.toList)) ∧ Below w.heap.size w w' := by
  unfold maxLen at hs
  have hz : s.data.toList.length = s.size := by rw [Array.length_toList]; rfl
  by_cases h1 : s.size < 1
  · have q1 : decide ((s.size : Int) < 1) = true := by simp; omega
    rw [keyB_len _ (by omega)]
    clear hz
    go_enter Tryd.func12, Tryd.ntmps12
    go_wp2
    go_ret
    exact ⟨rfl, Below.refl _ _⟩
  · have q1 : decide ((s.size : Int) < 1) = false := by simp; omega
    by_cases h12 : 12 < s.size
    · have q2 : decide ((12 : Int) < (s.size : Int)) = true := by simp; omega
      rw [keyB_len _ (by omega)]
      clear hz
      go_enter Tryd.func12, Tryd.ntmps12
      go_wp2
      go_ret
      exact ⟨rfl, Below.refl _ _⟩
    · have q2 : decide ((12 : Int) < (s.size : Int)) = false := by simp; omega
      have HZ := Lib.hid hz
      clear hz
      go_enter Tryd.func12, Tryd.ntmps12
      go_wp2
      go_loop [14] (fun i => ∃ k : Nat, k ≤ s.size ∧ i = .int .i64 k ∧ (s.data.toList.take k).all (fun c => keyC c.toNat) = true) (fun i => s.size - (intOf i).toNat)
      case atStart => exact ⟨0, Nat.zero_le _, rfl, rfl⟩
      case round =>
        obtain ⟨k, hk, rfl, ht⟩ := hrel
        have HT := Lib.hid ht
        clear ht
        by_cases hlt : k < s.size
        · have hl : k < s.data.toList.length := by rw [HZ.out]; exact hlt
          have hbad := fun h => Lib.hid (keyB_bad s.data.toList k hl h)
          have hgood := fun h => Lib.hid (keys_take s.data.toList k hl HT.out h)
          have hv : s.data.toList[k].toNat = (s[k]'hlt).toNat := rfl
          rw [hv] at hbad hgood
          clear hv
          have hv256 : (s[k]'hlt).toNat < 256 := UInt8.toNat_lt _
          obtain ⟨v, hv⟩ : ∃ v, (s[k]'hlt).toNat = v := ⟨_, rfl⟩
          rw [hv] at hbad hgood hv256
          have cK := fun W => keyByte_any v W hv256
          cases hk : keyC v
          · rw [hk] at cK
            have R := hbad hk
            clear hbad hgood hk
            go_wp2_with (go_at_call 36; ((with_reducible refine (cK _).mono ?_); rintro e w' ⟨rfl, rfl⟩))
            go_ret
            exact ⟨by rw [R.out]; rfl, Below.refl _ _⟩
          · rw [hk] at cK
            have R := hgood hk
            clear hbad hgood hk
            go_wp2_with (go_at_call 36; ((with_reducible refine (cK _).mono ?_); rintro e w' ⟨rfl, rfl⟩))
            go_round
            case rel => exact ⟨k + 1, by omega, by go_num, R.out⟩
            case measure => simp [intOf]; omega
        · obtain rfl : k = s.size := by omega
          have R : Hid (keyB s.data.toList = true) := by
            show keyB _ = true
            have h := HT.out
            rw [List.take_of_length_le (by rw [HZ.out]; exact Nat.le_refl _)] at h
            unfold keyB
            rw [h, HZ.out]
            simp; omega
          go_wp2
          go_ret
          exact ⟨by rw [R.out]; rfl, Below.refl _ _⟩

set_option maxHeartbeats 1000000 in
theorem formed_any (k : Int) (b : Nat) (t : ByteArray) (w : World) (hb : b < 18446744073709551616) (ht : t.size ≤ maxLen) (hT : Tabs w) :
    Calls Tryd.prog 10 #[.agg #[.int .i64 k, .int .u64 b, .string t]] w fun e w' => e = .returned (.bool (formedB ⟨k, b, t.data.toList⟩)) ∧ Below w.heap.size w w' := by
  have ht' := ht
  unfold maxLen at ht'
  have hB1 : Below w.heap.size w (w.alloc (.cells #[.int .i64 k, .int .u64 b, .string t] 24)) := (Below.refl _ _).alloc (Nat.le_refl _) _
  have hE : t.data.toList.isEmpty = t.toList.isEmpty := by rw [ByteArray.toList_eq]
  have hz : t.data.toList.length = t.size := by rw [Array.length_toList]; rfl
  by_cases k0 : k = 0
  · subst k0
    rw [formed_none, hE]
    clear hE hz hT
    by_cases b0 : b = 0
    · subst b0
      cases e : t.toList.isEmpty
      all_goals
        go_enter Tryd.func10, Tryd.ntmps10
        go_wp2
        go_ret
        exact ⟨rfl, hB1⟩
    · have q : ((b : Int) == 0) = false := by simp; omega
      rw [decide_eq_false b0, Bool.false_and]
      go_enter Tryd.func10, Tryd.ntmps10
      go_wp2
      go_ret
      exact ⟨rfl, hB1⟩
  · have q0 : (k == 0) = false := by simp; omega
    by_cases k1 : k = 1
    · subst k1
      rw [formed_num, hE]
      clear hE hz k0 q0 hT
      have V0 := Lib.hid (BoxV.new w 1 b t 24)
      have HB := Lib.hid hB1
      have hC := fun W => canon_any b W
      have hlt : w.heap.size < (w.alloc (.cells #[.int .i64 1, .int .u64 b, .string t] 24)).drew.heap.size := by show w.heap.size < (w.alloc _).heap.size; simp
      by_cases hc : canonF b = b
      · rw [hc] at hC ⊢
        rw [decide_eq_true rfl]
        cases e : t.toList.isEmpty
        all_goals
          clear hB1
          go_enter Tryd.func10, Tryd.ntmps10
          go_upto_region 5 with (fail)
          generalize w.alloc (.cells #[.int .i64 1, .int .u64 b, .string t] 24) = W at *
          have s1 := V0.out
          go_region_held3 (fun w' => w'.cell? ⟨w.heap.size, 0, none⟩ = some (.int .i64 1) ∧ w'.cell? ⟨w.heap.size, 1, none⟩ = some (.int .u64 b) ∧ w'.cell? ⟨w.heap.size, 2, none⟩ = some (.string t)) (first | exact s1 | exact s2)
            (first | (go_at_call 31; ((with_reducible refine (hC _).mono ?_); rintro e w' ⟨rfl, rfl⟩)) | (go_at_call 30; ((with_reducible refine (number_any b _).mono ?_); rintro e w2 ⟨rfl, hb2⟩; have s2 := V0.out.drew.below hb2 hlt)))
          go_wp2
          go_ret
          exact ⟨rfl, HB.out.drew.trans (hb2.mono HB.out.size)⟩
      · rw [decide_eq_false hc, Bool.and_false]
        have q : ((b : Int) == (canonF b : Int)) = false := by simp; omega
        generalize canonF b = cb at *
        cases e : t.toList.isEmpty
        all_goals
          clear hB1
          go_enter Tryd.func10, Tryd.ntmps10
          go_upto_region 5 with (fail)
          generalize w.alloc (.cells #[.int .i64 1, .int .u64 b, .string t] 24) = W at *
          have s1 := V0.out
          go_region_held3 (fun w' => w'.cell? ⟨w.heap.size, 0, none⟩ = some (.int .i64 1) ∧ w'.cell? ⟨w.heap.size, 1, none⟩ = some (.int .u64 b) ∧ w'.cell? ⟨w.heap.size, 2, none⟩ = some (.string t)) (first | exact s1 | exact s2)
            (first | (go_at_call 31; ((with_reducible refine (hC _).mono ?_); rintro e w' ⟨rfl, rfl⟩)) | (go_at_call 30; ((with_reducible refine (number_any cb _).mono ?_); rintro e w2 ⟨rfl, hb2⟩; have s2 := V0.out.drew.below hb2 hlt)))
          go_wp2
          go_ret
          exact ⟨rfl, HB.out.drew.trans (hb2.mono HB.out.size)⟩
    · have q1 : (k == 1) = false := by simp; omega
      clear hE
      by_cases k2 : k = 2
      · subst k2
        rw [formed_text, hz]
        clear hz q0 q1 k0 k1
        have V0 := Lib.hid (BoxV.new w 2 b t 24)
        have HB := Lib.hid hB1
        have HT := Lib.hid (hT.below hB1.drew)
        have hlt : w.heap.size < (w.alloc (.cells #[.int .i64 2, .int .u64 b, .string t] 24)).drew.heap.size := by show w.heap.size < (w.alloc _).heap.size; simp
        clear hB1 hT
        by_cases b0 : b = 0
        · subst b0
          by_cases h40 : t.size ≤ 40
          · have q : decide ((t.size : Int) ≤ 40) = true := by simp; omega
            rw [decide_eq_true h40, Bool.and_true, decide_eq_true rfl, Bool.true_and]
            have cV := fun W hW => validString_any t W ht hW
            generalize validT t.data.toList = vt at *
            go_enter Tryd.func10, Tryd.ntmps10
            go_upto_region 7 with (fail)
            generalize w.alloc (.cells #[.int .i64 2, .int .u64 0, .string t] 24) = W at *
            have s1 := V0.out
            go_region_held3 (fun w' => w'.cell? ⟨w.heap.size, 0, none⟩ = some (.int .i64 2) ∧ w'.cell? ⟨w.heap.size, 1, none⟩ = some (.int .u64 0) ∧ w'.cell? ⟨w.heap.size, 2, none⟩ = some (.string t)) (first | exact s1 | exact s2 | exact s3)
              (first | (go_at_call 32; ((with_reducible refine (text_any t _).mono ?_); rintro e w2 ⟨rfl, hb2⟩; have s2 := V0.out.drew.below hb2 hlt; have T2 := Lib.hid (HT.out.below hb2); have hlt2 := Nat.lt_of_lt_of_le hlt hb2.size)) | (go_at_call 33; ((with_reducible refine (cV _ T2.out).mono ?_); rintro e w3 ⟨rfl, hb3⟩; have s3 := BoxV.below s2 hb3 hlt2)))
            go_wp2
            go_ret
            exact ⟨rfl, (HB.out.drew.trans (hb2.mono HB.out.size)).trans (hb3.mono (Nat.le_trans HB.out.size hb2.size))⟩
          · have q : decide ((t.size : Int) ≤ 40) = false := by simp; omega
            rw [decide_eq_false h40, Bool.and_false, Bool.false_and]
            go_enter Tryd.func10, Tryd.ntmps10
            go_upto_region 7 with (fail)
            generalize w.alloc (.cells #[.int .i64 2, .int .u64 0, .string t] 24) = W at *
            obtain ⟨x1, x2, x3⟩ := V0.out
            first | (go_region_with (go_at_call 32; ((with_reducible refine (text_any t _).mono ?_); rintro e w2 ⟨rfl, hb2⟩; obtain ⟨y1, y2, y3⟩ := V0.out.drew.below hb2 hlt))) | fail
            all_goals
              go_wp2
              go_ret
              exact ⟨rfl, HB.out.drew.trans (hb2.mono HB.out.size)⟩
        · have q : ((b : Int) == 0) = false := by simp; omega
          rw [decide_eq_false b0, Bool.false_and, Bool.false_and]
          go_enter Tryd.func10, Tryd.ntmps10
          go_upto_region 7 with (fail)
          generalize w.alloc (.cells #[.int .i64 2, .int .u64 b, .string t] 24) = W at *
          obtain ⟨x1, x2, x3⟩ := V0.out
          first | (go_region_with (go_at_call 32; ((with_reducible refine (text_any t _).mono ?_); rintro e w2 ⟨rfl, hb2⟩; obtain ⟨y1, y2, y3⟩ := V0.out.drew.below hb2 hlt))) | fail
          all_goals
            go_wp2
            go_ret
            exact ⟨rfl, HB.out.drew.trans (hb2.mono HB.out.size)⟩
      · have q2 : (k == 2) = false := by simp; omega
        rw [formed_other k b _ k0 k1 k2]
        go_enter Tryd.func10, Tryd.ntmps10
        go_wp2
        go_ret
        exact ⟨rfl, hB1⟩
end Go.Proofs.YtmaohddmhdhkkaaDoor
