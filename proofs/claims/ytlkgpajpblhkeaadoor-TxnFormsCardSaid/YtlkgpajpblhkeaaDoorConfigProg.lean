/- Contracts of config's own small functions: sizes, keys, order, counts and sums. Conditions: the lists lie in memory. -/
import Derived.Test.YtlkgpajpblhkeaaDoorConfigForm

import Derived.Test.YtlkgpajpblhkeaaDoorOpenLists

import Derived.Tactics2

import Derived.Deep.DeepCutAuto

import Derived.Deep.QuietTactic

import Derived.BigQuiet

import Derived.WalkLawsBesides

namespace Go.Proofs.YtlkgpajpblhkeaaDoor

open Go.RowKit
set_option maxHeartbeats 1000000 in
theorem cSizes_any (a : Option Addr) (n c B : Nat) (R : List Int) (w : World) (h : IntsAt w B a n R) (hn : n ≤ 4) :
    Calls Tryd.prog 90 #[.slice a n c] w fun e w' => e = .returned (.bool (R.all sizeB)) ∧ w = w' := by
  have hlen := h.1
  have HB := Lib.hid h
  clear h
  go_enter Tryd.func90, Tryd.ntmps90
  go_wp2
  go_loop [7] (fun i => ∃ k : Nat, k ≤ n ∧ i = .int .i64 k ∧ (R.take k).all sizeB = true) (fun i => n - (intOf i).toNat)
  case atStart => exact ⟨0, Nat.zero_le _, rfl, rfl⟩
  case round =>
    obtain ⟨k, hk, rfl, ht⟩ := hrel
    have HT := Lib.hid ht
    clear ht
    by_cases hlt : k < n
    · have hl : k < R.length := by omega
      have hbad := fun h => Lib.hid (all_bad sizeB R k hl h)
      have hgood := fun h => Lib.hid (all_next sizeB R k hl HT.out h)
      obtain ⟨b, off, rfl, _, hc⟩ := HB.out.at_ hl
      generalize R[k] = z at *
      by_cases h1 : z = 1
      · subst h1
        have Q := hgood rfl
        clear hbad hgood
        go_wp2
        go_round
        case rel => exact ⟨k + 1, by omega, by go_num, Q.out⟩
        case measure => simp [intOf]; omega
      · by_cases h3 : z = 3
        · subst h3
          have Q := hgood rfl
          clear hbad hgood
          go_wp2
          go_round
          case rel => exact ⟨k + 1, by omega, by go_num, Q.out⟩
          case measure => simp [intOf]; omega
        · by_cases h5 : z = 5
          · subst h5
            have Q := hgood rfl
            clear hbad hgood
            go_wp2
            go_round
            case rel => exact ⟨k + 1, by omega, by go_num, Q.out⟩
            case measure => simp [intOf]; omega
          · have Q := hbad (by simp [sizeB, h1, h3, h5])
            have q1 : (z == 1) = false := by simpa using h1
            have q3 : (z == 3) = false := by simpa using h3
            have q5 : (z == 5) = false := by simpa using h5
            clear hbad hgood
            go_wp2
            go_ret
            exact ⟨by rw [Q.out]; rfl, rfl⟩
    · have Q := Lib.hid (all_done sizeB R k (by omega) HT.out)
      go_wp2
      go_ret
      exact ⟨by rw [Q.out]; rfl, rfl⟩

set_option maxHeartbeats 1000000 in
theorem cKeys_any (a : Option Addr) (n c B : Nat) (Bs : List ByteArray) (w : World) (h : StrsAt w B a n Bs) (hs : ∀ z ∈ Bs, z.size ≤ maxLen) (hn : n ≤ 4) :
    Calls Tryd.prog 91 #[.slice a n c] w fun e w' => e = .returned (.bool ((txt Bs).all keyB)) ∧ w = w' := by
  have hlen := h.1
  have HB := Lib.hid h
  have HS := Lib.hid hs
  clear h hs
  go_enter Tryd.func91, Tryd.ntmps91
  go_wp2
  go_loop [7] (fun i => ∃ k : Nat, k ≤ n ∧ i = .int .i64 k ∧ ((txt Bs).take k).all keyB = true) (fun i => n - (intOf i).toNat)
  case atStart => exact ⟨0, Nat.zero_le _, rfl, rfl⟩
  case round =>
    obtain ⟨k, hk, rfl, ht⟩ := hrel
    have HT := Lib.hid ht
    clear ht
    by_cases hlt : k < n
    · have hl : k < Bs.length := by omega
      have hl' : k < (txt Bs).length := by rw [txt_len]; exact hl
      have hbad := fun h => Lib.hid (all_bad keyB (txt Bs) k hl' h)
      have hgood := fun h => Lib.hid (all_next keyB (txt Bs) k hl' HT.out h)
      rw [txt_get Bs k hl] at hbad hgood
      obtain ⟨b, off, rfl, _, hc⟩ := HB.out.at_ hl
      have cK := fun W => key_same Bs[k] W (HS.out _ (List.getElem_mem hl))
      generalize Bs[k] = z at *
      cases hz : keyB z.data.toList
      · rw [hz] at cK
        have Q := hbad hz
        clear hbad hgood hz
        go_wp2_with (go_at_call 70; ((with_reducible refine (cK _).mono ?_); rintro e w' ⟨rfl, rfl⟩))
        go_ret
        exact ⟨by rw [Q.out]; rfl, rfl⟩
      · rw [hz] at cK
        have Q := hgood hz
        clear hbad hgood hz
        go_wp2_with (go_at_call 70; ((with_reducible refine (cK _).mono ?_); rintro e w' ⟨rfl, rfl⟩))
        go_round
        case rel => exact ⟨k + 1, by omega, by go_num, Q.out⟩
        case measure => simp [intOf]; omega
    · have Q := Lib.hid (all_done keyB (txt Bs) k (by rw [txt_len]; omega) HT.out)
      go_wp2
      go_ret
      exact ⟨by rw [Q.out]; rfl, rfl⟩

set_option maxHeartbeats 1000000 in
theorem cCount_any (a : Option Addr) (n c B : Nat) (Bs : List ByteArray) (s : ByteArray) (w : World) (h : StrsAt w B a n Bs) (hn : n ≤ 4) :
    Calls Tryd.prog 75 #[.slice a n c, .string s] w fun e w' => e = .returned (.int .i64 (homeC (txt Bs) s.data.toList : Nat)) ∧ w = w' := by
  have hlen := h.1
  have HB := Lib.hid h
  clear h
  go_enter Tryd.func75, Tryd.ntmps75
  go_wp2
  go_loop [5, 10] (fun v i => ∃ k : Nat, k ≤ n ∧ i = .int .i64 k ∧ v = .int .i64 (homeC (txt (Bs.take k)) s.data.toList : Nat)) (fun _ i => n - (intOf i).toNat)
  case atStart => exact ⟨0, Nat.zero_le _, rfl, rfl⟩
  case round =>
    obtain ⟨k, hk, rfl, rfl⟩ := hrel
    have hle := homeC_le (txt (Bs.take k)) s.data.toList
    rw [txt_len, List.length_take] at hle
    by_cases hlt : k < n
    · have hl : k < Bs.length := by omega
      have HQ := Lib.hid (homeC_snoc (txt (Bs.take k)) Bs[k].data.toList s.data.toList)
      rw [← txt_snoc Bs k hl] at HQ
      obtain ⟨b, off, rfl, _, hc⟩ := HB.out.at_ hl
      generalize Bs[k] = z at *
      have hE := leS z s
      generalize homeC (txt (Bs.take k)) s.data.toList = q at *
      cases hz : leB z.data.toList s.data.toList
      · rw [hz] at hE HQ
        go_wp2
        go_round
        case rel => exact ⟨k + 1, by omega, by go_num, by rw [HQ.out]; rfl⟩
        case measure => simp [intOf]; omega
      · rw [hz] at hE HQ
        go_wp2
        go_round
        case rel => exact ⟨k + 1, by omega, by go_num, by rw [HQ.out]; go_num⟩
        case measure => simp [intOf]; omega
    · have HQ : Hid (Bs.take k = Bs) := List.take_of_length_le (by omega)
      rw [HQ.out]
      go_wp2
      go_ret
      exact ⟨rfl, rfl⟩

theorem sum_snoc (R : List Int) (k : Nat) (h : k < R.length) : (R.take (k + 1)).sum = (R.take k).sum + R[k] := by
  rw [List.take_succ_eq_append_getElem h, List.sum_append]; simp
theorem sum_le (R : List Int) (h : ∀ z ∈ R, 0 ≤ z ∧ z ≤ 5) (k : Nat) : 0 ≤ (R.take k).sum ∧ (R.take k).sum ≤ 5 * (k : Int) := by
  induction k with
  | zero => simp
  | succ k ih =>
    by_cases hk : k < R.length
    · have := h _ (List.getElem_mem hk)
      rw [sum_snoc R k hk]; omega
    · rw [List.take_of_length_le (by omega)] at ih ⊢; omega

set_option maxHeartbeats 1000000 in
theorem cRising_any (a : Option Addr) (n c B : Nat) (Bs : List ByteArray) (w : World) (h : StrsAt w B a n Bs) (hn : n ≤ 4) :
    Calls Tryd.prog 92 #[.slice a n c] w (Says w (adjB (txt Bs))) := by
  have hlen := h.1
  have hsl := txt_len Bs
  have HB := Lib.hid h
  clear h
  go_enter Tryd.func92, Tryd.ntmps92
  go_wp2
  go_loopw [3] (fun i wr => ∃ k q : Nat, k ≤ n ∧ i = .int .i64 ((k + 1 : Nat) : Int) ∧ wr = w.drewN q ∧ ∀ j (hj : j + 1 < (txt Bs).length), j < k → leB (txt Bs)[j + 1] (txt Bs)[j] = false) (fun i _ => n + 1 - (intOf i).toNat)
  case atStart => exact ⟨0, 0, Nat.zero_le _, rfl, rfl, fun j _ h => by omega⟩
  case round =>
    obtain ⟨k, q, hk, rfl, rfl, ht⟩ := hrel
    have HT := Lib.hid ht
    clear ht
    by_cases hlt : k + 1 < n
    · have hl : k + 1 < (txt Bs).length := by omega
      have hbad := fun h => Lib.hid (adj_bad (txt Bs) k hl h)
      have hgood : leB (txt Bs)[k + 1] (txt Bs)[k] = false → Hid (∀ j (hj : j + 1 < (txt Bs).length), j < k + 1 → leB (txt Bs)[j + 1] (txt Bs)[j] = false) := fun h j hj hjk => by
        by_cases e : j = k
        · subst e; exact h
        · exact HT.out j hj (by omega)
      rw [txt_get Bs k (by omega), txt_get Bs (k + 1) (by omega)] at hbad hgood
      obtain ⟨b, off, rfl, _, hc⟩ := HB.out.at_ (i := k) (by omega)
      obtain ⟨b', off', e1, _, hc'⟩ := HB.out.at_ (i := k + 1) (by omega)
      injection e1 with e1
      injection e1 with e1 e2
      subst e1; subst e2
      generalize Bs[k]'(by omega) = x at *
      generalize Bs[k + 1]'(by omega) = y at *
      have hE := ltS x y
      have hw : IntKind.i64.wrap (k : Int) = k := by rw [IntKind.wrap_i64]; omega
      have i1 : k < n := by omega
      have i2 : (k : Int) < (n : Int) := by omega
      have i3 : (k : Int) + 1 < (n : Int) := by omega
      have i4 : ((k : Int) + 1).toNat = k + 1 := by omega
      have i5 : (0 : Int) ≤ (k : Int) + 1 := by omega
      cases hz : leB y.data.toList x.data.toList
      · rw [hz] at hE
        have Q := hgood hz
        clear hbad hgood hz
        go_upto_region 4 with (fail)
        go_quiet (fail)
        go_wp2
        go_roundw
        case rel => exact ⟨k + 1, _, by omega, by go_num, rfl, Q.out⟩
        case measure => simp [intOf]; omega
      · rw [hz] at hE
        have Q := hbad hz
        clear hbad hgood hz
        go_upto_region 4 with (fail)
        go_quiet (fail)
        go_wp2
        go_ret
        exact ⟨by rw [Q.out]; rfl, below_drewN _ (Below.refl _ _)⟩
    · have Q : Hid (adjB (txt Bs) = true) := adj_all _ fun j hj => HT.out j hj (by omega)
      go_wp2
      go_ret
      exact ⟨by rw [Q.out]; rfl, below_drewN _ (Below.refl _ _)⟩
end Go.Proofs.YtlkgpajpblhkeaaDoor
