/- Contract of the document's own Valid: valid UTF-8. Condition: the text's length. -/
import Derived.Test.YtlkgpajpblhkeaaDoorValueRef

import Derived.WalkSmall

namespace Go.Proofs.YtlkgpajpblhkeaaDoor

open Go.RowKit

theorem valid_go (s : ByteArray) (p : Nat) (hp : p < s.size) (h : ¬ ((Utf8.decode s p).1 = 65533 ∧ (Utf8.decode s p).2 = 1)) : validT (s.data.toList.drop (p + (Utf8.decode s p).2)) = validT (s.data.toList.drop p) := by
  have hne : s.data.toList.drop p ≠ [] := by
    intro e
    have := congrArg List.length e
    simp at this
    have : s.data.size = s.size := rfl
    omega
  have := Lib.validD_step _ hne
  rw [Lib.decodeL_drop, if_neg h, List.drop_drop] at this
  exact this.symm
theorem valid_stop (s : ByteArray) (p : Nat) (hp : p < s.size) (h : (Utf8.decode s p).1 = 65533 ∧ (Utf8.decode s p).2 = 1) : validT (s.data.toList.drop p) = false := by
  have hne : s.data.toList.drop p ≠ [] := by
    intro e
    have := congrArg List.length e
    simp at this
    have : s.data.size = s.size := rfl
    omega
  have := Lib.validD_step _ hne
  rw [Lib.decodeL_drop, if_pos h] at this
  exact this
/-- What the look asks, in terms of the text's bytes. -/
theorem valid_look (s : ByteArray) (p : Nat) (h : (Utf8.decode s p).1 = 65533) : (Utf8.decode s p).2 = 1 ↔ ¬ (∃ h3 : p + 3 ≤ s.size, (s[p]'(by omega)).toNat = 239 ∧ (s[p + 1]'(by omega)).toNat = 191 ∧ (s[p + 2]'(by omega)).toNat = 189) := by
  have hz : s.data.toList.length = s.size := by rw [Array.length_toList]; rfl
  have hb := valid_bad (s.data.toList.drop p) (by rw [Lib.decodeL_drop]; exact h)
  rw [Lib.decodeL_drop] at hb
  rw [hb]
  apply not_congr
  constructor
  · intro e
    have hl : p + 3 ≤ s.size := by
      have := congrArg List.length e
      simp only [List.length_take, List.length_drop, List.length_cons, List.length_nil] at this
      omega
    rw [drop3 _ _ (by omega)] at e
    simp only [List.cons.injEq] at e
    refine ⟨hl, ?_, ?_, ?_⟩
    · exact congrArg UInt8.toNat e.1
    · exact congrArg UInt8.toNat e.2.1
    · exact congrArg UInt8.toNat e.2.2.1
  · rintro ⟨hl, h0, h1, h2⟩
    rw [drop3 _ _ (by omega)]
    have e0 : s.data.toList[p]'(by omega) = 239 := UInt8.toNat_inj.1 h0
    have e1 : s.data.toList[p + 1]'(by omega) = 191 := UInt8.toNat_inj.1 h1
    have e2 : s.data.toList[p + 2]'(by omega) = 189 := UInt8.toNat_inj.1 h2
    rw [e0, e1, e2]

set_option maxHeartbeats 2000000 in
theorem refValid_any (s : ByteArray) (w : World) (hs : s.size ≤ maxLen) :
    Calls Tryd.prog 73 #[.string s] w fun e w' => e = .returned (.bool (validT s.data.toList)) ∧ Below w.heap.size w w' := by
  unfold maxLen at hs
  go_enter Tryd.func73, Tryd.ntmps73
  go_wp2
  go_loopw [3] (fun _ wr => ∃ pos, wr.heap[w.heap.size]? = some (.stringIter s pos) ∧ Below w.heap.size w wr ∧ validT (s.data.toList.drop pos) = validT s.data.toList) (fun _ wr => s.size - wr.iterPos w.heap.size)
  case atStart => exact ⟨0, World.iter_heap w s 0, (Below.refl _ _).alloc (Nat.le_refl _) _, by simp⟩
  case round =>
    obtain ⟨pos, hit, hbw, hv⟩ := hrel
    have hpos0 := Lib.hid (iterPos_of hit)
    have HV := Lib.hid hv
    clear hv
    by_cases hp : pos < s.size
    · have hnx : ∀ ty, (Instr.next (.pointer (some ⟨w.heap.size, 0, none⟩)) true ty).run Tryd.prog wr = _ := fun ty => Lib.run_next_any_at wr w.heap.size s pos ty hit hp
      have hit2 := Lib.iterAt_heap wr w.heap.size s pos (pos + (Utf8.decode s pos).2) hit
      have hbw2 := Lib.below_iterAt hbw (k := w.heap.size) (Nat.le_refl _) s (pos + (Utf8.decode s pos).2)
      have hwd := Lib.decodeL_width (s.data.toList.drop pos)
      rw [Lib.decodeL_drop] at hwd
      have hgo := fun h => Lib.hid (valid_go s pos hp h)
      have hst := fun h => Lib.hid (valid_stop s pos hp h)
      have hlk := fun h => Lib.hid (valid_look s pos h)
      generalize wr.iterAt w.heap.size s (pos + (Utf8.decode s pos).2) = W1 at hnx hit2 hbw2
      generalize (Utf8.decode s pos).1 = r at *
      generalize (Utf8.decode s pos).2 = d at *
      have HI2 := Lib.hid (iterPos_of hit2)
      clear hit hbw
      by_cases hr : r = 65533
      · subst hr
        have hL := hlk rfl
        clear hlk
        by_cases h3 : pos + 3 ≤ s.size
        · have g0 : decide ((s.size : Int) - (pos : Int) < 3) = false := by simp; omega
          have g1 : IntKind.i64.wrap ((s.size : Int) - (pos : Int)) = (s.size : Int) - (pos : Int) := by rw [IntKind.wrap_i64]; omega
          obtain ⟨v0, e0⟩ : ∃ v, (s[pos]'hp).toNat = v := ⟨_, rfl⟩
          obtain ⟨v1, e1⟩ : ∃ v, (s[pos + 1]'(by omega)).toNat = v := ⟨_, rfl⟩
          obtain ⟨v2, e2⟩ : ∃ v, (s[pos + 2]'(by omega)).toNat = v := ⟨_, rfl⟩
          have hq : d = 1 ↔ ¬ (v0 = 239 ∧ v1 = 191 ∧ v2 = 189) := by
            rw [hL.out, ← e0, ← e1, ← e2]
            exact not_congr ⟨fun ⟨_, h⟩ => h, fun h => ⟨h3, h⟩⟩
          have HQ := Lib.hid hq
          clear hL hq
          by_cases q0 : v0 = 239
          · by_cases q1 : v1 = 191
            · by_cases q2 : v2 = 189
              · have R := hgo (fun h => (HQ.out.1 h.2) ⟨q0, q1, q2⟩)
                clear hgo hst HQ
                subst q0; subst q1; subst q2
                go_wp2
                go_roundw
                case rel => exact ⟨pos + d, hit2, hbw2, R.out.trans HV.out⟩
                case measure => rw [HI2.out, hpos0.out]; omega
              · have R := hst ⟨rfl, HQ.out.2 (fun h => q2 h.2.2)⟩
                have c2 : ((v2 : Int) != 189) = true := by simp; omega
                clear hgo hst HQ
                subst q0; subst q1
                go_wp2
                go_ret
                exact ⟨by rw [← HV.out, R.out]; rfl, hbw2⟩
            · have R := hst ⟨rfl, HQ.out.2 (fun h => q1 h.2.1)⟩
              have c2 : ((v1 : Int) != 191) = true := by simp; omega
              clear hgo hst HQ
              subst q0
              go_wp2
              go_ret
              exact ⟨by rw [← HV.out, R.out]; rfl, hbw2⟩
          · have R := hst ⟨rfl, HQ.out.2 (fun h => q0 h.1)⟩
            have c2 : ((v0 : Int) != 239) = true := by simp; omega
            clear hgo hst HQ
            go_wp2
            go_ret
            exact ⟨by rw [← HV.out, R.out]; rfl, hbw2⟩
        · have g0 : decide ((s.size : Int) - (pos : Int) < 3) = true := by simp; omega
          have g1 : IntKind.i64.wrap ((s.size : Int) - (pos : Int)) = (s.size : Int) - (pos : Int) := by rw [IntKind.wrap_i64]; omega
          have R := hst ⟨rfl, hL.out.2 (fun ⟨h, _⟩ => h3 h)⟩
          clear hgo hst hL
          go_wp2
          go_ret
          exact ⟨by rw [← HV.out, R.out]; rfl, hbw2⟩
      · have R := hgo (fun h => hr h.1)
        have c1 : ((r : Int) == 65533) = false := by simp; omega
        clear hgo hst hlk
        go_wp2
        go_roundw
        case rel => exact ⟨pos + d, hit2, hbw2, R.out.trans HV.out⟩
        case measure => rw [HI2.out, hpos0.out]; omega
    · have hnx : ∀ ty, (Instr.next (.pointer (some ⟨w.heap.size, 0, none⟩)) true ty).run Tryd.prog wr = _ := fun ty => Lib.run_next_end_at wr w.heap.size s pos ty hit hp
      have hz : s.data.toList.length = s.size := by rw [Array.length_toList]; rfl
      have R : Hid (validT s.data.toList = true) := by
        have := HV.out
        rw [List.drop_eq_nil_of_le (by omega)] at this
        exact this.symm.trans Lib.validD_nil
      clear hz hit
      go_wp2
      go_ret
      exact ⟨by rw [R.out]; rfl, hbw⟩
end Go.Proofs.YtlkgpajpblhkeaaDoor
