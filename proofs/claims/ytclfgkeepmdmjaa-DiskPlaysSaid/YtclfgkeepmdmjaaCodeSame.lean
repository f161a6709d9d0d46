/- Contract of the document's own Same of bytes, for any two rows of bytes. Conditions: what it is handed lies in memory. -/
import Derived.Test.YtclfgkeepmdmjaaCodeRef

namespace Go.Proofs.Ytclfgkeepmdmjaa

open Go.RowKit

set_option linter.unusedVariables false

set_option maxHeartbeats 1000000 in
theorem same_any (a a' : Option Addr) (n n' c c' B B' : Nat) (l l' : List UInt8) (w : World) (h : BAt w B a n l) (h' : BAt w B' a' n' l') (hn : n ≤ maxLen) (hn' : n' ≤ maxLen) :
    Calls Try.prog 15 #[.slice a n c, .slice a' n' c'] w (Reads1 w (.bool (decide (l = l')))) := by
  have e1 := h.len
  have e2 := h'.len
  unfold maxLen at hn hn'
  by_cases hnn : n = n'
  · subst hnn
    go_enter Try.func15, Try.ntmps15
    go_wp2
    go_loopw [5] (fun i wr => ∃ (k q : Nat), k ≤ n ∧ i = .int .i64 k ∧ wr = w.drewN q ∧ l.take k = l'.take k) (fun i _ => n - (intOf i).toNat)
    case atStart => exact ⟨0, 0, by omega, rfl, rfl, rfl⟩
    case round =>
      obtain ⟨k, q, hk, rfl, rfl, ht⟩ := hrel
      by_cases hlt : k < n
      · obtain ⟨b, off, rfl, _, hc⟩ := h.at_ (i := k) (by omega)
        obtain ⟨b', off', rfl, _, hc'⟩ := h'.at_ (i := k) (by omega)
        have hk1 : k < l.length := by omega
        have hk2 : k < l'.length := by omega
        by_cases he : l[k] = l'[k]
        · have HT : Hid (l.take (k + 1) = l'.take (k + 1)) := by unfold Hid; rw [List.take_succ_eq_append_getElem hk1, List.take_succ_eq_append_getElem hk2, ht, he]
          rw [← he] at hc'
          generalize l[k].toNat = v at *
          clear h h' e1 e2 ht he
          go_upto_region 6 with (fail)
          go_quiet (fail)
          go_wp2
          go_roundw
          case rel => exact ⟨k + 1, _, by omega, by go_num, rfl, HT.out⟩
          case measure => simp [intOf]; omega
        · have Q : Hid (decide (l = l') = false) := decide_eq_false (fun e => he (by subst e; rfl))
          have qn : (((l[k].toNat : Nat) : Int) != ((l'[k].toNat : Nat) : Int)) = true := by
            have h1 : l[k].toNat ≠ l'[k].toNat := fun e => he (UInt8.toNat_inj.1 e)
            simp only [bne_iff_ne, ne_eq]; omega
          generalize l[k].toNat = v at *
          generalize l'[k].toNat = v' at *
          clear h h' e1 e2 ht he
          go_upto_region 6 with (fail)
          go_quiet (fail)
          go_wp2
          go_ret
          exact ⟨by rw [Q.out]; rfl, q + nq, by rw [World.drewN_drewN]⟩
      · have Q : Hid (decide (l = l') = true) := by
          unfold Hid
          rw [List.take_of_length_le (by omega), List.take_of_length_le (by omega)] at ht
          exact decide_eq_true ht
        clear e1 e2 h h' ht
        go_wp2
        go_ret
        exact ⟨by rw [Q.out]; rfl, q, rfl⟩
  · have Q : Hid (decide (l = l') = false) := decide_eq_false (fun e => hnn (by rw [← e1, ← e2, e]))
    have qn : ((n : Int) != (n' : Int)) = true := by simp; omega
    clear h h' e1 e2
    go_enter Try.func15, Try.ntmps15
    go_wp2
    go_ret
    exact ⟨by rw [Q.out]; rfl, 0, rfl⟩
end Go.Proofs.Ytclfgkeepmdmjaa
