/- Contracts of the document's own Same, Put and PutText. Conditions: what they are handed lies in memory; the numbers are small. -/
import Derived.Test.YtclfgkeepmdmjaaCodePut

import Derived.Deep.QuietTactic

import Derived.BigQuiet

namespace Go.Proofs.Ytclfgkeepmdmjaa

open Go.RowKit

set_option linter.unusedVariables false

/-- b is answered, and nothing but the draws has gone on. -/
def Reads1 (w : World) (v : Value) (e : Ending) (w' : World) : Prop := e = .returned v ∧ ∃ k, w' = w.drewN k

set_option maxHeartbeats 1000000 in
theorem same_yes (a a' : Option Addr) (n c c' B B' : Nat) (l : List UInt8) (w : World) (h : BAt w B a n l) (h' : BAt w B' a' n l) (hn : n ≤ maxLen) :
    Calls Try.prog 15 #[.slice a n c, .slice a' n c'] w (Reads1 w (.bool true)) := by
  unfold maxLen at hn
  go_enter Try.func15, Try.ntmps15
  go_wp2
  go_loopw [5] (fun i wr => ∃ (k q : Nat), k ≤ n ∧ i = .int .i64 k ∧ wr = w.drewN q) (fun i _ => n - (intOf i).toNat)
  case atStart => exact ⟨0, 0, by omega, rfl, rfl⟩
  case round =>
    obtain ⟨k, q, hk, rfl, rfl⟩ := hrel
    have hlen := h.len
    by_cases hlt : k < n
    · obtain ⟨b, off, rfl, _, hc⟩ := h.at_ (i := k) (by omega)
      obtain ⟨b', off', rfl, _, hc'⟩ := h'.at_ (i := k) (by omega)
      generalize l[k].toNat = v at *
      clear h h' hlen
      go_upto_region 6 with (fail)
      go_quiet (fail)
      go_wp2
      go_roundw
      case rel => exact ⟨k + 1, _, by omega, by go_num, rfl⟩
      case measure => simp [intOf]; omega
    · clear hlen h h'
      go_wp2
      go_ret
      exact ⟨rfl, q, rfl⟩

theorem same_two (a a' : Option Addr) (n n' c c' B B' : Nat) (l : List UInt8) (w : World) (h : BAt w B a n l) (h' : BAt w B' a' n' l) (hn : n ≤ maxLen) :
    Calls Try.prog 15 #[.slice a n c, .slice a' n' c'] w (Reads1 w (.bool true)) := by
  have e1 := h.len
  have e2 := h'.len
  obtain rfl : n' = n := by omega
  exact same_yes a a' n' c c' B B' l w h h' hn

end Go.Proofs.Ytclfgkeepmdmjaa
