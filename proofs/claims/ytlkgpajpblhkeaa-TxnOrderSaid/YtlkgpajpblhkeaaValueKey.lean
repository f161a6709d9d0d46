/- Keys: what they are, and the contracts of value.Key and of the document's own Key. Conditions: none but the text's length. -/
import Derived.Test.YtlkgpajpblhkeaaCodeMath

import Derived.Test.YtlkgpajpblhkeaaOwnRows

import Derived.Lib.OthersKept

namespace Go.Proofs.Ytlkgpajpblhkeaa

open Go.RowKit

/-- A key's byte; a key. -/
def keyC (c : Nat) : Bool := (decide (97 ≤ c) && decide (c ≤ 122)) || (decide (48 ≤ c) && decide (c ≤ 57))
def keyB (l : List UInt8) : Bool := l.all (fun c => keyC c.toNat) && (decide (1 ≤ l.length) && decide (l.length ≤ 12))
theorem keyB_bad (l : List UInt8) (k : Nat) (h : k < l.length) (hc : keyC l[k].toNat = false) : keyB l = false := by
  unfold keyB
  rw [Bool.and_eq_false_iff]
  left
  rw [List.all_eq_false]
  exact ⟨l[k], List.getElem_mem h, by rw [hc]; simp⟩
theorem keys_take (l : List UInt8) (k : Nat) (h : k < l.length) (ht : (l.take k).all (fun c => keyC c.toNat) = true) (hc : keyC l[k].toNat = true) : (l.take (k + 1)).all (fun c => keyC c.toNat) = true := by
  rw [List.take_succ_eq_append_getElem h, List.all_append, ht]; simp [hc]
theorem keyB_len (l : List UInt8) (h : l.length < 1 ∨ 12 < l.length) : keyB l = false := by
  unfold keyB
  rw [Bool.and_eq_false_iff]
  right
  rw [Bool.and_eq_false_iff, decide_eq_false_iff_not, decide_eq_false_iff_not]
  omega
end Go.Proofs.Ytlkgpajpblhkeaa
