/- Contracts of a code.Reader's methods Take and TakeText. Conditions: the reader lies in memory as New lays it. -/
import Derived.Test.YtclfgkeepmdmjaaCodeReader

namespace Go.Proofs.Ytclfgkeepmdmjaa

open Go.RowKit

theorem or_step (x c : Nat) (hx : x < 72057594037927936) (hc : c < 256) : bits .or .u64 (IntKind.u64.wrap ((x : Int) * 256)) (IntKind.u64.wrap (c : Int)) = ((x * 256 + c : Nat) : Int) := by
  have h1 : IntKind.u64.wrap ((x : Int) * 256) = ((x * 256 : Nat) : Int) := by rw [IntKind.wrap_u64]; omega
  have h2 : IntKind.u64.wrap (c : Int) = (c : Int) := by rw [IntKind.wrap_u64]; omega
  rw [h1, h2, u64_or_nat _ _ (by omega) (by omega), nat_join 8 _ _ (by omega) (by omega)]
theorem num_step (l : List UInt8) (k q : Nat) (hq : q < k) (hk : k ≤ l.length) (h8 : k ≤ 8) :
    bits .or .u64 (IntKind.u64.wrap ((numB ((l.take k).take q) : Int) * 256)) (IntKind.u64.wrap ((l[q]'(by omega)).toNat : Int)) = ((numB ((l.take k).take (q + 1)) : Nat) : Int) := by
  have h1 : (l.take k).take (q + 1) = (l.take k).take q ++ [l[q]'(by omega)] := by
    rw [take_snoc _ _ (by simp; omega)]; simp
  have h2 := numB_lt ((l.take k).take q)
  have h3 : ((l.take k).take q).length ≤ 7 := by simp; omega
  have h4 : 256 ^ ((l.take k).take q).length ≤ 256 ^ 7 := Nat.pow_le_pow_right (by omega) h3
  rw [h1, numB_snoc]
  exact or_step _ _ (by omega) (UInt8.toNat_lt _)

/-- How long the text is that is next, as its first two bytes tell. -/
def textLen (l : List UInt8) : Nat := numB (l.take 2)
theorem textLen_lt (l : List UInt8) : textLen l < 65536 := by
  have h := numB_lt (l.take 2)
  have h2 : 256 ^ (l.take 2).length ≤ 256 ^ 2 := Nat.pow_le_pow_right (by omega) (by simp; omega)
  unfold textLen; omega
/-- Whether a text of at most m bytes is there whole. -/
def textOk (l : List UInt8) (m : Int) : Prop := 2 ≤ l.length ∧ (textLen l : Int) ≤ m ∧ 2 + textLen l ≤ l.length

end Go.Proofs.Ytclfgkeepmdmjaa
