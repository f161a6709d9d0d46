/- Plain mathematics of layer value: keys, formed values, their order, their bytes and their texts. No condition. -/
import Derived.Test.YtlkgpajpblhkeaaDoorValueKey

import Derived.Test.YtlkgpajpblhkeaaDoorCodeMath

import Derived.Test.YtlkgpajpblhkeaaDoorNumKeys

import Derived.Lib.ValidLaws

namespace Go.Proofs.YtlkgpajpblhkeaaDoor

/-- A value: its kind, its bits, its text. -/
structure Val where
  k : Int
  b : Nat
  t : List UInt8
instance : DecidableEq Val := fun a b =>
  if h : a.k = b.k ∧ a.b = b.b ∧ a.t = b.t then
    isTrue (by
      obtain ⟨k, n, t⟩ := a
      obtain ⟨k', n', t'⟩ := b
      obtain ⟨h1, h2, h3⟩ := h
      simp only at h1 h2 h3
      subst h1; subst h2; subst h3
      rfl)
  else isFalse (fun e => h (by subst e; exact ⟨rfl, rfl, rfl⟩))
def validT (l : List UInt8) : Bool := Lib.validD l
/-- Whether a value is formed. -/
def formedB (v : Val) : Bool :=
  if v.k = 0 then decide (v.b = 0) && v.t.isEmpty
  else if v.k = 1 then v.t.isEmpty && decide (canonF v.b = v.b)
  else decide (v.k = 2) && decide (v.b = 0) && decide (v.t.length ≤ 40) && validT v.t

/-- A step of the document's own look: what it asks of the rune at a place. -/
theorem valid_bad (l : List UInt8) (h : (Lib.decodeL l).1 = 65533) : ((Lib.decodeL l).2 = 1) ↔ ¬ (l.take 3 = [239, 191, 189]) := by
  constructor
  · intro h1 h3
    obtain ⟨r, rfl⟩ : ∃ r, l = 239 :: 191 :: 189 :: r := by
      match l, h3 with
      | a :: b :: c :: r, h3 =>
        simp at h3
        obtain ⟨rfl, rfl, rfl⟩ := h3
        exact ⟨r, rfl⟩
    rw [Lib.decodeL_N] at h1
    simp [Lib.decodeN] at h1
  · intro h3
    rcases Nat.lt_or_ge 1 (Lib.decodeL l).2 with h1 | h1
    · exfalso
      have hne : l ≠ [] := by
        rintro rfl
        revert h1; decide
      have he := Lib.encode_decode l hne (by omega)
      rw [h] at he
      apply h3
      have hw : (Lib.decodeL l).2 = 3 := by
        have := congrArg List.length he
        have h4 := Lib.decodeL_le l hne
        rw [List.length_take, Nat.min_eq_left h4] at this
        rw [← this]; decide
      rw [hw] at he
      rw [← he]; decide
    · have := Lib.decodeL_width l
      omega
end Go.Proofs.YtlkgpajpblhkeaaDoor
