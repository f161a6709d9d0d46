/- Links in a law's words. Condition: the net lies in memory. -/
import Derived.Test.YtigimmbdlhginaaNetLinks

import Derived.Test.YtigimmbdlhginaaNetLaw

namespace Go.Proofs.Ytigimmbdlhginaa

open Go.RowKit

set_option linter.unusedVariables false
set_option linter.unusedSimpArgs false

theorem links_law {W V : World} {g : Nat} {bs : Bags} {L : Bxs} (h : LawN W V g bs L) (hN : bs.length ≤ 1099511627776) :
    Calls Try.prog 13 #[.pointer (some ⟨g, 0, none⟩)] V fun e w' => ∃ (v : Value) (ks : List Lk), e = .returned v ∧ ks.Perm (bs.map (·.1)) ∧ Rise ks ∧ w'.ownsRow V.heap.size 42 2 v ks.length (ks.flatMap lkC) ∧ Below V.heap.size V w' ∧ LawN W w' g bs L := by
  have h0 := h
  obtain ⟨own, h1, h2, h3, h4⟩ := h
  exact (links_any V g bs own h1 hN).mono fun e w' ⟨v, ks, he, hp, hr, ho, hb⟩ => ⟨v, ks, he, hp, hr, ho, hb, h0.later hb⟩
theorem links_none {W V : World} {g : Nat} {L : Bxs} (h : LawN W V g [] L) :
    Calls Try.prog 13 #[.pointer (some ⟨g, 0, none⟩)] V fun e w' => ∃ (a : Option Addr) (c : Nat), e = .returned (.slice a 0 c) ∧ LawN W w' g [] L := by
  refine (links_law h (by simp)).mono fun e w' ⟨v, ks, he, hp, hr, ho, hb, hl⟩ => ?_
  obtain rfl : ks = [] := List.Perm.eq_nil (by simpa using hp)
  obtain ⟨a, c, hv, _⟩ := ownk_form ho
  exact ⟨a, c, by rw [he, hv]; rfl, hl⟩
end Go.Proofs.Ytigimmbdlhginaa
