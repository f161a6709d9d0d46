/- Move and Links in a law's words. No condition. -/
import Derived.Test.YtigimmbdlhginaaNetLaw

import Derived.Test.YtigimmbdlhginaaNetMove

namespace Go.Proofs.Ytigimmbdlhginaa

open Go.RowKit

set_option linter.unusedVariables false
set_option linter.unusedSimpArgs false

section

variable {W V : World} {g : Nat} {bs : Bags} {L : Bxs}

theorem move_yes_law (f t : Int) (a b : Nat) (h : LawN W V g bs L) (hm : (getB bs (f, t)).length ≤ 1099511627776) (ha : a < (getB bs (f, t)).length) (hb : b < (getB bs (f, t)).length) :
    Calls Try.prog 21 #[.pointer (some ⟨g, 0, none⟩), .int .i64 f, .int .i64 t, .int .i64 (a : Nat), .int .i64 (b : Nat)] V fun e w' => e = .returned (.bool true) ∧ LawN W w' g (keepB bs (f, t) (putAt ((getB bs (f, t)).eraseIdx a) b (getB bs (f, t))[a])) L := by
  obtain ⟨own, h1, h2, h3, h4⟩ := h
  refine (move_any V g bs own f t (a : Nat) (b : Nat) h1 hm).mono fun e w' hr => ?_
  rcases hr with ⟨a', b', ha', hb', e1, e2, he, hs⟩ | ⟨hno, _⟩
  · have q1 : a = a' := by omega
    have q2 : b = b' := by omega
    subst q1; subst q2
    exact ⟨he, LawN.on h2 h3 h4 hs⟩
  · exact absurd ⟨⟨by omega, by omega⟩, ⟨by omega, by omega⟩⟩ hno
end

end Go.Proofs.Ytigimmbdlhginaa
