/- Contracts of the document's own Key and Valid. Conditions: none but the texts' lengths. -/
import Derived.Test.YtlkgpajpblhkeaaDoorValueKey

import Derived.Test.YtlkgpajpblhkeaaDoorValueMath

import Derived.Test.YtlkgpajpblhkeaaDoorOwnRows

import Derived.Lib.OthersKept

namespace Go.Proofs.YtlkgpajpblhkeaaDoor

open Go.RowKit

theorem drop3 (l : List UInt8) (p : Nat) (h : p + 3 ≤ l.length) : (l.drop p).take 3 = [l[p], l[p + 1], l[p + 2]] := by
  rw [List.drop_eq_getElem_cons (by omega), List.drop_eq_getElem_cons (by omega), List.drop_eq_getElem_cons (by omega)]; rfl

end Go.Proofs.YtlkgpajpblhkeaaDoor
