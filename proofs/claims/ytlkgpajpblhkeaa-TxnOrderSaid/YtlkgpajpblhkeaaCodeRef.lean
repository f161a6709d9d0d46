/- Contracts of the document's own Same, Put and PutText. Conditions: what they are handed lies in memory; the numbers are small. -/
import Derived.Test.YtlkgpajpblhkeaaCodePut

import Derived.Deep.QuietTactic

import Derived.BigQuiet

namespace Go.Proofs.Ytlkgpajpblhkeaa

open Go.RowKit

set_option linter.unusedVariables false

/-- b is answered, and nothing but the draws has gone on. -/
def Reads1 (w : World) (v : Value) (e : Ending) (w' : World) : Prop := e = .returned v ∧ ∃ k, w' = w.drewN k

end Go.Proofs.Ytlkgpajpblhkeaa
