/- Contracts of config's own small functions: sizes, keys, order, counts and sums. Conditions: the lists lie in memory. -/
import Derived.Test.YtigimmbdlhginaaGreatDoorGC
import Derived.Test.YtigimmbdlhginaaGreatDoorOpenLists
import Derived.Tactics2
import Derived.Deep.DeepCutAuto
import Derived.Deep.QuietTactic
import Derived.BigQuiet
import Derived.WalkLawsBesides
namespace Go.Proofs.YtigimmbdlhginaaGreatDoor
open Go.RowKit
end Go.Proofs.YtigimmbdlhginaaGreatDoor
