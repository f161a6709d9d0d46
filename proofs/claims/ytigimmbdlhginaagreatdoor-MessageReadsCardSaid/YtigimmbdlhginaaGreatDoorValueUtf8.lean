/- The library's contract of utf8.ValidString, laid at this program. Condition: its two tables hold what they hold. -/
import Derived.Test.YtigimmbdlhginaaGreatDoorGF
import Derived.Test.YtigimmbdlhginaaGreatDoorChecked
import Derived.Test.YtigimmbdlhginaaGreatDoorShelf
import Derived.WalkKit
import Derived.Shelf.Unicode.ValidAny
namespace Go.Proofs.YtigimmbdlhginaaGreatDoor
open Go.RowKit Go.Shelf Go.Lib
/-- utf8's two tables. -/
def Tabs (w : World) : Prop:=Lib.Utf8Tabs (Tryz.laysValid_ren.g 3) (Tryz.laysValid_ren.g 4) w
theorem validString_any (s : ByteArray) (w : World) (hs : s.size≤maxLen) (hT : Tabs w) :
  Calls Tryz.prog 94 #[.string s] w fun e w'=>e = .returned (.bool (validT s.data.toList))∧Below w.heap.size w w' :=
 Any.utf8_ValidString Tryz.laysValid s w (by unfold maxLen at hs;omega) hT
end Go.Proofs.YtigimmbdlhginaaGreatDoor
