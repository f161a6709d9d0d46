/- The library's contract of utf8.ValidString, laid at this program. Condition: its two tables hold what they hold. -/
import Derived.Test.YtcgfhjkdgpgheaaDoorGF
import Derived.Test.YtcgfhjkdgpgheaaDoorChecked
import Derived.Test.YtcgfhjkdgpgheaaDoorShelf
import Derived.WalkKit
import Derived.Shelf.Unicode.ValidAny
namespace Go.Proofs.YtcgfhjkdgpgheaaDoor

open Go.RowKit Go.Shelf Go.Lib

/-- utf8's two tables. -/
def Tabs (w : World) : Prop := Lib.Utf8Tabs (Tryd.laysValid_ren.g 3) (Tryd.laysValid_ren.g 4) w
theorem validString_any (s : ByteArray) (w : World) (hs : s.size ≤ maxLen) (hT : Tabs w) :
    Calls Tryd.prog 101 #[.string s] w fun e w' => e = .returned (.bool (validT s.data.toList)) ∧ Below w.heap.size w w' :=
  Any.utf8_ValidString Tryd.laysValid s w (by unfold maxLen at hs; omega) hT
end Go.Proofs.YtcgfhjkdgpgheaaDoor
