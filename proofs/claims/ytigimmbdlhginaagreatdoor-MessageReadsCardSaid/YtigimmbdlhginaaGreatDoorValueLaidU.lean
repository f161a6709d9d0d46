/- What utf8's tables hold, as the walks ask for it. No condition but that they read as they are listed. -/
import Derived.Test.YtigimmbdlhginaaGreatDoorRows
import Derived.Test.YtigimmbdlhginaaGreatDoorValueUtf8
import Derived.Lib.LaidU8T
import Derived.PinnedBridge
namespace Go.Proofs.YtigimmbdlhginaaGreatDoor
open Go.RowKit Go.Lib
theorem utf8_cells {w : World} (h3 : VarReads Tryz.prog w "unicode/utf8.first" Rows.laid_unicode_utf8_first) (h4 : VarReads Tryz.prog w "unicode/utf8.acceptRanges" Rows.laid_unicode_utf8_acceptRanges) : Tabs w :=
 utf8Tabs_of_readsT (U8Types.of196 Tryz.laysValid) ⟨by kernel_rfl,by kernel_rfl,by kernel_rfl,by kernel_rfl,by kernel_rfl,by kernel_rfl,by kernel_rfl⟩ (Go.Pinned.utf8First_eq ▸ h3) h4
end Go.Proofs.YtigimmbdlhginaaGreatDoor
