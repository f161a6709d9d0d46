/- The program's reader and the document's, carried on: whatever is done elsewhere leaves them as they are. No condition. -/
import Derived.Test.YtgdgjgcmglgfmaaCodeTake
import Derived.Test.YtgdgjgcmglgfmaaOwnRows
import Derived.Test.YtgdgjgcmglgfmaaCodeRefReader
namespace Go.Proofs.Ytgdgjgcmglgfmaa

open Go.RowKit
end Go.Proofs.Ytgdgjgcmglgfmaa
