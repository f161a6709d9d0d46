/- The program's reader and the document's, carried on: whatever is done elsewhere leaves them as they are. No condition. -/
import Derived.Test.YtclfgkeepmdmjaaCodeTake

import Derived.Test.YtclfgkeepmdmjaaOwnRows

import Derived.Test.YtclfgkeepmdmjaaCodeRefReader

namespace Go.Proofs.Ytclfgkeepmdmjaa

open Go.RowKit
end Go.Proofs.Ytclfgkeepmdmjaa
