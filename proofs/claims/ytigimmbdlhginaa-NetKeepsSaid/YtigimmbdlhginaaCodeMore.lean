/- The program's reader and the document's, carried on: whatever is done elsewhere leaves them as they are. No condition. -/
import Derived.Test.YtigimmbdlhginaaCodeTake

import Derived.Test.YtigimmbdlhginaaOwnRows

import Derived.Test.YtigimmbdlhginaaCodeRefReader

namespace Go.Proofs.Ytigimmbdlhginaa

open Go.RowKit
end Go.Proofs.Ytigimmbdlhginaa
