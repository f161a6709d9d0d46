/- The program's reader and the document's, carried on: whatever is done elsewhere leaves them as they are. No condition. -/
import Derived.Test.YtlkgpajpblhkeaaCodeTake

import Derived.Test.YtlkgpajpblhkeaaOwnRows

import Derived.Test.YtlkgpajpblhkeaaCodeRefReader

namespace Go.Proofs.Ytlkgpajpblhkeaa

open Go.RowKit
end Go.Proofs.Ytlkgpajpblhkeaa
