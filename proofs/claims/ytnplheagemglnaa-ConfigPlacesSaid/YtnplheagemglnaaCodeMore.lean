/- The program's reader and the document's, carried on: whatever is done elsewhere leaves them as they are. No condition. -/
import Derived.Test.YtnplheagemglnaaCodeTake

import Derived.Test.YtnplheagemglnaaOwnRows

import Derived.Test.YtnplheagemglnaaCodeRefReader

namespace Go.Proofs.Ytnplheagemglnaa

open Go.RowKit
end Go.Proofs.Ytnplheagemglnaa
