/- The contract of the statements' own function awake. Condition: utf8's tables. -/
import Derived.Test.YtmaohddmhdhkkaaDoorValueProg
import Derived.Test.YtmaohddmhdhkkaaDoorValueCmp

namespace Go.Proofs.YtmaohddmhdhkkaaDoor

open Go.RowKit

theorem formed_zero (w : World) (hT : Tabs w) : Calls Tryd.prog 10 #[.agg #[.int .i64 0, .int .u64 0, .string ⟨#[]⟩]] w (Says w true) :=
  formed_any 0 0 ⟨#[]⟩ w (by omega) (by decide) hT
theorem key_a1 (w : World) : Calls Tryd.prog 12 #[.string ⟨#[97, 49]⟩] w (Says w true) := key_any ⟨#[97, 49]⟩ w (by decide)
theorem awake_any (w : World) (hT : Tabs w) : Calls Tryd.prog 9 #[] w (Says w true) := by
  go_enter Tryd.func9, Tryd.ntmps9
  go_wp2_with (first | (go_at_call 10; ((with_reducible refine (formed_zero _ hT).mono ?_); rintro e w1 ⟨rfl, hb1⟩)) | (go_at_call 12; ((with_reducible refine (key_a1 _).mono ?_); rintro e w2 ⟨rfl, hb2⟩)))
  go_ret
  exact ⟨rfl, hb1.trans (hb2.mono hb1.size)⟩
end Go.Proofs.YtmaohddmhdhkkaaDoor
