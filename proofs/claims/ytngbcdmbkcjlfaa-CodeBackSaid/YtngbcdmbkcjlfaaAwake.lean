/- The contract of the statements' own function awake: it answers true and writes nothing that was there. No condition. -/
import Derived.Test.YtngbcdmbkcjlfaaTake
namespace Go.Proofs.Ytngbcdmbkcjlfaa
open Go.RowKit

theorem put_258 (w : World) : Calls Try.prog 10 #[.slice none 0 0, .int .u64 258, .int .i64 2] w (NewB w (putB 258 2)) :=
  put_any none 0 0 258 2 [] w BAt.nil (by omega) (by omega)
/-- True is answered, and nothing that was there has turned. -/
def Says (w : World) (b : Bool) (e : Ending) (w' : World) : Prop := e = .returned (.bool b) ∧ Below w.heap.size w w'
theorem awake_any (w : World) : Calls Try.prog 8 #[] w (Says w true) := by
  go_enter Try.func8, Try.ntmps8
  go_wp2_with (first | (go_at_call 10; ((with_reducible refine (put_258 _).mono ?_); rintro e w1 ⟨a1, n1, c1, rfl, ho, hb⟩; obtain rfl : n1 = 2 := (own_len ho).symm)) | (go_at_call 14; ((with_reducible refine (new_any none 0 0 [] _ BAt.nil (by omega)).mono ?_); rintro e w2 ⟨g, rfl, hr, hg1, hg2, hb2⟩)) | (go_at_call 22; ((with_reducible refine (end_any g [] true _ hr).mono ?_); rintro e w' ⟨rfl, rfl⟩)))
  go_ret
  exact ⟨rfl, hb.trans (hb2.mono hb.size)⟩
end Go.Proofs.Ytngbcdmbkcjlfaa
