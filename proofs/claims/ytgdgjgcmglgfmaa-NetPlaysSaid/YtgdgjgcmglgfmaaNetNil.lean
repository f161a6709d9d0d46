/- What no network answers; the law's awake; the law's walk of NetNil. Conditions: what came in lies in memory. -/
import Derived.Test.YtgdgjgcmglgfmaaNetCount
namespace Go.Proofs.Ytgdgjgcmglgfmaa

open Go.RowKit

open Go.ChangeMaps (setBlock)

set_option linter.unusedVariables false
set_option linter.unusedSimpArgs false

def Quiet1 (W : World) (v : Value) (e : Ending) (w' : World) : Prop := e = .returned v ∧ Below W.heap.size W w'
section

variable (W : World) (f t i j : Int) (a : Option Addr) (n c : Nat)

theorem bag_nil : Calls Try.prog 33 #[.pointer none, .agg #[.int .i64 f, .int .i64 t]] W (Quiet1 W (.slice none 0 0)) := by
  go_enter Try.func33, Try.ntmps33
  go_wp2
  go_ret
  exact ⟨rfl, (Below.refl _ _).alloc (Nat.le_refl _) _⟩
theorem has_nil : Calls Try.prog 36 #[.slice none 0 0, .int .i64 i] W fun e w' => e = .returned (.bool false) ∧ W = w' :=
  (has_any none 0 0 i W).mono fun e w' ⟨h1, h2⟩ => ⟨by rw [h1]; congr 2; exact decide_eq_false (by omega), h2⟩
theorem take_nil : Calls Try.prog 20 #[.pointer none, .int .i64 f, .int .i64 t, .int .i64 i] W (Quiet1 W (.tuple #[.slice none 0 0, .bool false])) := by
  have B1 : Hid (Below W.heap.size W (W.alloc (.cells #[.int .i64 f, .int .i64 t] 42))) := (Below.refl _ _).alloc (Nat.le_refl _) _
  have cB := fun V => bag_nil V f t
  have cH := fun V => has_nil V i
  go_enter Try.func20, Try.ntmps20
  go_wp2_with (first | (go_at_call 33; ((with_reducible refine (cB _).mono ?_); rintro e w2 ⟨rfl, hb2⟩; have B2 := Lib.hid (B1.out.trans (hb2.mono B1.out.size)); clear hb2)) | (go_at_call 36; ((with_reducible refine (cH _).mono ?_); rintro e w3 ⟨rfl, rfl⟩)))
  go_ret2
  exact ⟨rfl, B2.out⟩
theorem send_nil : Calls Try.prog 18 #[.pointer none, .int .i64 f, .int .i64 t, .slice a n c] W (Quiet1 W (.bool false)) := by
  have B1 : Hid (Below W.heap.size W (W.alloc (.cells #[.int .i64 f, .int .i64 t] 42))) := (Below.refl _ _).alloc (Nat.le_refl _) _
  have cB := fun V => bag_nil V f t
  go_enter Try.func18, Try.ntmps18
  go_wp2_with (first | (go_at_call 33; ((with_reducible refine (cB _).mono ?_); rintro e w2 ⟨rfl, hb2⟩; have B2 := Lib.hid (B1.out.trans (hb2.mono B1.out.size)); clear hb2)))
  go_ret
  exact ⟨rfl, B2.out⟩
theorem double_nil : Calls Try.prog 19 #[.pointer none, .int .i64 f, .int .i64 t, .int .i64 i] W (Quiet1 W (.bool false)) := by
  have cB := fun V => bag_nil V f t
  have cH := fun V => has_nil V i
  go_enter Try.func19, Try.ntmps19
  go_wp2_with (first | (go_at_call 33; ((with_reducible refine (cB _).mono ?_); rintro e w2 ⟨rfl, hb2⟩; have B2 := Lib.hid hb2; clear hb2)) | (go_at_call 36; ((with_reducible refine (cH _).mono ?_); rintro e w3 ⟨rfl, rfl⟩)))
  go_ret
  exact ⟨rfl, B2.out⟩
theorem move_nil : Calls Try.prog 21 #[.pointer none, .int .i64 f, .int .i64 t, .int .i64 i, .int .i64 j] W (Quiet1 W (.bool false)) := by
  have B1 : Hid (Below W.heap.size W (W.alloc (.cells #[.int .i64 f, .int .i64 t] 42))) := (Below.refl _ _).alloc (Nat.le_refl _) _
  have cB := fun V => bag_nil V f t
  have cH := fun V => has_nil V i
  go_enter Try.func21, Try.ntmps21
  go_wp2_with (first | (go_at_call 33; ((with_reducible refine (cB _).mono ?_); rintro e w2 ⟨rfl, hb2⟩; have B2 := Lib.hid (B1.out.trans (hb2.mono B1.out.size)); clear hb2)) | (go_at_call 36; ((with_reducible refine (cH _).mono ?_); rintro e w3 ⟨rfl, rfl⟩)))
  go_ret
  exact ⟨rfl, B2.out⟩
theorem clear_nil : Calls Try.prog 22 #[.pointer none, .int .i64 t] W (Quiet1 W (.int .i64 0)) := by
  go_enter Try.func22, Try.ntmps22
  go_wp2
  go_ret
  exact ⟨rfl, Below.refl _ _⟩
theorem count_nil : Calls Try.prog 12 #[.pointer none] W (Quiet1 W (.int .i64 0)) := by
  go_enter Try.func12, Try.ntmps12
  go_wp2
  go_ret
  exact ⟨rfl, Below.refl _ _⟩
theorem links_nil : Calls Try.prog 13 #[.pointer none] W (Quiet1 W (.slice none 0 0)) := by
  go_enter Try.func13, Try.ntmps13
  go_wp2
  go_ret
  exact ⟨rfl, Below.refl _ _⟩
theorem bags_nil : Calls Try.prog 16 #[.pointer none, .int .i64 f, .int .i64 t] W (Quiet1 W (.slice none 0 0)) := by
  have cB := fun V => bag_nil V f t
  go_enter Try.func16, Try.ntmps16
  go_wp2_with (first | (go_at_call 33; ((with_reducible refine (cB _).mono ?_); rintro e w2 ⟨rfl, hb2⟩; have B2 := Lib.hid hb2; clear hb2)))
  refine wp_loop_rounds 1 ?_
  rw [rounds_succ]
  go_wp2
  go_ret
  exact ⟨rfl, B2.out⟩
end

theorem NetC.made (W : World) : NetC (W.alloc (.cells #[.map none] 62)) W.heap.size [] [W.heap.size] :=
  ⟨none, [], ⟨⟨heap_alloc_new _ _, rfl⟩, fun x hx => (by cases hx), .nil⟩, rfl, rfl⟩

set_option maxHeartbeats 1000000 in
theorem awake11_any (W : World) : Calls Try.prog 8 #[] W (Quiet1 W (.bool true)) := by
  have B1 : Hid (Below W.heap.size W (W.alloc (.cells #[.map none] 62))) := (Below.refl _ _).alloc (Nat.le_refl _) _
  have N1 := Lib.hid (NetC.made W)
  have cS := send_any _ W.heap.size [] [W.heap.size] 1 2 none 0 0 [] N1.out BAt.nil (by omega)
  go_enter Try.func8, Try.ntmps8
  go_wp2_with (first | (go_at_call 10; ((with_reducible refine (new_net _).mono ?_); rintro e w1 ⟨rfl, rfl⟩)) | (go_at_call 18; ((with_reducible refine cS.mono ?_); rintro e w2 ⟨rfl, own2, h2, hf2, ho2⟩; have N2 : Hid (NetC w2 W.heap.size [((1, 2), [[]])] own2) := h2; have B2 : Hid (Below W.heap.size W w2) := Fr.below B1.out hf2 B1.out.size (fun i hi => by simp at hi; omega); clear h2 hf2 ho2)) | (go_at_call 12; ((with_reducible refine (count_any _ _ _ _ N2.out (by decide)).mono ?_); rintro e w3 ⟨rfl, hb3⟩; have B3 := Lib.hid (B2.out.trans (hb3.mono B2.out.size)); clear hb3)))
  go_ret
  exact ⟨rfl, B3.out⟩
end Go.Proofs.Ytgdgjgcmglgfmaa
