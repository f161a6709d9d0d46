/- Contracts of cmp.Compare, cmp.Or and net's compare. No condition. -/
import Derived.Test.YtgdgjgcmglgfmaaNetCollect
import Derived.Sort.Grow
import Derived.Deep.RegionHeld3
import Derived.Lib.Small
import Derived.WalkLawsBesides
namespace Go.Proofs.Ytgdgjgcmglgfmaa

open Go.RowKit

set_option linter.unusedVariables false
set_option linter.unusedSimpArgs false

theorem cmpNaN_any (a : Int) (W : World) : Calls Try.prog 51 #[.int .i64 a] W fun e w' => e = .returned (.bool false) ∧ W = w' := by
  go_enter Try.func51, Try.ntmps51
  go_wp2
  go_ret
  exact ⟨by simp, rfl⟩
set_option maxHeartbeats 1000000 in
theorem cmpInt_any (a b : Int) (W : World) : Calls Try.prog 45 #[.int .i64 a, .int .i64 b] W fun e w' => e = .returned (.int .i64 (Lib.compareInt a b)) ∧ W = w' := by
  have cN := fun a => cmpNaN_any a W
  unfold Lib.compareInt
  rcases Int.lt_trichotomy a b with h | h | h
  · rw [if_pos h]
    go_enter Try.func45, Try.ntmps45
    go_wp2_with (go_at_call 51; ((with_reducible refine (cN _).mono ?_); rintro e w1 ⟨rfl, rfl⟩))
    go_ret
    exact ⟨rfl, rfl⟩
  · subst h
    rw [if_neg (by omega), if_neg (by omega)]
    go_enter Try.func45, Try.ntmps45
    go_wp2_with (go_at_call 51; ((with_reducible refine (cN _).mono ?_); rintro e w1 ⟨rfl, rfl⟩))
    go_ret
    exact ⟨rfl, rfl⟩
  · rw [if_neg (by omega), if_pos h]
    have h2 : ¬ a < b := by omega
    go_enter Try.func45, Try.ntmps45
    go_wp2_with (go_at_call 51; ((with_reducible refine (cN _).mono ?_); rintro e w1 ⟨rfl, rfl⟩))
    go_ret
    exact ⟨rfl, rfl⟩
/-- The first that is not 0. -/
def orI (a b : Int) : Int := if a = 0 then b else a
set_option maxHeartbeats 1000000 in
theorem cmpOr_any (a b : Int) (g : Nat) (W : World) (h : BoxC W g #[.int .i64 a, .int .i64 b] 3) : Calls Try.prog 44 #[.slice (some ⟨g, 0, none⟩) 2 2] W fun e w' => e = .returned (.int .i64 (orI a b)) ∧ W = w' := by
  have c0 := h.cell 0 _ rfl
  have c1 := h.cell 1 _ rfl
  clear h
  unfold orI
  by_cases ha : a = 0
  · subst ha
    by_cases hb : b = 0
    · subst hb
      go_enter Try.func44, Try.ntmps44
      go_wp2
      refine wp_loop_rounds 3 ?_
      iterate 3 (rw [rounds_succ]; go_wp2)
      go_ret
      exact ⟨rfl, rfl⟩
    · have hb0 : (b == 0) = false := by simp [hb]
      go_enter Try.func44, Try.ntmps44
      go_wp2
      refine wp_loop_rounds 3 ?_
      rw [rounds_succ]
      go_wp2
      rw [rounds_succ]
      go_wp2
      go_ret
      exact ⟨by simp, rfl⟩
  · have ha0 : (a == 0) = false := by simp [ha]
    rw [if_neg ha]
    go_enter Try.func44, Try.ntmps44
    go_wp2
    refine wp_loop_rounds 3 ?_
    rw [rounds_succ]
    go_wp2
    go_ret
    exact ⟨by simp, rfl⟩
/-- How two links compare. -/
def cmpL (x y : Lk) : Int := orI (Lib.compareInt x.1 y.1) (Lib.compareInt x.2 y.2)
set_option maxHeartbeats 2000000 in
theorem compare_any (x y : Lk) (W : World) : Calls Try.prog 31 #[.agg #[.int .i64 x.1, .int .i64 x.2], .agg #[.int .i64 y.1, .int .i64 y.2]] W fun e w' => e = .returned (.int .i64 (cmpL x y)) ∧ ∃ q os', w' = Sort.grow (W.drewN q) os' := by
  unfold cmpL
  have cC := fun a b W => cmpInt_any a b W
  go_enter Try.func31, Try.ntmps31
  go_upto_region 1 with fail
  obtain ⟨V, hV⟩ : ∃ V, ((W.alloc (.cells #[.int .i64 x.1, .int .i64 x.2] 42)).alloc (.cells #[.int .i64 y.1, .int .i64 y.2] 42)) = V := ⟨_, rfl⟩
  have hG : ∃ os, V = Sort.grow W os := ⟨_, by rw [← hV, Sort.alloc_eq_grow, Sort.alloc_eq_grow, Sort.grow_grow]⟩
  have x0 := BoxC.new W #[.int .i64 x.1, .int .i64 x.2] 42
  have x1 : BoxC V W.heap.size #[.int .i64 x.1, .int .i64 x.2] 42 := by rw [← hV]; exact x0.below ((Below.refl _ _).alloc (Nat.le_refl _) _)
  have y1 : BoxC V (W.heap.size + 1) #[.int .i64 y.1, .int .i64 y.2] 42 := by
    have h := BoxC.new (W.alloc (.cells #[.int .i64 x.1, .int .i64 x.2] 42)) #[.int .i64 y.1, .int .i64 y.2] 42
    rw [← hV]
    simpa using h
  have s0 : V.drew.cell? ⟨W.heap.size, 0, none⟩ = some (.int .i64 x.1) ∧ V.drew.cell? ⟨W.heap.size, 1, none⟩ = some (.int .i64 x.2) ∧ V.drew.cell? ⟨W.heap.size + 1, 0, none⟩ = some (.int .i64 y.1) ∧ V.drew.cell? ⟨W.heap.size + 1, 1, none⟩ = some (.int .i64 y.2) :=
    ⟨x1.cell 0 _ rfl, x1.cell 1 _ rfl, y1.cell 0 _ rfl, y1.cell 1 _ rfl⟩
  have s1 : ∀ o, (V.alloc o).drew.cell? ⟨W.heap.size, 0, none⟩ = some (.int .i64 x.1) ∧ (V.alloc o).drew.cell? ⟨W.heap.size, 1, none⟩ = some (.int .i64 x.2) ∧ (V.alloc o).drew.cell? ⟨W.heap.size + 1, 0, none⟩ = some (.int .i64 y.1) ∧ (V.alloc o).drew.cell? ⟨W.heap.size + 1, 1, none⟩ = some (.int .i64 y.2) := fun o =>
    have hb := (Below.refl V.heap.size V).alloc (Nat.le_refl _) o
    ⟨(x1.below hb).cell 0 _ rfl, (x1.below hb).cell 1 _ rfl, (y1.below hb).cell 0 _ rfl, (y1.below hb).cell 1 _ rfl⟩
  rw [hV]
  have GG := Lib.hid hG
  clear hV x0 x1 y1 hG
  have cO : ∀ a b, Calls Try.prog 44 #[.slice (some ⟨V.heap.size, 0, none⟩) 2 2] (V.alloc (.cells #[.int .i64 a, .int .i64 b] 3)).drew fun e w' => e = .returned (.int .i64 (orI a b)) ∧ (V.alloc (.cells #[.int .i64 a, .int .i64 b] 3)).drew = w' := fun a b => cmpOr_any a b V.heap.size _ (BoxC.new V _ _)
  go_region_held3 (fun w' => w'.cell? ⟨W.heap.size, 0, none⟩ = some (.int .i64 x.1) ∧ w'.cell? ⟨W.heap.size, 1, none⟩ = some (.int .i64 x.2) ∧ w'.cell? ⟨W.heap.size + 1, 0, none⟩ = some (.int .i64 y.1) ∧ w'.cell? ⟨W.heap.size + 1, 1, none⟩ = some (.int .i64 y.2)) (first | (with_reducible exact s0) | (with_reducible exact s1 _))
    (first | (go_at_call 45; ((with_reducible refine (cC _ _ _).mono ?_); rintro e w1 ⟨rfl, rfl⟩)) | (go_at_call 44; ((with_reducible refine (cO _ _).mono ?_); rintro e w1 ⟨rfl, rfl⟩)))
  go_wp2
  go_ret
  obtain ⟨os, rfl⟩ := GG.out
  refine ⟨rfl, 1, _, by rw [Sort.alloc_eq_grow, Sort.drew_grow, Sort.drew_grow, Sort.grow_grow]; rfl⟩
end Go.Proofs.Ytgdgjgcmglgfmaa
