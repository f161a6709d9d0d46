/- Rows of the law's own beside its disk: appended to, made; the law's begins. No condition. -/
import Derived.Test.YtclfgkeepmdmjaaDiskLaw

import Derived.Test.YtclfgkeepmdmjaaCodeSame

namespace Go.Proofs.Ytclfgkeepmdmjaa

open Go.RowKit

set_option linter.unusedVariables false
set_option linter.unusedSimpArgs false

section

variable {W V V' : World} {g : Nat} {d : Dk} {R : Rws} {v v' : Value} {x y : List UInt8}

theorem LawD.nilrow (h : LawD W V g d R) : LawD W V g d ((.slice none 0 0, []) :: R) := by
  obtain ⟨own, h1, h2, h3, h4⟩ := h
  refine ⟨own, h1, h2, h3, fun r hr => ?_⟩
  rcases List.mem_cons.1 hr with rfl | hr
  · exact ⟨OwnB.nil _, fun j hj => by cases hj⟩
  · exact h4 r hr
theorem LawD.swap {r s : Value × List UInt8} (h : LawD W V g d (r :: s :: R)) : LawD W V g d (s :: r :: R) := by
  obtain ⟨own, h1, h2, h3, h4⟩ := h
  refine ⟨own, h1, h2, h3, fun t ht => h4 t ?_⟩
  simp at ht ⊢
  rcases ht with h | h | h <;> simp [h]
theorem LawD.tail {r : Value × List UInt8} (h : LawD W V g d (r :: R)) : LawD W V g d R := by
  obtain ⟨own, h1, h2, h3, h4⟩ := h
  exact ⟨own, h1, h2, h3, fun t ht => h4 t (List.mem_cons_of_mem _ ht)⟩
/-- The first row is appended to. -/
theorem LawD.grow (h : LawD W V g d ((v, x) :: R)) (hfar : ∀ r ∈ R, Far v r.1) (ho : OwnB V' v' y) (hg : V.grownBy V' v.ownBlock) (hat : v'.ownBlock = v.ownBlock ∨ v'.ownBlock = some V.heap.size) :
    LawD W V' g d ((v', y) :: R) ∧ ∀ r ∈ R, Far v' r.1 := by
  obtain ⟨own, h1, h2, h3, h4⟩ := h
  have hv := h4 _ (List.mem_cons_self ..)
  refine ⟨⟨own, h1.kept fun j hj hlt => hg.block j hlt fun e => (hv.2 j e.symm).2 hj, ?_, h3, fun r hr => ?_⟩, fun r hr => ?_⟩
  · exact (Fr.grown hg).below h2 h2.size fun i hi => (hv.2 i (bk_mem.1 hi)).1
  · rcases List.mem_cons.1 hr with rfl | hr
    · refine ⟨ho, fun j hj => ?_⟩
      rcases hat with e | e
      · exact hv.2 j (e ▸ hj)
      · rw [hj] at e; injection e with e
        refine ⟨by rw [e]; exact h2.size, fun e2 => by have := h1.lt j e2; omega⟩
    · obtain ⟨k1, k2⟩ := h4 r (List.mem_cons_of_mem _ hr)
      exact ⟨k1.fr (Fr.grown hg) fun j hj e => hfar r hr j (bk_mem.1 e) hj, k2⟩
  · exact (hfar r hr).grown (h4 r (List.mem_cons_of_mem _ hr)).1 hat
end

theorem begins_any (a a' : Option Addr) (n n' c c' B B' : Nat) (l l' : List UInt8) (w : World) (h : BAt w B a n l) (h' : BAt w B' a' n' l') (hp : l'.take n = l) (hnn : n ≤ n') (hc' : n' ≤ c') (hcm : c' ≤ maxLen) :
    Calls Try.prog 21 #[.slice a n c, .slice a' n' c'] w (Reads1 w (.bool true)) := by
  have hm : n' ≤ maxLen := by omega
  have ht := h'.take hnn
  rw [hp] at ht
  have cS := same_any a a' n n c c' B B' l l w h ht (by omega) (by omega)
  rw [decide_eq_true rfl] at cS
  have hd : decide (n ≤ n') = true := decide_eq_true hnn
  clear h h' hp ht
  go_enter Try.func21, Try.ntmps21
  go_wp2_with (go_at_call 15; ((with_reducible refine cS.mono ?_); rintro e w1 ⟨rfl, q, rfl⟩))
  go_ret
  exact ⟨rfl, q, rfl⟩
end Go.Proofs.Ytclfgkeepmdmjaa
