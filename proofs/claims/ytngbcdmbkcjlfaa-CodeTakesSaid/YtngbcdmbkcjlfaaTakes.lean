/- Proved: the statement CodeTakes (P2.2) for every input: whatever is taken of whatever bytes is answered as the chapter says. No condition. -/
import Derived.Test.YtngbcdmbkcjlfaaRows
import Derived.WalkKit
import Derived.ProofKit
import Derived.OpenShut
import Derived.ShutString
import Derived.ChangeOld
import Derived.Below
import Derived.Test.YtngbcdmbkcjlfaaTakesWalk
import Derived.Test.YtngbcdmbkcjlfaaOpenRows
namespace Go.Proofs.Ytngbcdmbkcjlfaa.codeTakes
open Go.ChangeShapes Go.WideShapes Go.ChangeAt Go.RowKit
open Go.ChangeMaps (open_string shut_string)
set_option linter.unusedVariables false

theorem own : ownKnob Try.prog.godebug = none := by kernel_rfl
theorem laidOut : laidOutB Try.prog = true := by kernel_rfl

theorem open_ops {H : Type} {enc : TypeId × Value → H} {w : World} {base b0 : Nat} {r : Reach} {spare : Nat → Bool} {held : Bool} {v : Value} {d : DataW H} {p : List MemPlace}
    (hv : Value.okWide Try.prog w r b0 30 v) (h : DataW.Trod enc Try.prog w base spare held 30 v d p) : ∃ a n c T N, v = .slice a n c ∧ OpsAt w w.heap.size a n T N ∧ n ≤ maxLen := by
  obtain ⟨a, n, c, rfl, h1, h2, hr⟩ := open_rows Try.underlying30 Try.underlying37 (by kernel_rfl) (by kernel_rfl) hv h (by decide)
  rcases hr with h0 | ⟨b, off, rfl, hb, hc⟩
  · exact ⟨_, _, _, fun _ => false, fun _ => 0, rfl, .inl h0, by omega⟩
  · have hT : ∀ i, ∃ x : Bool, i < n → w.cell? ⟨b, off + i * 2, none⟩ = some (.bool x) := by
      intro i
      by_cases hi : i < n
      · obtain ⟨u, k, y, hu, ht⟩ := hc i hi 0 _ rfl
        obtain ⟨x, hx, _⟩ := DataW.trod_bool Try.underlying4 ht
        simp at hx; subst hx
        exact ⟨x, fun _ => by simpa using hu⟩
      · exact ⟨false, fun h => absurd h hi⟩
    have hN : ∀ i, ∃ x : Int, i < n → w.cell? ⟨b, off + i * 2 + 1, none⟩ = some (.int .i64 x) := by
      intro i
      by_cases hi : i < n
      · obtain ⟨u, k, y, hu, ht⟩ := hc i hi 1 _ rfl
        obtain ⟨x, hx, _⟩ := DataW.trod_int Try.underlying3 ht
        simp at hx; subst hx
        exact ⟨x, fun _ => by simpa [Nat.add_assoc] using hu⟩
      · exact ⟨0, fun h => absurd h hi⟩
    exact ⟨_, _, _, fun i => Classical.choose (hT i), fun i => Classical.choose (hN i), rfl, .inr ⟨b, off, rfl, hb, fun i hi => ⟨Classical.choose_spec (hT i) hi, Classical.choose_spec (hN i) hi⟩⟩, by omega⟩

set_option maxRecDepth 100000 in
theorem lifted (os : Os) (started : os.Started) (H : Type) (enc : TypeId × Value → H) :
    ReturnsInHanded {} Try.checked os 4 .any (Rows.codeTakesSpec.pre6 enc Try.prog Try.f4 Rows.codeTakesRow.domain false) (Rows.codeTakesSpec.post enc Try.prog Try.f4 false true false false) := by
  refine returnsInHanded_of_change (C := Try.checked) own started (by kernel_rfl) Try.func4
    (ChangeSpec.witness6 (enc := enc) (C := Try.checked) false ⟨#[], #[.slice none 0 0, .slice none 0 0], []⟩ 8 (by kernel_rfl) (by kernel_rfl) (by kernel_rfl) (by kernel_rfl)) ?_
  intro W base args ds gs before hval0 hW hcnd _
  have hval : ∀ (j : Nat) t v, Try.f4.params[j]? = some t → args[j]? = some v → Value.okWide Try.prog W .any base t v := hval0
  have hW' := hW
  obtain ⟨p, q, hA0, hV, rfl, hfz, hnd⟩ := hW
  have hA : DataW.TrodAll enc Try.prog W 0 (fun _ => true) true Try.f4.params.toList args.toList ds p := hA0
  rw [Try.params4] at hA hval
  obtain ⟨v0, vs0, d0, ds0, p0, q0, hargs, rfl, rfl, h0, r0⟩ := trodAll_cons hA
  obtain ⟨v1, vs1, d1, ds1, p1, q1, rfl, rfl, rfl, h1, r1⟩ := trodAll_cons r0
  obtain ⟨rfl, rfl, rfl⟩ := trodAll_nil r1
  obtain rfl : args = #[v0, v1] := by cases args; simp_all
  obtain ⟨rfl, rfl⟩ := trodVars_none hV
  have o0 := hval 0 22 v0 rfl rfl
  have lt0 : ∀ x ∈ p0, x.block < W.heap.size := by obtain ⟨m, hm⟩ := h0; exact DataW.trod_lt m _ _ _ hm
  have o1 := hval 1 30 v1 rfl rfl
  have lt1 : ∀ x ∈ p1, x.block < W.heap.size := by obtain ⟨m, hm⟩ := h1; exact DataW.trod_lt m _ _ _ hm
  clear hA0 hval0 hval
  obtain ⟨a, m, c, l, rfl, hl, hmc, hcm⟩ := open_bytes Try.underlying22 Try.underlying5 (by kernel_rfl) o0 h0
  obtain ⟨a2, n, c2, T, F, rfl, hops, hn⟩ := open_ops o1 h1
  refine (takes_walk a a2 m c n c2 l T F W hl hmc hcm hops hn).mono fun e W' ⟨he, bel⟩ => ?_
  subst he
  exact ⟨_, rfl, _, _, _, [], _, [], hW', trodAll_mk1 (shut_bool Try.underlying4 _), (trodAll_cons_mk (Below.trod laidOut (by kernel_rfl) (of_decide_eq_true (by kernel_rfl)) h0 bel lt0) (trodAll_cons_mk (Below.trod laidOut (by kernel_rfl) (of_decide_eq_true (by kernel_rfl)) h1 bel lt1) trodAll_mk0)), rfl, bel.frame _, fun h => by cases h⟩

theorem over : Rows.codeTakesRow.holds Try.pinned (OpenSpec.ofChange Rows.codeTakesSpec) :=
  OpenClaim.holds_of_wide 4 Try.f4 rfl rfl rfl rfl rfl rfl rfl ⟨rfl, rfl, rfl, rfl, rfl⟩ rfl rfl rfl rfl rfl (by kernel_rfl) Try.func4 (by kernel_rfl)
    (of_decide_eq_true (by kernel_rfl)) (by unfold Func.isWrapper; first | (rw [if_pos (by decide +kernel)]; kernel_rfl) | (rw [if_neg (by decide +kernel)]; exact ⟨rfl, rfl⟩))
    (fun os started H enc _ => lifted os started H enc)

/-- The statement. -/
theorem proved : Rows.CodeTakesSaid := over
#print axioms proved
end Go.Proofs.Ytngbcdmbkcjlfaa.codeTakes
