/- Proved: the statement CodeBack (P2.3) for every input: what is put, field by field, is taken as it was, to the end. No condition. -/
import Derived.Test.YtngbcdmbkcjlfaaRows
import Derived.WalkKit
import Derived.ProofKit
import Derived.OpenShut
import Derived.ShutString
import Derived.ChangeOld
import Derived.Below
import Derived.Test.YtngbcdmbkcjlfaaBackWalk
import Derived.Test.YtngbcdmbkcjlfaaOpenRows
namespace Go.Proofs.Ytngbcdmbkcjlfaa.codeBack
open Go.ChangeShapes Go.WideShapes Go.ChangeAt Go.RowKit
open Go.ChangeMaps (open_string shut_string)
set_option linter.unusedVariables false

theorem own : ownKnob Try.prog.godebug = none := by kernel_rfl
theorem laidOut : laidOutB Try.prog = true := by kernel_rfl

theorem open_fields {H : Type} {enc : TypeId × Value → H} {w : World} {base b0 : Nat} {r : Reach} {spare : Nat → Bool} {held : Bool} {v : Value} {d : DataW H} {p : List MemPlace}
    (hv : Value.okWide Try.prog w r b0 42 v) (h : DataW.Trod enc Try.prog w base spare held 42 v d p) : ∃ a n c T X N S, v = .slice a n c ∧ FieldsAt w w.heap.size a n T X N S ∧ n ≤ maxLen := by
  obtain ⟨a, n, c, rfl, h1, h2, hr⟩ := open_rows Try.underlying42 Try.underlying44 (by kernel_rfl) (by kernel_rfl) hv h (by decide)
  rcases hr with h0 | ⟨b, off, rfl, hb, hc⟩
  · exact ⟨_, _, _, fun _ => false, fun _ => 0, fun _ => 0, fun _ => ⟨#[]⟩, rfl, .inl h0, by omega⟩
  · have hT : ∀ i, ∃ x : Bool, i < n → w.cell? ⟨b, off + i * 4, none⟩ = some (.bool x) := by
      intro i
      by_cases hi : i < n
      · obtain ⟨u, k, y, hu, ht⟩ := hc i hi 0 _ rfl
        obtain ⟨x, hx, _⟩ := DataW.trod_bool Try.underlying4 ht
        simp at hx; subst hx
        exact ⟨x, fun _ => by simpa using hu⟩
      · exact ⟨false, fun h => absurd h hi⟩
    have hX : ∀ i, ∃ x : Nat, i < n → w.cell? ⟨b, off + i * 4 + 1, none⟩ = some (.int .u64 (x : Nat)) ∧ x < 18446744073709551616 := by
      intro i
      by_cases hi : i < n
      · obtain ⟨u, k, y, hu, ht⟩ := hc i hi 1 _ rfl
        obtain ⟨x, hx, _, wx⟩ := DataW.trod_int Try.underlying23 ht
        simp at hx; subst hx
        have bx : 0 ≤ x ∧ x < 18446744073709551616 := by simp [Lit.wf, IntKind.min, IntKind.max, IntKind.bits, IntKind.signed] at wx; omega
        obtain ⟨x, rfl⟩ := Int.eq_ofNat_of_zero_le bx.1
        exact ⟨x, fun _ => ⟨by simpa [Nat.add_assoc] using hu, by omega⟩⟩
      · exact ⟨0, fun h => absurd h hi⟩
    have hN : ∀ i, ∃ x : Int, i < n → w.cell? ⟨b, off + i * 4 + 2, none⟩ = some (.int .i64 x) := by
      intro i
      by_cases hi : i < n
      · obtain ⟨u, k, y, hu, ht⟩ := hc i hi 2 _ rfl
        obtain ⟨x, hx, _⟩ := DataW.trod_int Try.underlying3 ht
        simp at hx; subst hx
        exact ⟨x, fun _ => by simpa [Nat.add_assoc] using hu⟩
      · exact ⟨0, fun h => absurd h hi⟩
    have hS : ∀ i, ∃ x : ByteArray, i < n → w.cell? ⟨b, off + i * 4 + 3, none⟩ = some (.string x) ∧ x.size ≤ maxLen := by
      intro i
      by_cases hi : i < n
      · obtain ⟨u, k, y, hu, ht⟩ := hc i hi 3 _ rfl
        obtain ⟨x, hx, _, hz⟩ := DataW.trod_string Try.underlying9 ht
        simp at hx; subst hx
        exact ⟨x, fun _ => ⟨by simpa [Nat.add_assoc] using hu, hz⟩⟩
      · exact ⟨⟨#[]⟩, fun h => absurd h hi⟩
    exact ⟨_, _, _, fun i => Classical.choose (hT i), fun i => Classical.choose (hX i), fun i => Classical.choose (hN i), fun i => Classical.choose (hS i), rfl,
      .inr ⟨b, off, rfl, hb, fun i hi => ⟨⟨Classical.choose_spec (hT i) hi, (Classical.choose_spec (hX i) hi).1, Classical.choose_spec (hN i) hi, (Classical.choose_spec (hS i) hi).1⟩, (Classical.choose_spec (hX i) hi).2, (Classical.choose_spec (hS i) hi).2⟩⟩, by omega⟩

set_option maxRecDepth 100000 in
theorem lifted (os : Os) (started : os.Started) (H : Type) (enc : TypeId × Value → H) :
    ReturnsInHanded {} Try.checked os 5 .any (Rows.codeBackSpec.pre6 enc Try.prog Try.f5 Rows.codeBackRow.domain false) (Rows.codeBackSpec.post enc Try.prog Try.f5 false true false false) := by
  refine returnsInHanded_of_change (C := Try.checked) own started (by kernel_rfl) Try.func5
    (ChangeSpec.witness6 (enc := enc) (C := Try.checked) false ⟨#[], #[.slice none 0 0], []⟩ 8 (by kernel_rfl) (by kernel_rfl) (by kernel_rfl) (by kernel_rfl)) ?_
  intro W base args ds gs before hval0 hW hcnd _
  have hval : ∀ (j : Nat) t v, Try.f5.params[j]? = some t → args[j]? = some v → Value.okWide Try.prog W .any base t v := hval0
  have hW' := hW
  obtain ⟨p, q, hA0, hV, rfl, hfz, hnd⟩ := hW
  have hA : DataW.TrodAll enc Try.prog W 0 (fun _ => true) true Try.f5.params.toList args.toList ds p := hA0
  rw [Try.params5] at hA hval
  obtain ⟨v0, vs0, d0, ds0, p0, q0, hargs, rfl, rfl, h0, r0⟩ := trodAll_cons hA
  obtain ⟨rfl, rfl, rfl⟩ := trodAll_nil r0
  obtain rfl : args = #[v0] := by cases args; simp_all
  obtain ⟨rfl, rfl⟩ := trodVars_none hV
  have o0 := hval 0 42 v0 rfl rfl
  have lt0 : ∀ x ∈ p0, x.block < W.heap.size := by obtain ⟨m, hm⟩ := h0; exact DataW.trod_lt m _ _ _ hm
  clear hA0 hval0 hval
  obtain ⟨a, n, c, T, X, F, S, rfl, hops, hn⟩ := open_fields o0 h0
  refine (back_walk a n c T X F S W hops hn).mono fun e W' ⟨he, bel⟩ => ?_
  subst he
  exact ⟨_, rfl, _, _, _, [], _, [], hW', trodAll_mk1 (shut_bool Try.underlying4 _), (trodAll_cons_mk (Below.trod laidOut (by kernel_rfl) (of_decide_eq_true (by kernel_rfl)) h0 bel lt0) trodAll_mk0), rfl, bel.frame _, fun h => by cases h⟩

theorem over : Rows.codeBackRow.holds Try.pinned (OpenSpec.ofChange Rows.codeBackSpec) :=
  OpenClaim.holds_of_wide 5 Try.f5 rfl rfl rfl rfl rfl rfl rfl ⟨rfl, rfl, rfl, rfl, rfl⟩ rfl rfl rfl rfl rfl (by kernel_rfl) Try.func5 (by kernel_rfl)
    (of_decide_eq_true (by kernel_rfl)) (by unfold Func.isWrapper; first | (rw [if_pos (by decide +kernel)]; kernel_rfl) | (rw [if_neg (by decide +kernel)]; exact ⟨rfl, rfl⟩))
    (fun os started H enc _ => lifted os started H enc)

/-- The statement. -/
theorem proved : Rows.CodeBackSaid := over
#print axioms proved
end Go.Proofs.Ytngbcdmbkcjlfaa.codeBack
