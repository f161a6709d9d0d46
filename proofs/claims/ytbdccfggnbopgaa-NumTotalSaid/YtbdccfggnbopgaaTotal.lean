/- Proved: the statement NumTotal (P1.4) for every input: the order of layer num is a total one, and two numbers are alike in it just if their canonical bits are. No condition. -/
import Derived.Test.YtbdccfggnbopgaaRows
import Derived.Test.YtbdccfggnbopgaaOrd
import Derived.WalkKit
import Derived.ProofKit
import Derived.OpenShut
namespace Go.Proofs.Ytbdccfggnbopgaa.numTotal
open Go.ChangeShapes Go.WideShapes Go.ChangeAt Go.RowKit
set_option linter.unusedVariables false      -- a walk need not use every 'w<i>' (that an integer argument fits its kind)

theorem own : ownKnob Try.prog.godebug = none := by kernel_rfl

theorem canon_twice (n : Nat) : canonF (canonF n) = canonF n := by
  unfold canonF
  by_cases h : 9218868437227405312 < n % 9223372036854775808
  · rw [if_pos h]; rfl
  · rw [if_neg h, if_neg h]

theorem canon_key (a b : Nat) (ha : a < 18446744073709551616) (hb : b < 18446744073709551616) : canonF a = canonF b ↔ keyF a = keyF b := by
  unfold canonF keyF
  by_cases h : 9218868437227405312 < a % 9223372036854775808
  · rw [if_pos h, if_pos h]
    by_cases g : 9218868437227405312 < b % 9223372036854775808
    · rw [if_pos g, if_pos g]; simp
    · rw [if_neg g, if_neg g]; split <;> omega
  · rw [if_neg h, if_neg h]
    by_cases g : 9218868437227405312 < b % 9223372036854775808
    · rw [if_pos g, if_pos g]; split <;> omega
    · rw [if_neg g, if_neg g]; split <;> split <;> omega

theorem order_val (a b : Nat) : (keyF a < keyF b ∧ orderF a b = -1) ∨ (keyF a = keyF b ∧ orderF a b = 0) ∨ (keyF b < keyF a ∧ orderF a b = 1) := by
  unfold orderF cmpF
  rcases Nat.lt_trichotomy (keyF a) (keyF b) with h | h | h
  · rw [if_pos h]; exact .inl ⟨h, rfl⟩
  · rw [if_neg (by omega), if_neg (by omega)]; exact .inr (.inl ⟨h, rfl⟩)
  · rw [if_neg (by omega), if_pos h]; exact .inr (.inr ⟨h, rfl⟩)

set_option maxHeartbeats 2000000 in
theorem total_cases (a b c : Nat) (ha : a < 18446744073709551616) (hb : b < 18446744073709551616) (hc : c < 18446744073709551616) (w : World)
    (x y z u v : Int) (k : Bool) (h1 : orderF a b = x) (h2 : orderF b a = y) (h3 : orderF b c = z) (h4 : orderF a c = u) (h5 : orderF a a = v)
    (hk : (((canonF a : Nat) : Int) == ((canonF b : Nat) : Int)) = k) (ht : canonF (canonF a) = canonF a)
    (hx : v = 0 ∧ ((x = -1 ∧ y = 1 ∧ k = false ∧ (z = -1 ∧ u = -1 ∨ z = 0 ∧ u = -1 ∨ z = 1 ∧ (u = -1 ∨ u = 0 ∨ u = 1))) ∨ (x = 0 ∧ y = 0 ∧ k = true ∧ (z = -1 ∧ u = -1 ∨ z = 0 ∧ u = 0 ∨ z = 1 ∧ u = 1)) ∨ (x = 1 ∧ y = -1 ∧ k = false ∧ (z = -1 ∨ z = 0 ∨ z = 1) ∧ (u = -1 ∨ u = 0 ∨ u = 1)))) :
    Calls Try.prog 5 #[.int .u64 a, .int .u64 b, .int .u64 c] w fun e w' => e = .returned (.bool true) ∧ Grown w w' := by
  have hca := canonF_lt a ha
  obtain ⟨rfl, ⟨rfl, rfl, rfl, ⟨rfl, rfl⟩ | ⟨rfl, rfl⟩ | ⟨rfl, rfl | rfl | rfl⟩⟩ | ⟨rfl, rfl, rfl, ⟨rfl, rfl⟩ | ⟨rfl, rfl⟩ | ⟨rfl, rfl⟩⟩ | ⟨rfl, rfl, rfl, rfl | rfl | rfl, rfl | rfl | rfl⟩⟩ := hx
  all_goals
    go_enter Try.func5, Try.ntmps5
    go_wp2_with (first | (go_at_call 15; ((with_reducible refine (order_any _ _ (by first | exact ha | exact hb) (by first | exact ha | exact hb | exact hc) _).mono ?_); rintro e w' ⟨rfl, rfl⟩)) | (go_at_call 11; ((with_reducible refine (canon_any _ _).mono ?_); rintro e w' ⟨rfl, rfl⟩)) | (go_at_call 16; ((with_reducible refine (awake_any _).mono ?_); rintro e w' ⟨rfl, rfl⟩)))
    go_ret
    exact ⟨rfl, Grown.refl _⟩

theorem total_walk (a b c : Nat) (ha : a < 18446744073709551616) (hb : b < 18446744073709551616) (hc : c < 18446744073709551616) (w : World) :
    Calls Try.prog 5 #[.int .u64 a, .int .u64 b, .int .u64 c] w fun e w' => e = .returned (.bool true) ∧ Grown w w' := by
  refine total_cases a b c ha hb hc w _ _ _ _ _ _ rfl rfl rfl rfl rfl rfl (canon_twice a) ?_
  have k : (((canonF a : Nat) : Int) == ((canonF b : Nat) : Int)) = decide (keyF a = keyF b) := by
    rw [Bool.eq_iff_iff, beq_iff_eq, decide_eq_true_iff, Int.natCast_inj]; exact canon_key a b ha hb
  rw [k]
  have e1 := order_val a b
  have e2 := order_val b a
  have e3 := order_val b c
  have e4 := order_val a c
  have e5 := order_val a a
  by_cases q : keyF a = keyF b
  · rw [decide_eq_true q]; simp; omega
  · rw [decide_eq_false q]; simp; omega

/-! ### STEP 1: THE WALK: the Go text returns true. 'Grown w w'': the world has at most new blocks (Derived/RowKit3.lean). Part the cases AHEAD of 'go_enter' where a test parts the walk; take each callee by a contract of your own. -/
theorem walk (a0 : Int) (a1 : Int) (a2 : Int) (w0 : (Lit.int .u64 a0).wf = true) (w1 : (Lit.int .u64 a1).wf = true) (w2 : (Lit.int .u64 a2).wf = true) (w : World) :
    Calls Try.prog 5 #[.int .u64 a0, .int .u64 a1, .int .u64 a2] w fun e w' => e = .returned (.bool true) ∧ Grown w w' := by
  obtain ⟨a, rfl, ha⟩ := nat_of w0
  obtain ⟨b, rfl, hb⟩ := nat_of w1
  obtain ⟨c, rfl, hc⟩ := nat_of w2
  exact total_walk a b c ha hb hc w

/-! ### THE ROW's STEP: WRITTEN OUT: LEAVE IT -/
set_option maxRecDepth 100000 in
theorem lifted (os : Os) (started : os.Started) (H : Type) (enc : TypeId × Value → H) :
    ReturnsInHanded {} Try.checked os 5 .any (Rows.numTotalSpec.pre6 enc Try.prog Try.f5 Rows.numTotalRow.domain false) (Rows.numTotalSpec.post enc Try.prog Try.f5 false true false false) := by
  refine returnsInHanded_of_change (C := Try.checked) own started (by kernel_rfl) Try.func5
    (ChangeSpec.witness6 (enc := enc) (C := Try.checked) false ⟨#[], #[.int .u64 0, .int .u64 0, .int .u64 0], []⟩ 8 (by kernel_rfl) (by kernel_rfl) (by kernel_rfl) (by kernel_rfl)) ?_
  intro W base args ds gs before hval0 hW hcnd _
  have hval : ∀ (j : Nat) t v, Try.f5.params[j]? = some t → args[j]? = some v → Value.okWide Try.prog W .any base t v := hval0
  have hW' := hW
  obtain ⟨p, q, hA0, hV, rfl, hfz, hnd⟩ := hW
  have hA : DataW.TrodAll enc Try.prog W 0 (fun _ => true) true Try.f5.params.toList args.toList ds p := hA0
  rw [Try.params5] at hA hval
  obtain ⟨v0, vs0, d0, ds0, p0, q0, hargs, rfl, rfl, h0, r0⟩ := trodAll_cons hA
  obtain ⟨v1, vs1, d1, ds1, p1, q1, rfl, rfl, rfl, h1, r1⟩ := trodAll_cons r0
  obtain ⟨v2, vs2, d2, ds2, p2, q2, rfl, rfl, rfl, h2, r2⟩ := trodAll_cons r1
  obtain ⟨rfl, rfl, rfl⟩ := trodAll_nil r2
  obtain rfl : args = #[v0, v1, v2] := by cases args; simp_all
  obtain ⟨rfl, rfl⟩ := trodVars_none hV
  obtain ⟨a0, rfl, rfl, rfl, w0⟩ := open_int Try.underlying22 (hval 0 22 v0 rfl rfl) h0
  obtain ⟨a1, rfl, rfl, rfl, w1⟩ := open_int Try.underlying22 (hval 1 22 v1 rfl rfl) h1
  obtain ⟨a2, rfl, rfl, rfl, w2⟩ := open_int Try.underlying22 (hval 2 22 v2 rfl rfl) h2
  clear hA0 hval0
  simp only [List.append_nil] at hW'
  refine (walk a0 a1 a2 w0 w1 w2 W).mono fun e W' ⟨he, hg⟩ => ?_
  subst he
  exact ⟨_, rfl, post_of_same (pa := []) (pv := []) hW' (fun _ _ _ => (trodAll_cons_mk (shut_bool Try.underlying4 _) trodAll_mk0)) (fun sp _ => (trodAll_cons_mk (shut_int Try.underlying22 w0) (trodAll_cons_mk (shut_int Try.underlying22 w1) (trodAll_cons_mk (shut_int Try.underlying22 w2) trodAll_mk0)))) (fun _ _ => rfl) rfl
    (hg.frame _) hg.2.1 (ok_one (by kernel_rfl) rfl (okWide_bool_mk Try.underlying4 _))⟩

theorem over : Rows.numTotalRow.holds Try.pinned (OpenSpec.ofChange Rows.numTotalSpec) :=
  OpenClaim.holds_of_wide 5 Try.f5 rfl rfl rfl rfl rfl rfl rfl ⟨rfl, rfl, rfl, rfl, rfl⟩ rfl rfl rfl rfl rfl (by kernel_rfl) Try.func5 (by kernel_rfl)
    (of_decide_eq_true (by kernel_rfl)) (by unfold Func.isWrapper; first | (rw [if_pos (by decide +kernel)]; kernel_rfl) | (rw [if_neg (by decide +kernel)]; exact ⟨rfl, rfl⟩))
    (fun os started H enc _ => lifted os started H enc)

/-- ████ THE STATEMENT ████ -/
theorem proved : Rows.NumTotalSaid :=
  over
#print axioms proved
end Go.Proofs.Ytbdccfggnbopgaa.numTotal
