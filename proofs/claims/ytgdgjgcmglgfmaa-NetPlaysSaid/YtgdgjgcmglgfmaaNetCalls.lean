/- Contracts of net.New, of its bag, has and keep. Conditions: the net lies in memory. -/
import Derived.Test.YtgdgjgcmglgfmaaNetMap
import Derived.Test.YtgdgjgcmglgfmaaCodeNew
import Derived.Test.YtgdgjgcmglgfmaaBox
import Derived.Deep.QuietTactic
import Derived.BigQuiet
namespace Go.Proofs.Ytgdgjgcmglgfmaa

open Go.RowKit

open Go.ChangeMaps (setBlock)

set_option linter.unusedVariables false
set_option linter.unusedSimpArgs false

/-- Nothing but what is named has turned. -/
structure Fr (W W' : World) (own : List Nat) : Prop where
  os : W'.os = W.os
  tape : W'.tape = W.tape
  output : W'.output = W.output
  size : W.heap.size ≤ W'.heap.size
  block : ∀ i, i < W.heap.size → i ∉ own → W'.heap[i]? = W.heap[i]?
/-- The net in block g; its map's block, or none yet. -/
def Heads (W : World) (g : Nat) (m : Option Nat) (hs : Hd) : Prop :=
  W.heap[g]? = some (.cells #[.map m] 62 (0, 0)) ∧ (match m with | none => hs = [] | some b => b ≠ g ∧ MapAt W b hs)
theorem Fr.of_below {W W' : World} {own : List Nat} (h : Below W.heap.size W W') : Fr W W' own := ⟨h.os, h.tape, h.output, h.size, fun i hi _ => h.block i hi⟩
theorem Heads.moved {W W' : World} {g : Nat} {m : Option Nat} {hs : Hd} (h : Heads W g m hs) (hk : ∀ i, i < W.heap.size → i = g ∨ m = some i → W'.heap[i]? = W.heap[i]?) : Heads W' g m hs := by
  refine ⟨(hk g (lt_of_heap h.1) (.inl rfl)).trans h.1, ?_⟩
  cases m with
  | none => exact h.2
  | some b =>
    obtain ⟨hne, es, c, hb, h1⟩ := h.2
    exact ⟨hne, es, c, (hk b (lt_of_heap hb) (.inr rfl)).trans hb, h1⟩
theorem Heads.below {W W' : World} {g : Nat} {m : Option Nat} {hs : Hd} (h : Heads W g m hs) (hb : Below W.heap.size W W') : Heads W' g m hs := h.moved fun i hi _ => hb.block i hi
theorem Heads.look {W : World} {g : Nat} {m : Option Nat} {hs : Hd} (h : Heads W g m hs) (f t : Int) : (Instr.lookup 60 (.map m) (.agg #[.int .i64 f, .int .i64 t]) false).run Try.prog W = .ok (getV hs (f, t)) W := by
  cases m with
  | some b => exact run_look h.2.2 (f, t)
  | none =>
    obtain rfl : hs = [] := h.2
    have hc : (Instr.checkKey true 10000 42 (.agg #[.int .i64 f, .int .i64 t])).run Try.prog W = .ok () W := check_link true (f, t) W
    rcases find_all (f, t) [] (fun e he => by cases he) with ⟨h1, _⟩ | ⟨j, e, _, h2, _⟩
    · have hf : (Instr.findKey 42 (.agg #[.int .i64 f, .int .i64 t]) []).run Try.prog W = .ok none W := h1 W
      simp only [Instr.lookup, Sem.run_bind, run_underlying Try.underlying60, Result.andThen_ok, Sem.run_pure, Array.isEmpty_empty, hc, hf]
      go_simp
      rfl
    · cases h2

set_option maxHeartbeats 1000000 in
theorem bag_any (g : Nat) (m : Option Nat) (hs : Hd) (f t : Int) (W : World) (h : Heads W g m hs) :
    Calls Try.prog 33 #[.pointer (some ⟨g, 0, none⟩), .agg #[.int .i64 f, .int .i64 t]] W fun e w' => e = .returned (getV hs (f, t)) ∧ Below W.heap.size W w' := by
  have B1 : Below W.heap.size W (W.alloc (.cells #[.int .i64 f, .int .i64 t] 42)) := (Below.refl _ _).alloc (Nat.le_refl _) _
  have hg0 : g < W.heap.size := lt_of_heap h.1
  have HL := Lib.hid (fun n : Nat => (h.below (B1.trans (below_drewN n (Below.refl _ _)))).look f t)
  have hc : ∀ n : Nat, ((W.alloc (.cells #[.int .i64 f, .int .i64 t] 42)).drewN n).cell? ⟨g, 0, none⟩ = some (.map m) := fun n => by
    have h1 : BoxC ((W.alloc (.cells #[.int .i64 f, .int .i64 t] 42)).drewN n) g #[.map m] 62 := (h.below (B1.trans (below_drewN n (Below.refl _ _)))).1
    exact h1.cell 0 _ rfl
  have hl := fun n => HL.out n
  go_enter Try.func33, Try.ntmps33
  go_wp2
  go_quiet (fail)
  go_wp2
  go_ret
  exact ⟨rfl, B1.trans (below_drewN _ (Below.refl _ _))⟩

theorem has_any (a : Option Addr) (n c : Nat) (i : Int) (W : World) :
    Calls Try.prog 36 #[.slice a n c, .int .i64 i] W fun e w' => e = .returned (.bool (decide (0 ≤ i ∧ i < n))) ∧ W = w' := by
  by_cases h : 0 ≤ i
  · have h1 : (decide (0 ≤ i) : Bool) = true := decide_eq_true h
    have e : decide (0 ≤ i ∧ i < n) = decide (i < n) := by simp [h]
    rw [e]
    go_enter Try.func36, Try.ntmps36
    go_wp2
    go_ret
    exact ⟨rfl, rfl⟩
  · have h1 : (decide (0 ≤ i) : Bool) = false := decide_eq_false h
    have e : decide (0 ≤ i ∧ i < n) = false := by simp [h]
    rw [e]
    go_enter Try.func36, Try.ntmps36
    go_wp2
    go_ret
    exact ⟨rfl, rfl⟩

theorem new_net (W : World) :
    Calls Try.prog 10 #[] W fun e w' => e = .returned (.pointer (some ⟨W.heap.size, 0, none⟩)) ∧ w' = W.alloc (.cells #[.map none] 62) := by
  go_enter Try.func10, Try.ntmps10
  go_wp2
  go_ret
  exact ⟨rfl, rfl⟩

/-- What keep leaves. -/
structure KeptP (W W' : World) (g : Nat) (m m' : Option Nat) (hs hs' : Hd) : Prop where
  hd : Heads W' g m' hs'
  fr : Fr W W' (g :: m.toList)
  at_ : m' = m ∨ ∃ b, m' = some b ∧ W.heap.size ≤ b
/-- What the map holds then. -/
def keepV (hs : Hd) (k : Lk) (n : Nat) (v : Value) : Hd := if n = 0 then delV hs k else putV hs k v

theorem mapEq_gen (n : Nat) (m : Option Nat) (w : World) : (Op.equalIn (n + 1) 60 (.map m) (.map none)).run Try.prog w = .ok m.isNone w := by
  rw [Op.equalIn]
  simp only [Sem.run_bind, run_underlying Try.underlying60, Result.andThen_ok]
  cases m <;> rfl
theorem mapEq_any (m : Option Nat) (w : World) : (binOp .eql 60 (.map m) (.map none)).run Try.prog w = .ok (.bool m.isNone) w := by
  have h : (Op.equal 60 (.map m) (.map none)).run Try.prog w = .ok m.isNone w := mapEq_gen 9999 m w
  simp only [binOp, Sem.run_bind, h, Result.andThen_ok]
  rfl
theorem drop_nil (k : Lk) (ty : TypeId) (V : World) : (Builtin.delete_ #[60, 42] ty #[.map none, keyV k]).run Try.prog V = .ok (.tuple #[]) V := by
  simp [Builtin.delete_, run_underlying Try.underlying60, check_link, Result.andThen]

theorem KeptP.turned {W V : World} {g b : Nat} {hs hs' : Hd} {o : Obj} (hB : Below W.heap.size W V) (h : Heads W g (some b) hs) (hm : MapAt (setBlock V b o) b hs') : KeptP W (setBlock V b o) g (some b) (some b) hs hs' := by
  have hV := h.below hB
  refine ⟨⟨(setBlock_ne (Ne.symm hV.2.1)).trans hV.1, hV.2.1, hm⟩, ⟨hB.os, hB.tape, hB.output, by rw [setBlock_size]; exact hB.size, fun i hi hn => (setBlock_ne fun e => hn (by simp [e])).trans (hB.block i hi)⟩, .inl rfl⟩
theorem KeptP.made {W V : World} {g : Nat} {hs hs' : Hd} {o : Obj} (h : Heads W g none hs) (hV : V.heap[g]? = some (.cells #[.map (some (W.heap.size + 1))] 62 (0, 0))) (hF : Fr W V [g]) (hm : MapAt (setBlock V (W.heap.size + 1) o) (W.heap.size + 1) hs') : KeptP W (setBlock V (W.heap.size + 1) o) g none (some (W.heap.size + 1)) hs hs' := by
  have hg := lt_of_heap h.1
  refine ⟨⟨(setBlock_ne (by omega)).trans hV, by omega, hm⟩, ⟨hF.os, hF.tape, hF.output, by rw [setBlock_size]; exact hF.size, fun i hi hn => (setBlock_ne (by omega)).trans (hF.block i hi (by simpa using hn))⟩, .inr ⟨_, rfl, by omega⟩⟩

set_option maxRecDepth 100000 in
set_option maxHeartbeats 1000000 in
theorem keep_any (g : Nat) (m : Option Nat) (hs : Hd) (f t : Int) (a : Option Addr) (n c : Nat) (W : World) (h : Heads W g m hs) :
    Calls Try.prog 35 #[.pointer (some ⟨g, 0, none⟩), .agg #[.int .i64 f, .int .i64 t], .slice a n c] W fun e w' => e = .returned (.tuple #[]) ∧ ∃ m', KeptP W w' g m m' hs (keepV hs (f, t) n (.slice a n c)) := by
  have B1 : Below W.heap.size W (W.alloc (.cells #[.int .i64 f, .int .i64 t] 42)) := (Below.refl _ _).alloc (Nat.le_refl _) _
  have B2 : Below W.heap.size W (W.alloc (.cells #[.int .i64 f, .int .i64 t] 42)).drew := B1.trans (below_drewN 1 (Below.refl _ _))
  have hg0 : g < W.heap.size := lt_of_heap h.1
  have HD := Lib.hid (h.below B1)
  have hc0 : W.cell? ⟨g, 0, none⟩ = some (.map m) := BoxC.cell (cs := #[.map m]) h.1 0 _ rfl
  have hf0 : W.frozen? ⟨g, 0, none⟩ = false := BoxC.frozen (cs := #[.map m]) h.1 0
  by_cases hn : n = 0
  · have hn0 : ((n : Int) == 0) = true := by simp [hn]
    cases m with
    | none =>
      obtain rfl : hs = [] := h.2
      have hd := fun ty V => drop_nil (f, t) ty V
      unfold keyV at hd
      go_enter Try.func35, Try.ntmps35
      go_wp2
      go_region
      go_wp2
      refine bodyPost_ret (v := .tuple #[]) (by simp [results, Try.results35]) rfl ⟨rfl, none, ?_⟩
      unfold keepV
      rw [if_pos hn]
      exact ⟨h.below B2, Fr.of_below B2, .inl rfl⟩
    | some b =>
      obtain ⟨o, hm2, hd⟩ := run_drop HD.out.2.2 (f, t) 0
      have hd1 := hd (W.alloc (.cells #[.int .i64 f, .int .i64 t] 42)).drew rfl
      unfold keyV at hd1
      clear hd
      go_enter Try.func35, Try.ntmps35
      go_wp2
      go_region
      go_wp2
      refine bodyPost_ret (v := .tuple #[]) (by simp [results, Try.results35]) rfl ⟨rfl, some b, ?_⟩
      unfold keepV
      rw [if_pos hn]
      exact KeptP.turned B2 h hm2
  · have hn0 : ((n : Int) == 0) = false := by simp [hn]
    cases m with
    | none =>
      obtain rfl : hs = [] := h.2
      have hmm := @run_makeMap Try.prog
      have hq := mapEq_any none
      have hV : ((((W.setCell ⟨g, 0, none⟩ (.map (some (W.heap.size + 1)))).alloc (.cells #[.int .i64 f, .int .i64 t] 42)).alloc (.map #[] 0))).heap[W.heap.size + 1]? = some (.map #[] 0) := by
        have h1 := heap_alloc_new ((W.setCell ⟨g, 0, none⟩ (.map (some (W.heap.size + 1)))).alloc (.cells #[.int .i64 f, .int .i64 t] 42)) (.map #[] 0)
        have e1 : ((W.setCell ⟨g, 0, none⟩ (.map (some (W.heap.size + 1)))).alloc (.cells #[.int .i64 f, .int .i64 t] 42)).heap.size = W.heap.size + 1 := by simp
        rw [e1] at h1
        exact h1
      have hS : MapAt (((W.setCell ⟨g, 0, none⟩ (.map (some (W.heap.size + 1)))).alloc (.cells #[.int .i64 f, .int .i64 t] 42)).alloc (.map #[] 0)) (W.heap.size + 1) [] := ⟨#[], 0, hV, Go.MapKept.stamped_empty 0, rfl⟩
      obtain ⟨o, hm2, hd⟩ := run_store hS (f, t) (.slice a n c)
      have hd1 := hd (((W.setCell ⟨g, 0, none⟩ (.map (some (W.heap.size + 1)))).alloc (.cells #[.int .i64 f, .int .i64 t] 42)).alloc (.map #[] 0)).drew rfl
      unfold keyV at hd1
      clear hd
      have hF : Fr W (((W.setCell ⟨g, 0, none⟩ (.map (some (W.heap.size + 1)))).alloc (.cells #[.int .i64 f, .int .i64 t] 42)).alloc (.map #[] 0)).drew [g] := by
        have b1 : Below W.heap.size (W.setCell ⟨g, 0, none⟩ (.map (some (W.heap.size + 1)))) (((W.setCell ⟨g, 0, none⟩ (.map (some (W.heap.size + 1)))).alloc (.cells #[.int .i64 f, .int .i64 t] 42)).alloc (.map #[] 0)).drew := by
          have e : (W.setCell ⟨g, 0, none⟩ (.map (some (W.heap.size + 1)))).heap.size = W.heap.size := by simp
          exact (((Below.refl _ _).alloc (by omega) _).alloc (by simp) _).trans (below_drewN 1 (Below.refl _ _))
        refine ⟨b1.os, b1.tape, b1.output, by have := b1.size; simpa using this, fun i hi hn => (b1.block i hi).trans (Below.heap_setCell _ _ _ _ (by simpa using hn))⟩
      have hG : (((W.setCell ⟨g, 0, none⟩ (.map (some (W.heap.size + 1)))).alloc (.cells #[.int .i64 f, .int .i64 t] 42)).alloc (.map #[] 0)).heap[g]? = some (.cells #[.map (some (W.heap.size + 1))] 62 (0, 0)) := by
        have h1 : (W.setCell ⟨g, 0, none⟩ (.map (some (W.heap.size + 1)))).heap[g]? = some (.cells (#[.map none].setIfInBounds 0 (.map (some (W.heap.size + 1)))) 62 (0, 0)) := set_row h.1 0 _
        rw [heap_alloc_old _ _ (by simp; omega), heap_alloc_old _ _ (by simp; omega)]
        exact h1
      go_enter Try.func35, Try.ntmps35
      go_wp2
      go_region
      go_wp2
      go_end0
      refine ⟨rfl, some (W.heap.size + 1), ?_⟩
      unfold keepV
      rw [if_neg hn]
      exact KeptP.made h hG hF hm2
    | some b =>
      have hq := mapEq_any (some b)
      obtain ⟨o, hm2, hd⟩ := run_store HD.out.2.2 (f, t) (.slice a n c)
      have hd1 := hd (W.alloc (.cells #[.int .i64 f, .int .i64 t] 42)).drew rfl
      unfold keyV at hd1
      clear hd
      go_enter Try.func35, Try.ntmps35
      go_wp2
      go_region
      go_wp2
      go_end0
      refine ⟨rfl, some b, ?_⟩
      unfold keepV
      rw [if_neg hn]
      exact KeptP.turned B2 h hm2
end Go.Proofs.Ytgdgjgcmglgfmaa
