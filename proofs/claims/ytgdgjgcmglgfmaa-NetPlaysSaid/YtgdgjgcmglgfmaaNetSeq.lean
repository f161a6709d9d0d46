/- The links of a net as a row: maps.Keys, slices.AppendSeq, slices.Collect at a map of bags. Condition: the map lies in memory. -/
import Derived.Test.YtgdgjgcmglgfmaaNetCount
import Derived.RangeFuncNested
import Derived.RangeFuncBound
import Derived.RangeFuncBox
import Derived.RangeFuncCalls
import Derived.RangeFuncLeaves
import Derived.Sort.MapsRangeIn
import Derived.Shelf.Abstract
import Derived.Shelf.RegionOpen
import Derived.WalkKit
import Derived.OwnWalkIn
import Derived.TacticsInMore
import Derived.RegionIn
import Derived.LoopNIn
import Derived.LoopIn
import Derived.Maps.AppendAt
namespace Go.Proofs.Ytgdgjgcmglgfmaa

open Go.RowKit

open Go.ChangeMaps (setBlock)

set_option linter.unusedVariables false
set_option linter.unusedSimpArgs false
attribute [local go_sem] Oper.semAt_some

section

variable {F : Fence} {nF : Nat} {W : World} {ops : Array Oper} {rest : List Oper} {o : Oper} {a : Act} {Q : Exit → Act → World → Prop} {b r : Nat} {hs left : Hd}

theorem wpListIn_rangeL (hg : o.guard = none) (x : Operand) (hop : o.op = Op.range 60 x) (hm : a.eval x = .map (some b)) (h : MapAt W b hs)
    (hK : ∀ W', Rng W' b W.heap.size hs hs → W.grownBy W' none → W'.heap.size = W.heap.size + 1 → wpListIn F nF Try.prog ops Q rest (a.put o.dst (.pointer (some ⟨W.heap.size, 0, none⟩))) W') : wpListIn F nF Try.prog ops Q (o :: rest) a W := by
  refine wpListIn_plain hg fun K' hK' => ?_
  obtain ⟨hrun, hR⟩ := Rng.start h
  unfold Oper.wpIn
  refine ⟨by simp [Oper.about, hop], ?_⟩
  rw [Oper.semAt_plain F _ _ (by rw [hop]; intro c hc'; cases hc')]
  simp [execOp, hop, hm, hrun, Result.andThen]
  exact hK' _ _ (hK _ hR (World.grownBy_alloc W _ none) (by simp))
theorem wpListIn_nextL (hg : o.guard = none) (it : Operand) (hop : o.op = Op.next it false) (hit : a.eval it = .pointer (some ⟨r, 0, none⟩)) (h : Rng W b r hs left)
    (hDone : left = [] → wpListIn F nF Try.prog ops Q rest (a.put o.dst (.tuple #[.bool false])) W)
    (hMore : ∀ k v A B W', left = A ++ (k, v) :: B → Rng W' b r hs (A ++ B) → W.grownBy W' (some r) → W'.heap.size = W.heap.size → (Instr.entry (.pointer (some ⟨r, 0, none⟩))).run Try.prog W' = .ok (.tuple #[.agg #[.int .i64 k.1, .int .i64 k.2], v]) W' → wpListIn F nF Try.prog ops Q rest (a.put o.dst (.tuple #[.bool true, .agg #[.int .i64 k.1, .int .i64 k.2], v])) W') :
    wpListIn F nF Try.prog ops Q (o :: rest) a W := by
  refine wpListIn_plain hg fun K' hK' => ?_
  unfold Oper.wpIn
  refine ⟨by simp [Oper.about, hop], ?_⟩
  rw [Oper.semAt_plain F _ _ (by rw [hop]; intro c hc'; cases hc')]
  rcases h.next o.type with ⟨h0, hrun⟩ | ⟨k, v, A, B, W', hl, hrun, hR, hgr, hsz, hen⟩
  · simp [execOp, hop, hit, hrun, Result.andThen]
    exact hK' _ _ (hDone h0)
  · simp [execOp, hop, hit, hrun, Result.andThen]
    exact hK' _ _ (hMore k v A B W' hl hR hgr hsz hen)
end

theorem Rng.of_walks {W W' : World} {b r : Nat} {hs left : Hd} (h : Rng W b r hs left) (hk : KeepsWalks W W') : Rng W' b r hs left := by
  obtain ⟨es, clock, since, seen, c0, h1, h2, h3, h4, h5⟩ := h
  exact ⟨es, clock, since, seen, c0, hk.same b _ h1 rfl, h2, h3, hk.same r _ h4 rfl, h5⟩
theorem Rng.walk {W : World} {b r : Nat} {hs left : Hd} (h : Rng W b r hs left) : ∃ o : Obj, W.heap[r]? = some o ∧ o.isWalk = true := by
  obtain ⟨es, clock, since, seen, c0, h1, h2, h3, h4, h5⟩ := h
  exact ⟨_, h4, rfl⟩
/-- The map that a net has: none, or one in a block. -/
def MapO (W : World) (m : Option Nat) (hs : Hd) : Prop := match m with
  | none => hs = []
  | some b => MapAt W b hs
theorem MapO.below {W W' : World} {m : Option Nat} {hs : Hd} (h : MapO W m hs) (hb : Below W.heap.size W W') : MapO W' m hs := by
  cases m with
  | none => exact h
  | some b =>
    obtain ⟨es, c, h1, h2⟩ := h
    exact ⟨es, c, (hb.block b (lt_of_heap h1)).trans h1, h2⟩
theorem perm_step {l : List Lk} {ks A B : List Lk} {k : Lk} (h : (ks ++ (A ++ k :: B)).Perm l) : (ks ++ [k] ++ (A ++ B)).Perm l := by
  refine List.Perm.trans ?_ h
  rw [List.append_assoc]
  exact List.Perm.append_left ks (List.perm_middle (a := k) (l₁ := A) (l₂ := B)).symm

set_option maxRecDepth 100000 in
set_option maxHeartbeats 1000000 in
theorem keys1_in (F : Fence) (n : Nat) (hF : F.fn 43) (hro : F.round = none) (hn : 1 ≤ n) (l Bm : Nat) (m : Option Nat) (hs : Hd) (J Jx : List Lk → World → Prop)
    (hY : ∀ pre x W, J pre W → pre.length < hs.length → YieldAt F (n - 1) Try.prog l #[.agg #[.int .i64 x.1, .int .i64 x.2]] W fun e W' =>
      (e = .returned (.bool true) ∧ J (pre ++ [x]) W' ∧ KeepsWalks W W') ∨ (e = .returned (.bool false) ∧ Jx (pre ++ [x]) W'))
    (W : World) (hJ : AbidesFrom W.heap.size J) (hm : W.cell? ⟨Bm, 0, none⟩ = some (.map m)) (hM : MapO W m hs) (h0 : J [] W) :
    CallsIn F n Try.prog 43 #[.func (.yield l) #[] #[], .pointer (some ⟨Bm, 0, none⟩)] W fun e W' => (∃ v, e = .returned v) ∧
      ((∃ ks, ks.Perm (hs.map (·.1)) ∧ J ks W') ∨ (∃ pre, True ∧ Jx pre W')) := by
  refine callsIn_of_wp Try.func43 rfl hF ?_ hro
  simp only [Try.ntmps43, List.size_toArray, List.length_cons, List.length_nil, Nat.reduceAdd, Nat.reduceSub, Array.replicate_succ, Array.replicate_zero, List.push_toArray, List.append_toArray, List.nil_append, List.cons_append]
  cases m with
  | none =>
    obtain rfl : hs = [] := hM
    have hrg := run_range_nilMap (P := Try.prog) W 60 _ _ Try.underlying60
    have hnx : ∀ ty, (Instr.next (.pointer (some ⟨W.heap.size, 0, none⟩)) false ty).run Try.prog (W.alloc (.mapIter none 0 #[] 0)) = _ := fun ty => run_next_nilMap W ty 0 0 #[]
    gi_wp2
    gi_loopw [3] (fun _ wr => wr = W.alloc (.mapIter none 0 #[] 0)) (fun _ _ => 0)
    case atStart => rfl
    case round =>
      subst hrel
      gi_wp2
      go_end0
      exact ⟨⟨_, rfl⟩, .inl ⟨[], .refl _, hJ [] W _ none h0 (World.grownBy_alloc W _ none) (fun r e => by cases e)⟩⟩
  | some b =>
    have hMb : MapAt W b hs := hM
    gi_wp2_with (first
      | (gi_at_range; refine wpListIn_rangeL rfl _ rfl rfl hMb ?_; intro w0 hrg0 hg0 hs0)
      | gi_in)
    go_frame
    gi_loopw [3] (fun _ wr => ∃ (left : Hd) (ks : List Lk), Rng wr b W.heap.size hs left ∧ (ks ++ left.map (·.1)).Perm (hs.map (·.1)) ∧ J ks wr)
      (fun _ wr => wr.rangeLeft b W.heap.size)
    case atStart => exact ⟨hs, [], hrg0, .refl _, hJ [] W w0 none h0 hg0 (fun r e => by cases e)⟩
    case round =>
      obtain ⟨left, ks, hrg, hP, hJs⟩ := hrel
      have RR := Lib.hid hrg
      have PP := Lib.hid hP
      clear hP
      gi_wp2_with (first
        | (gi_at_next; refine wpListIn_nextL rfl _ rfl rfl hrg ?_ ?_)
        | gi_in)
      · intro h0
        subst h0
        gi_wp2
        go_end0
        exact ⟨⟨_, rfl⟩, .inl ⟨ks, by have := PP.out; simpa using this, hJs⟩⟩
      · intro f1 t1 v A B w2 hl hrg2 hg2 hs2 hen
        subst hl
        obtain ⟨k, hk⟩ : ∃ k : Lk, (f1, t1) = k := ⟨_, rfl⟩
        have hk1 : f1 = k.1 := by rw [← hk]
        have hk2 : t1 = k.2 := by rw [← hk]
        rw [hk] at RR PP
        subst hk1
        subst hk2
        clear hk
        have hJ2 : J ks w2 := hJ ks wr w2 (some W.heap.size) hJs hg2 (fun r e => by cases e; exact ⟨Nat.le_refl _, RR.out.walk⟩)
        have hlt : ks.length < hs.length := by have := PP.out.length_eq; simp at this; omega
        have P2 : Hid ((ks ++ [k] ++ (A ++ B).map (·.1)).Perm (hs.map (·.1))) := by
          have := PP.out
          rw [List.map_append, List.map_cons] at this
          rw [List.map_append]
          exact perm_step this
        have hJ3 : J ks (w2.alloc (.cells #[.int .i64 k.1, .int .i64 k.2] 42)) := hJ ks w2 _ none hJ2 (World.grownBy_alloc w2 _ none) (fun r e => by cases e)
        obtain ⟨fn, tmps, assign, body, hy, hR⟩ := hY ks k _ hJ3 hlt
        clear hs2 hlt
        have R2 := Lib.hid (hrg2.below ((Below.refl _ _).alloc (Nat.le_refl _) (.cells #[.int .i64 k.1, .int .i64 k.2] 42)))
        clear hrg
        gi_wp2
        refine hR.mono ?_
        rintro e W3 (⟨rfl, hJ3, hk3⟩ | ⟨rfl, hJx3⟩)
        · have R3 := Lib.hid (R2.out.of_walks hk3)
          gi_wp2
          go_roundw
          case rel => exact ⟨A ++ B, ks ++ [k], R3.out, P2.out, hJ3⟩
          case measure => rw [R3.out.left_eq, RR.out.left_eq]; simp
        · gi_wp2
          refine bodyPost_ret (results_none rfl _ _ _) rfl ?_
          exact ⟨⟨_, rfl⟩, .inr ⟨ks ++ [k], trivial, hJx3⟩⟩

set_option maxHeartbeats 1000000 in
theorem keys_in (F : Fence) (n : Nat) (hF : F.fn 30) (hro : F.round = none) (m : Option Nat) (w : World) :
    CallsIn F n Try.prog 30 #[.map m] w fun e w' => e = .returned (.func (.func 43) #[] #[.pointer (some ⟨w.heap.size, 0, none⟩)]) ∧ w' = w.alloc (.cells #[.map m] 60) := by
  refine callsIn_of_wp Try.func30 rfl hF ?_ hro
  simp only [Try.ntmps30, List.size_toArray, List.length_cons, List.length_nil, Nat.reduceAdd, Nat.reduceSub, Array.replicate_succ, Array.replicate_zero, List.push_toArray, List.append_toArray, List.nil_append, List.cons_append]
  gi_wp2
  go_ret
  exact ⟨rfl, rfl⟩

theorem keys_stops (F : Fence) (n : Nat) (hF : F.fn 43) (hro : F.round = none) (hn : 1 ≤ n) (Bm : Nat) (m : Option Nat) (hs : Hd) (w : World) (hBm : Bm < w.heap.size)
    (hm : w.cell? ⟨Bm, 0, none⟩ = some (.map m)) (hM : MapO w m hs) :
    SeqStopsK F n Try.prog 43 #[.pointer (some ⟨Bm, 0, none⟩)] (fun x : Lk => #[.agg #[.int .i64 x.1, .int .i64 x.2]]) KeepsWalks (fun ks => ks.Perm (hs.map (·.1))) (fun _ => True) hs.length w := fun l J Jx W hW hJ _ hY h0 =>
  keys1_in F n hF hro hn l Bm m hs J Jx hY W hJ ((hW.cell (p := ⟨Bm, 0, none⟩) hBm).trans hm) (hM.below hW) h0
end Go.Proofs.Ytgdgjgcmglgfmaa
