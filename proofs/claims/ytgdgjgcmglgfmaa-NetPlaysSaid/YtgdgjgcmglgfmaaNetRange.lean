/- Ranging over a map of bags. No condition. -/
import Derived.Test.YtgdgjgcmglgfmaaNetMap
import Derived.Maps.Range
import Derived.Maps.RangeWalk
namespace Go.Proofs.Ytgdgjgcmglgfmaa

open Go.RowKit

open Go.MapKept (Stamped stamped_iff stamped_erase)

open Go.ChangeMaps (setBlock)

set_option linter.unusedVariables false
set_option linter.unusedSimpArgs false

/-- Block r ranges over the map in block b; these are still to come. -/
def Rng (W : World) (b r : Nat) (hs left : Hd) : Prop :=
  ∃ es clock since seen c0, W.heap[b]? = some (.map es clock) ∧ Stamped es clock ∧ kvs es = hvs hs ∧ W.heap[r]? = some (.mapIter (some b) since seen c0) ∧ (∀ x ∈ es.toList, x.born < since) ∧ since ≤ c0 ∧ since ≤ clock ∧ kvs (leftOf es seen) = hvs left
section

variable {W W' : World} {b r : Nat} {hs left : Hd}

theorem Rng.map (h : Rng W b r hs left) : MapAt W b hs := by
  obtain ⟨es, clock, _, _, _, hb, hst, hk, _⟩ := h
  exact ⟨es, clock, hb, hst, hk⟩
theorem Rng.lt (h : Rng W b r hs left) : b < W.heap.size ∧ r < W.heap.size ∧ r ≠ b := by
  obtain ⟨es, clock, _, _, _, hb, _, _, hr, _⟩ := h
  refine ⟨lt_of_heap hb, lt_of_heap hr, ?_⟩
  rintro rfl
  rw [hb] at hr; cases hr
theorem Rng.moved (h : Rng W b r hs left) (hb : W'.heap[b]? = W.heap[b]?) (hr : W'.heap[r]? = W.heap[r]?) : Rng W' b r hs left := by
  obtain ⟨es, clock, since, seen, c0, h1, h2, h3, h4, h5⟩ := h
  exact ⟨es, clock, since, seen, c0, hb.trans h1, h2, h3, hr.trans h4, h5⟩
theorem Rng.below (h : Rng W b r hs left) (hb : Below W.heap.size W W') : Rng W' b r hs left := h.moved (hb.block b h.lt.1) (hb.block r h.lt.2.1)
theorem map_split {es : List MapEntry} {left : Hd} {A B : List MapEntry} {e : MapEntry} (h : es.map (fun e => (e.key, e.val)) = left.map fun h => (keyV h.1, h.2)) (he : es = A ++ e :: B) : ∃ k A' B', left = A' ++ (k, e.val) :: B' ∧ e.key = keyV k ∧ A.map (fun e => (e.key, e.val)) = (A'.map fun h => (keyV h.1, h.2)) ∧ B.map (fun e => (e.key, e.val)) = B'.map fun h => (keyV h.1, h.2) := by
  subst he
  rw [List.map_append, List.map_cons] at h
  obtain ⟨A', C, h1, h2, h3⟩ := List.map_eq_append_iff.1 h.symm
  obtain ⟨x, B', h4, h5, h6⟩ := List.map_eq_cons_iff.1 h3
  subst h4
  injection h5 with h7 h8
  exact ⟨x.1, A', B', by rw [h1, ← h8], h7.symm, h2.symm, h6.symm⟩
theorem left_push {es : Array MapEntry} {seen : Array Nat} {e : MapEntry} (hn : (es.toList.map (·.born)).Nodup) (he : e ∈ (leftOf es seen).toList) : ∃ A B, (leftOf es seen).toList = A ++ e :: B ∧ (leftOf es (seen.push e.born)).toList = A ++ B := by
  obtain ⟨A, B, h⟩ := List.append_of_mem he
  refine ⟨A, B, h, ?_⟩
  have h1 : (leftOf es (seen.push e.born)).toList = (leftOf es seen).toList.filter fun x => !decide (x.born = e.born) := by
    unfold leftOf
    rw [Array.toList_filter, Array.toList_filter, List.filter_filter]
    refine List.filter_congr fun x _ => ?_
    simp [Array.contains_push, Bool.not_or, Bool.and_comm]
  have h2 : ((leftOf es seen).toList.map (·.born)).Nodup := by
    unfold leftOf
    rw [Array.toList_filter]
    exact (List.filter_sublist.map _).nodup hn
  rw [h1, h]
  rw [h, List.map_append, List.map_cons, List.nodup_append, List.nodup_cons] at h2
  obtain ⟨_, ⟨h3, _⟩, h4⟩ := h2
  rw [List.filter_append, List.filter_cons]
  simp only [decide_true, Bool.not_true, Bool.false_eq_true, if_false]
  congr 1
  · refine List.filter_eq_self.2 fun y hy => ?_
    have := h4 y.born (List.mem_map.2 ⟨y, hy, rfl⟩) e.born (List.mem_cons_self ..)
    simp [this]
  · refine List.filter_eq_self.2 fun y hy => ?_
    have : y.born ≠ e.born := fun e1 => h3 (e1 ▸ List.mem_map.2 ⟨y, hy, rfl⟩)
    simp [this]
theorem Rng.next (h : Rng W b r hs left) (ty : TypeId) :
    (left = [] ∧ (Instr.next (.pointer (some ⟨r, 0, none⟩)) false ty).run Try.prog W = .ok (.tuple #[.bool false]) W) ∨
    ∃ k v A B W', left = A ++ (k, v) :: B ∧ (Instr.next (.pointer (some ⟨r, 0, none⟩)) false ty).run Try.prog W = .ok (.tuple #[.bool true, keyV k, v]) W' ∧ Rng W' b r hs (A ++ B) ∧ W.grownBy W' (some r) ∧ W'.heap.size = W.heap.size ∧ (Instr.entry (.pointer (some ⟨r, 0, none⟩))).run Try.prog W' = .ok (.tuple #[keyV k, v]) W' := by
  have hne := h.lt
  obtain ⟨es, clock, since, seen, c0, hb, hst, hk, hr, hold, hsc, hcl, hl⟩ := h
  rcases run_next_at (P := Try.prog) W ty r b since c0 seen es clock hr hb hold hsc with ⟨h0, hrun⟩ | ⟨e, he, w1, hw1, hrun⟩
  · refine .inl ⟨?_, hrun⟩
    have h1 : leftOf es seen = #[] := Array.eq_empty_of_size_eq_zero h0
    rw [h1] at hl
    have h2 : hvs left = [] := hl.symm
    exact List.map_eq_nil_iff.1 h2
  · right
    obtain ⟨A, B, h1, h2⟩ := left_push ((stamped_iff es clock).1 hst).2.1 he
    obtain ⟨k, A', B', h3, h4, h5, h6⟩ := map_split hl h1
    have hw : w1.heap = W.heap := by rcases hw1 with rfl | rfl <;> rfl
    have hr1 : w1.heap[r]? = some (.mapIter (some b) since seen c0) := by rw [hw]; exact hr
    have hb2 : (setBlock w1 r (.mapIter (some b) since (seen.push e.born) clock)).heap[b]? = some (.map es clock) := (setBlock_ne (Ne.symm hne.2.2)).trans (by rw [hw]; exact hb)
    have hr2 : (setBlock w1 r (.mapIter (some b) since (seen.push e.born) clock)).heap[r]? = some (.mapIter (some b) since (seen.push e.born) clock) := setBlock_at hr1
    have hmem : e ∈ es.toList := by
      unfold leftOf at he
      rw [Array.toList_filter] at he
      exact (List.mem_filter.1 he).1
    refine ⟨k, e.val, A', B', _, h3, by rw [← h4]; exact hrun, ⟨es, clock, since, seen.push e.born, clock, hb2, hst, hk, hr2, hold, hcl, hcl, ?_⟩, ?_, ?_, ?_⟩
    · unfold kvs hvs
      rw [h2, List.map_append, List.map_append, h5, h6]
    · have hg : W.grownBy w1 (some r) := by
        rcases hw1 with rfl | rfl
        · exact World.grownBy.refl _ _
        · exact ⟨rfl, rfl, rfl, Nat.le_refl _, fun _ _ _ => rfl⟩
      exact hg.trans (setBlock_grown _ _ _)
    · rw [setBlock_size, hw]
    · rw [← h4]
      exact run_entry_at (P := Try.prog) _ r b since seen es clock e hr2 hb2 hmem ((stamped_iff es clock).1 hst).2.1
theorem Rng.start (h : MapAt W b hs) : (Instr.range 60 (.map (some b))).run Try.prog W = .ok (.pointer (some ⟨W.heap.size, 0, none⟩)) (W.alloc (.mapIter (some b) (match W.heap[b]? with | some (.map _ c) => c | _ => 0) #[] (match W.heap[b]? with | some (.map _ c) => c | _ => 0))) ∧ Rng (W.alloc (.mapIter (some b) (match W.heap[b]? with | some (.map _ c) => c | _ => 0) #[] (match W.heap[b]? with | some (.map _ c) => c | _ => 0))) b W.heap.size hs hs := by
  obtain ⟨es, clock, hb, hst, hk⟩ := h
  rw [hb]
  refine ⟨run_range_map W _ _ _ b es clock Try.underlying60 hb, es, clock, clock, #[], clock, ?_, hst, hk, heap_alloc_new _ _, hst.1, Nat.le_refl _, Nat.le_refl _, ?_⟩
  · rw [heap_alloc_old _ _ (lt_of_heap hb)]; exact hb
  · unfold leftOf
    rw [show es.filter (fun e => !(#[] : Array Nat).contains e.born) = es from Array.filter_eq_self.2 (by simp)]
    exact hk
end

section

variable {W : World} {ops : Array Oper} {rest : List Oper} {o : Oper} {a : Act} {Q : Exit → Act → World → Prop} {b r : Nat} {hs left : Hd}

theorem wpList_rangeL (hg : o.guard = none) (x : Operand) (hop : o.op = Op.range 60 x) (hm : a.eval x = .map (some b)) (h : MapAt W b hs)
    (hK : ∀ W', Rng W' b W.heap.size hs hs → Below W.heap.size W W' → W'.heap.size = W.heap.size + 1 → wpList Try.prog ops Q rest (a.put o.dst (.pointer (some ⟨W.heap.size, 0, none⟩))) W') : wpList Try.prog ops Q (o :: rest) a W := by
  refine wpList_plain hg fun K' hK' => ?_
  obtain ⟨hrun, hR⟩ := Rng.start h
  unfold Oper.wp
  simp [execOp, hop, hm, hrun, Result.andThen]
  exact hK' _ _ (hK _ hR ((Below.refl _ _).alloc (Nat.le_refl _) _) (by simp))
theorem wpList_nextL (hg : o.guard = none) (it : Operand) (hop : o.op = Op.next it false) (hit : a.eval it = .pointer (some ⟨r, 0, none⟩)) (h : Rng W b r hs left)
    (hDone : left = [] → wpList Try.prog ops Q rest (a.put o.dst (.tuple #[.bool false])) W)
    (hMore : ∀ k v A B W', left = A ++ (k, v) :: B → Rng W' b r hs (A ++ B) → W.grownBy W' (some r) → W'.heap.size = W.heap.size → (Instr.entry (.pointer (some ⟨r, 0, none⟩))).run Try.prog W' = .ok (.tuple #[.agg #[.int .i64 k.1, .int .i64 k.2], v]) W' → wpList Try.prog ops Q rest (a.put o.dst (.tuple #[.bool true, .agg #[.int .i64 k.1, .int .i64 k.2], v])) W') :
    wpList Try.prog ops Q (o :: rest) a W := by
  refine wpList_plain hg fun K' hK' => ?_
  unfold Oper.wp
  rcases h.next o.type with ⟨h0, hrun⟩ | ⟨k, v, A, B, W', hl, hrun, hR, hgr, hsz, hen⟩
  · simp [execOp, hop, hit, hrun, Result.andThen]
    exact hK' _ _ (hDone h0)
  · simp [execOp, hop, hit, hrun, Result.andThen]
    exact hK' _ _ (hMore k v A B W' hl hR hgr hsz hen)
end

end Go.Proofs.Ytgdgjgcmglgfmaa
