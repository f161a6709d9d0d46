/- Plain mathematics of packets that are moved and taken: each comes just once. No condition. -/
import Derived.Test.YtgdgjgcmglgfmaaNetOrderMath
import Derived.Test.YtgdgjgcmglgfmaaNetMove
namespace Go.Proofs.Ytgdgjgcmglgfmaa

set_option linter.unusedVariables false
set_option linter.unusedSimpArgs false

theorem perm_erase {α : Type} (l : List α) (a : Nat) (h : a < l.length) : (l[a] :: l.eraseIdx a).Perm l := by
  rw [List.eraseIdx_eq_take_drop_succ]
  refine List.perm_middle.symm.trans ?_
  rw [List.getElem_cons_drop, List.take_append_drop]
theorem putAt_perm {α : Type} (l : List α) (a b : Nat) (h : a < l.length) : (putAt (l.eraseIdx a) b l[a]).Perm l := by
  unfold putAt
  refine List.perm_middle.trans ?_
  rw [List.take_append_drop]
  exact perm_erase l a h
theorem putAt_map {α β : Type} (f : α → β) (l : List α) (b : Nat) (x : α) : putAt (l.map f) b (f x) = (putAt l b x).map f := by
  unfold putAt
  simp [List.map_take, List.map_drop]
theorem eraseIdx_map {α β : Type} (f : α → β) (l : List α) (a : Nat) : (l.map f).eraseIdx a = (l.eraseIdx a).map f := by
  rw [List.eraseIdx_eq_take_drop_succ, List.eraseIdx_eq_take_drop_succ]
  simp [List.map_take, List.map_drop]
/-- What is in the bag: the numbers below n that are not gone, each once. -/
structure Lft (n : Nat) (o : List Nat) : Prop where
  nodup : o.Nodup
  lt : ∀ x ∈ o, x < n
theorem Lft.start (n : Nat) : Lft n (List.range n) := ⟨List.nodup_range, fun x hx => List.mem_range.1 hx⟩
theorem Lft.moved {n : Nat} {o : List Nat} (h : Lft n o) (a b : Nat) (ha : a < o.length) : Lft n (putAt (o.eraseIdx a) b o[a]) := by
  have hp := putAt_perm o a b ha
  exact ⟨hp.nodup_iff.2 h.nodup, fun x hx => h.lt x (hp.mem_iff.1 hx)⟩
theorem Lft.taken {n : Nat} {o : List Nat} (h : Lft n o) (a : Nat) : Lft n (o.eraseIdx a) :=
  ⟨h.nodup.sublist (List.eraseIdx_sublist o a), fun x hx => h.lt x (List.mem_of_mem_eraseIdx hx)⟩
/-- Which have come, as the law's row of 64 has them. -/
def seenC (n : Nat) (o : List Nat) : Array Value := ((List.range 64).map fun v => Value.bool (decide (v < n ∧ v ∉ o))).toArray
theorem seenC_at (n : Nat) (o : List Nat) (v : Nat) (h : v < 64) : (seenC n o)[v]? = some (.bool (decide (v < n ∧ v ∉ o))) := by
  unfold seenC
  simp [h]
theorem seenC_start (n : Nat) (o : List Nat) (h : ∀ v, v < n → v ∈ o) : seenC n o = ((List.range 64).map fun _ => Value.bool false).toArray := by
  unfold seenC
  congr 1
  apply List.map_congr_left
  intro v _
  congr 1
  exact decide_eq_false fun ⟨h1, h2⟩ => h2 (h v h1)
theorem seenC_set {n : Nat} {o : List Nat} (h : Lft n o) (a : Nat) (ha : a < o.length) (hn : n ≤ 64) : (seenC n o).setIfInBounds o[a] (.bool true) = seenC n (o.eraseIdx a) := by
  unfold seenC
  apply Array.ext'
  rw [Array.toList_setIfInBounds]
  apply List.ext_getElem
  · simp
  · intro v h1 h2
    have hv : v < 64 := by simpa using h2
    have hm : o[a] ∉ o.eraseIdx a := by
      have hp := perm_erase o a ha
      have := hp.nodup_iff.2 h.nodup
      exact (List.nodup_cons.1 this).1
    have hme : ∀ v, v ∈ o ↔ v = o[a] ∨ v ∈ o.eraseIdx a := fun v => by
      rw [← (perm_erase o a ha).mem_iff, List.mem_cons]
    by_cases hq : o[a] = v
    · subst hq
      have := h.lt _ (List.getElem_mem ha)
      simp [hm, this]
    · rw [List.getElem_set_ne hq]
      have := hme v
      have hq' : ¬ (v = o[a]) := fun e => hq e.symm
      simp [this, hq']
end Go.Proofs.Ytgdgjgcmglgfmaa
