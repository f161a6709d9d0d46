/- Plain mathematics for NetOrder: what stands on four links. No condition. -/
import Derived.Test.YtgdgjgcmglgfmaaNetFullWalk
namespace Go.Proofs.Ytgdgjgcmglgfmaa

open Go.RowKit

set_option linter.unusedVariables false
set_option linter.unusedSimpArgs false

/-- The link of a class; the class of a byte. -/
def lkOf (c : Nat) : Lk := (((c % 2 : Nat) : Int), ((c / 2 : Nat) : Int))
def clsAt (l : List UInt8) (i : Nat) : Nat := (l.getD i 0).toNat % 4
def cls (l : List UInt8) (c m : Nat) : List Nat := (List.range m).filter fun i => decide (clsAt l i = c)
theorem lkOf_inj {c d : Nat} (hc : c < 4) (hd : d < 4) (h : lkOf c = lkOf d) : c = d := by
  unfold lkOf at h
  injection h with h1 h2
  omega
theorem lkOf_byte (y : Nat) : lkOf (y % 4) = (((y % 2 : Nat) : Int), ((y / 2 % 2 : Nat) : Int)) := by
  unfold lkOf
  congr 2 <;> omega
theorem cls_succ (l : List UInt8) (c m : Nat) : cls l c (m + 1) = cls l c m ++ (if clsAt l m = c then [m] else []) := by
  unfold cls
  rw [List.range_succ, List.filter_append]
  congr 1
  by_cases h : clsAt l m = c <;> simp [h]
theorem cls_len (l : List UInt8) (c m : Nat) : (cls l c m).length ≤ m := by
  have := List.length_filter_le (fun i => decide (clsAt l i = c)) (List.range m)
  simpa [cls] using this
theorem cls_mem {l : List UInt8} {c m x : Nat} (h : x ∈ cls l c m) : x < m ∧ clsAt l x = c := by
  obtain ⟨h1, h2⟩ := List.mem_filter.1 h
  exact ⟨List.mem_range.1 h1, of_decide_eq_true h2⟩
theorem cls_rise (l : List UInt8) (c m : Nat) : (cls l c m).Pairwise (· < ·) := List.Pairwise.filter _ List.pairwise_lt_range
theorem clsAt_lt (l : List UInt8) (i : Nat) : clsAt l i < 4 := Nat.mod_lt _ (by omega)
/-- What was sent. -/
def Sent (l : List UInt8) (n : Nat) (bs : Bags) : Prop := ∀ c, c < 4 → getB bs (lkOf c) = (cls l c n).map pk1
theorem Sent.next {l : List UInt8} {n : Nat} {bs : Bags} (h : Sent l n bs) : Sent l (n + 1) (keepB bs (lkOf (clsAt l n)) (getB bs (lkOf (clsAt l n)) ++ [pk1 n])) := by
  intro c hc
  rw [getB_keep, cls_succ]
  by_cases e : clsAt l n = c
  · subst e
    rw [if_pos rfl, if_pos rfl, h _ hc, List.map_append]; rfl
  · rw [if_neg (fun e2 => e (lkOf_inj (clsAt_lt l n) hc e2.symm)), if_neg e, List.append_nil, h c hc]
/-- What is left on the links, and what was taken last. -/
structure Left (l : List UInt8) (n k : Nat) (bs : Bags) (R : Nat → List Nat) (la : List Int) : Prop where
  get : ∀ c, c < 4 → getB bs (lkOf c) = (R c).map pk1
  rise : ∀ c, c < 4 → (R c).Pairwise (· < ·)
  mem : ∀ c, c < 4 → ∀ x ∈ R c, x < n ∧ clsAt l x = c ∧ la.getD c 0 < (x : Int)
  cnt : ∀ c, c < 4 → (R c).length = (cls l c k).length
  len : la.length = 4
theorem Left.start {l : List UInt8} {n : Nat} {bs : Bags} (h : Sent l n bs) : Left l n n bs (fun c => cls l c n) [-1, -1, -1, -1] := by
  refine ⟨h, fun c _ => cls_rise l c n, fun c hc x hx => ⟨(cls_mem hx).1, (cls_mem hx).2, ?_⟩, fun c _ => rfl, rfl⟩
  have : ([-1, -1, -1, -1] : List Int).getD c 0 = -1 := by
    rcases (by omega : c = 0 ∨ c = 1 ∨ c = 2 ∨ c = 3) with rfl | rfl | rfl | rfl <;> rfl
  rw [this]; omega
theorem Left.head {l : List UInt8} {n k : Nat} {bs : Bags} {R : Nat → List Nat} {la : List Int} (h : Left l n (k + 1) bs R la) : ∃ x r, R (clsAt l k) = x :: r := by
  have h1 := h.cnt (clsAt l k) (clsAt_lt l k)
  rw [cls_succ, if_pos rfl, List.length_append] at h1
  cases e : R (clsAt l k) with
  | nil => rw [e] at h1; simp at h1
  | cons x r => exact ⟨x, r, rfl⟩
theorem Left.next {l : List UInt8} {n k x : Nat} {bs : Bags} {R : Nat → List Nat} {la : List Int} {r : List Nat} (h : Left l n (k + 1) bs R la) (hx : R (clsAt l k) = x :: r) :
    Left l n k (keepB bs (lkOf (clsAt l k)) ((getB bs (lkOf (clsAt l k))).eraseIdx 0)) (fun c => if c = clsAt l k then r else R c) (la.set (clsAt l k) (x : Int)) := by
  have hk := clsAt_lt l k
  refine ⟨fun c hc => ?_, fun c hc => ?_, fun c hc y hy => ?_, fun c hc => ?_, by rw [List.length_set]; exact h.len⟩
  · rw [getB_keep]
    by_cases e : c = clsAt l k
    · subst e
      rw [if_pos rfl, if_pos rfl, h.get _ hc, hx]; rfl
    · rw [if_neg (fun e2 => e (lkOf_inj hc hk e2)), if_neg e, h.get c hc]
  · by_cases e : c = clsAt l k
    · rw [if_pos e]
      have := h.rise c hc
      rw [e, hx] at this
      exact (List.pairwise_cons.1 this).2
    · rw [if_neg e]; exact h.rise c hc
  · by_cases e : c = clsAt l k
    · rw [if_pos e] at hy
      have h1 := h.mem c hc y (by rw [e, hx]; exact List.mem_cons_of_mem _ hy)
      refine ⟨h1.1, h1.2.1, ?_⟩
      have h2 := h.rise c hc
      rw [e, hx] at h2
      have h3 := (List.pairwise_cons.1 h2).1 y hy
      rw [← e, List.getD_eq_getElem?_getD, List.getElem?_set_self (by rw [h.len]; exact hc)]
      show (x : Int) < y
      omega
    · rw [if_neg e] at hy
      have h1 := h.mem c hc y hy
      refine ⟨h1.1, h1.2.1, ?_⟩
      rw [List.getD_eq_getElem?_getD, List.getElem?_set_ne (Ne.symm e), ← List.getD_eq_getElem?_getD]
      exact h1.2.2
  · have h1 := h.cnt c hc
    rw [cls_succ, List.length_append] at h1
    by_cases e : c = clsAt l k
    · rw [if_pos e]
      rw [e, hx, if_pos rfl] at h1
      simp at h1
      rw [e]; omega
    · rw [if_neg e]
      rw [if_neg (Ne.symm e)] at h1
      simpa using h1
end Go.Proofs.Ytgdgjgcmglgfmaa
