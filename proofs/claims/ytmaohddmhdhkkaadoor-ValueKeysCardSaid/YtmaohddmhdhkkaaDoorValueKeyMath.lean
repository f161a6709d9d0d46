/- Plain mathematics of keys. No condition. -/
import Derived.Test.YtmaohddmhdhkkaaDoorValueMath

namespace Go.Proofs.YtmaohddmhdhkkaaDoor

theorem key_parts {l : List UInt8} (h : keyB l = true) : l.all (fun c => keyC c.toNat) = true ∧ 1 ≤ l.length ∧ l.length ≤ 12 := by
  unfold keyB at h
  rw [Bool.and_eq_true, Bool.and_eq_true] at h
  exact ⟨h.1, of_decide_eq_true h.2.1, of_decide_eq_true h.2.2⟩
theorem key_mk {l : List UInt8} (h : l.all (fun c => keyC c.toNat) = true) (h1 : 1 ≤ l.length) : keyB l = decide (l.length ≤ 12) := by
  unfold keyB
  rw [h, decide_eq_true h1]; rfl
theorem key_none : keyB [] = false := rfl
theorem key_take {l : List UInt8} (h : keyB l = true) (n : Nat) (h1 : 1 ≤ n) (h2 : n ≤ l.length) : keyB (l.take n) = true := by
  obtain ⟨a, b, c⟩ := key_parts h
  have hl : (l.take n).length = n := by simp; omega
  rw [key_mk (List.all_eq_true.2 fun x hx => List.all_eq_true.1 a x (List.mem_of_mem_take hx)) (by omega)]
  simp; omega
theorem key_app {l m : List UInt8} (h : keyB l = true) (h' : keyB m = true) : keyB (l ++ m) = decide (l.length + m.length ≤ 12) := by
  obtain ⟨a, b, c⟩ := key_parts h
  obtain ⟨a', b', c'⟩ := key_parts h'
  rw [key_mk (by rw [List.all_append, a, a']; rfl) (by simp; omega), List.length_append]
theorem key_dash (l : List UInt8) : keyB (l ++ [45]) = false := by
  unfold keyB
  rw [List.all_append]
  have : ([45] : List UInt8).all (fun c => keyC c.toNat) = false := by decide
  rw [this, Bool.and_false, Bool.false_and]
theorem key_big (l : List UInt8) : keyB ([65] ++ l) = false := by
  unfold keyB
  rw [List.all_append]
  have : ([65] : List UInt8).all (fun c => keyC c.toNat) = false := by decide
  rw [this, Bool.false_and, Bool.false_and]
end Go.Proofs.YtmaohddmhdhkkaaDoor
