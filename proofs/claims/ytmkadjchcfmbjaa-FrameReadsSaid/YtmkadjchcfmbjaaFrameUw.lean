/- Plain mathematics of layer frame: what Unwrap and All answer, in terms of lists of bytes. No condition. -/
import Derived.Test.YtmkadjchcfmbjaaCodeMath
import Derived.Test.YtmkadjchcfmbjaaFrameMath
namespace Go.Proofs.Ytmkadjchcfmbjaa

/-- The length that a head tells; the sum that it tells; the body that it names. -/
def lenB (L : List UInt8) : Nat := numB (L.take 4)
def sumOf (L : List UInt8) : Nat := numB ((L.drop 4).take 4)
def bodyB (L : List UInt8) : List UInt8 := (L.drop 8).take (lenB L)
theorem lenB_lt (L : List UInt8) : lenB L < 4294967296 := by
  have h := numB_lt (L.take 4)
  have h2 : 256 ^ (L.take 4).length ≤ 256 ^ 4 := Nat.pow_le_pow_right (by omega) (by simp; omega)
  unfold lenB; omega
theorem sumOf_lt (L : List UInt8) : sumOf L < 4294967296 := by
  have h := numB_lt ((L.drop 4).take 4)
  have h2 : 256 ^ ((L.drop 4).take 4).length ≤ 256 ^ 4 := Nat.pow_le_pow_right (by omega) (by simp; omega)
  unfold sumOf; omega
/-- What Unwrap says: 0 is OK. -/
def uwErr (L : List UInt8) : Nat := if L.length < 8 then 4 else if 60000 < lenB L then 3 else if L.length - 8 < lenB L then 4 else if sumB (bodyB L) = sumOf L then 0 else 5
theorem uwErr_short {L : List UInt8} (h : L.length < 8) : uwErr L = 4 := by unfold uwErr; rw [if_pos h]
theorem uwErr_long {L : List UInt8} (h : 8 ≤ L.length) (h1 : 60000 < lenB L) : uwErr L = 3 := by unfold uwErr; rw [if_neg (by omega), if_pos h1]
theorem uwErr_cut {L : List UInt8} (h : 8 ≤ L.length) (h1 : lenB L ≤ 60000) (h2 : L.length - 8 < lenB L) : uwErr L = 4 := by unfold uwErr; rw [if_neg (by omega), if_neg (by omega), if_pos h2]
theorem uwErr_sum {L : List UInt8} (h : 8 ≤ L.length) (h1 : lenB L ≤ 60000) (h2 : lenB L ≤ L.length - 8) (h3 : sumB (bodyB L) ≠ sumOf L) : uwErr L = 5 := by unfold uwErr; rw [if_neg (by omega), if_neg (by omega), if_neg (by omega), if_neg h3]
theorem uwErr_ok {L : List UInt8} (h : 8 ≤ L.length) (h1 : lenB L ≤ 60000) (h2 : lenB L ≤ L.length - 8) (h3 : sumB (bodyB L) = sumOf L) : uwErr L = 0 := by unfold uwErr; rw [if_neg (by omega), if_neg (by omega), if_neg (by omega), if_pos h3]
theorem uwErr_zero {L : List UInt8} (h : uwErr L = 0) : 8 ≤ L.length ∧ lenB L ≤ 60000 ∧ lenB L ≤ L.length - 8 ∧ sumB (bodyB L) = sumOf L := by
  unfold uwErr at h
  split at h
  · cases h
  · split at h
    · cases h
    · split at h
      · cases h
      · split at h
        · exact ⟨by omega, by omega, by omega, by assumption⟩
        · cases h
theorem uwErr_lt (L : List UInt8) : uwErr L < 6 := by
  unfold uwErr; split; · omega
  split; · omega
  split; · omega
  split <;> omega
theorem bodyB_len {L : List UInt8} (h : uwErr L = 0) : (bodyB L).length = lenB L := by
  obtain ⟨h1, h2, h3, _⟩ := uwErr_zero h
  simp [bodyB]; omega

/-- The bodies of the frames that stand there, and how many bytes these have: over at most k frames. -/
def allK : Nat → List UInt8 → List (List UInt8)
  | 0, _ => []
  | k + 1, L => if uwErr L = 0 then bodyB L :: allK k (L.drop (8 + lenB L)) else []
def usedK : Nat → List UInt8 → Nat
  | 0, _ => 0
  | k + 1, L => if uwErr L = 0 then 8 + lenB L + usedK k (L.drop (8 + lenB L)) else 0
def allB (L : List UInt8) : List (List UInt8) := allK L.length L
def usedB (L : List UInt8) : Nat := usedK L.length L
theorem fuel (k : Nat) : ∀ (j : Nat) (L : List UInt8), L.length ≤ k → L.length ≤ j → allK k L = allK j L ∧ usedK k L = usedK j L := by
  induction k with
  | zero =>
    intro j L h _
    have e : uwErr L ≠ 0 := by rw [uwErr_short (by omega)]; omega
    cases j with
    | zero => exact ⟨rfl, rfl⟩
    | succ j => rw [allK, usedK, allK, usedK, if_neg e, if_neg e]; exact ⟨rfl, rfl⟩
  | succ k ih =>
    intro j L h hj
    cases j with
    | zero =>
      have e : uwErr L ≠ 0 := by rw [uwErr_short (by omega)]; omega
      rw [allK, usedK, allK, usedK, if_neg e, if_neg e]; exact ⟨rfl, rfl⟩
    | succ j =>
      by_cases e : uwErr L = 0
      · have := ih j (L.drop (8 + lenB L)) (by simp; omega) (by simp; omega)
        rw [allK, usedK, allK, usedK, if_pos e, if_pos e, if_pos e, if_pos e, this.1, this.2]; exact ⟨rfl, rfl⟩
      · rw [allK, usedK, allK, usedK, if_neg e, if_neg e, if_neg e, if_neg e]; exact ⟨rfl, rfl⟩
theorem all_no {L : List UInt8} (h : uwErr L ≠ 0) : allB L = [] ∧ usedB L = 0 := by
  unfold allB usedB
  cases hl : L.length with
  | zero => exact ⟨rfl, rfl⟩
  | succ k => rw [allK, usedK, if_neg h, if_neg h]; exact ⟨rfl, rfl⟩
theorem all_yes {L : List UInt8} (h : uwErr L = 0) : allB L = bodyB L :: allB (L.drop (8 + lenB L)) ∧ usedB L = 8 + lenB L + usedB (L.drop (8 + lenB L)) := by
  obtain ⟨h8, _⟩ := uwErr_zero h
  unfold allB usedB
  obtain ⟨k, hk⟩ : ∃ k, L.length = k + 1 := ⟨L.length - 1, by omega⟩
  have := fuel k (L.drop (8 + lenB L)).length (L.drop (8 + lenB L)) (by simp; omega) (Nat.le_refl _)
  rw [hk, allK, usedK, if_pos h, if_pos h, this.1, this.2]; exact ⟨rfl, rfl⟩
theorem used_le (L : List UInt8) : usedB L ≤ L.length := by
  suffices h : ∀ k (L : List UInt8), L.length ≤ k → usedB L ≤ L.length from h _ L (Nat.le_refl _)
  intro k
  induction k with
  | zero => intro L h; rw [(all_no (by rw [uwErr_short (by omega)]; omega)).2]; omega
  | succ k ih =>
    intro L h
    by_cases e : uwErr L = 0
    · obtain ⟨h8, _, h3, _⟩ := uwErr_zero e
      have := ih (L.drop (8 + lenB L)) (by simp; omega)
      rw [(all_yes e).2]
      simp at this; omega
    · rw [(all_no e).2]; omega
theorem all_sizes (L : List UInt8) : (∀ l ∈ allB L, l.length ≤ 60000) ∧ (allB L).length * 8 ≤ L.length := by
  suffices h : ∀ k (L : List UInt8), L.length ≤ k → (∀ l ∈ allB L, l.length ≤ 60000) ∧ (allB L).length * 8 ≤ L.length from h _ L (Nat.le_refl _)
  intro k
  induction k with
  | zero => intro L h; rw [(all_no (by rw [uwErr_short (by omega)]; omega)).1]; simp
  | succ k ih =>
    intro L h
    by_cases e : uwErr L = 0
    · obtain ⟨h8, h6, h3, _⟩ := uwErr_zero e
      obtain ⟨i1, i2⟩ := ih (L.drop (8 + lenB L)) (by simp; omega)
      rw [(all_yes e).1]
      refine ⟨fun l hl => ?_, ?_⟩
      · rcases List.mem_cons.1 hl with rfl | hl
        · rw [bodyB_len e]; exact h6
        · exact i1 l hl
      · simp at i2 ⊢; omega
    · rw [(all_no e).1]; simp
/-- A body's frame. -/
def frameB (l : List UInt8) : List UInt8 := putB l.length 4 ++ putB (sumB l) 4 ++ l
theorem frameB_len (l : List UInt8) : (frameB l).length = 8 + l.length := by simp [frameB, putB_len]; omega
theorem frame_back (l r : List UInt8) (h : l.length ≤ 60000) :
    lenB (frameB l ++ r) = l.length ∧ bodyB (frameB l ++ r) = l ∧ uwErr (frameB l ++ r) = 0 ∧ (frameB l ++ r).drop (8 + l.length) = r := by
  have p1 := putB_len l.length 4
  have p2 := putB_len (sumB l) 4
  have hs := sumB_lt l
  have e : frameB l ++ r = putB l.length 4 ++ (putB (sumB l) 4 ++ (l ++ r)) := by simp [frameB]
  have e1 : lenB (frameB l ++ r) = l.length := by
    unfold lenB
    rw [e, take_app _ _ 4 p1, numB_put]; exact Nat.mod_eq_of_lt (by omega)
  have e2 : sumOf (frameB l ++ r) = sumB l := by
    unfold sumOf
    rw [e, drop_app _ _ 4 p1, take_app _ _ 4 p2, numB_put]; exact Nat.mod_eq_of_lt (by omega)
  have e3 : (frameB l ++ r).drop 8 = l ++ r := by
    have : frameB l ++ r = (putB l.length 4 ++ putB (sumB l) 4) ++ (l ++ r) := by simp [frameB]
    rw [this, drop_app _ _ 8 (by rw [List.length_append, p1, p2])]
  have e4 : bodyB (frameB l ++ r) = l := by
    unfold bodyB
    rw [e3, e1, take_app _ _ _ rfl]
  have e5 : (frameB l ++ r).length = 8 + l.length + r.length := by rw [List.length_append, frameB_len]
  refine ⟨e1, e4, uwErr_ok (by omega) (by omega) (by omega) (by rw [e4, e2]), ?_⟩
  rw [drop_app _ _ _ (frameB_len l)]
end Go.Proofs.Ytmkadjchcfmbjaa
