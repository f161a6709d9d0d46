/- Plain mathematics of layer frame: bytes of a frame turned, one after the other, and what Unwrap says of it. No condition. -/
import Derived.Test.YtmkadjchcfmbjaaFrameUw
namespace Go.Proofs.Ytmkadjchcfmbjaa

/-- F with i bytes from k on turned by Y. -/
def turnL (F : List UInt8) (k : Nat) (Y : Nat → UInt8) (i : Nat) : List UInt8 := F.mapIdx fun j b => if k ≤ j ∧ j < k + i then b ^^^ Y (j - k) else b
theorem turnL_len (F : List UInt8) (k : Nat) (Y : Nat → UInt8) (i : Nat) : (turnL F k Y i).length = F.length := by simp [turnL]
theorem turnL_start (F : List UInt8) (k : Nat) (Y : Nat → UInt8) : turnL F k Y 0 = F := by
  apply List.ext_getElem
  · simp [turnL]
  · intro j h1 h2
    simp only [turnL, List.getElem_mapIdx]
    rw [if_neg (by omega)]
theorem turnL_at (F : List UInt8) (k : Nat) (Y : Nat → UInt8) (i : Nat) (h : k + i < F.length) : (turnL F k Y i)[k + i]'(by rw [turnL_len]; exact h) = F[k + i] := by
  simp only [turnL, List.getElem_mapIdx]
  rw [if_neg (by omega)]
theorem turnL_step (F : List UInt8) (k : Nat) (Y : Nat → UInt8) (i : Nat) (h : k + i < F.length) : (turnL F k Y i).set (k + i) (F[k + i] ^^^ Y i) = turnL F k Y (i + 1) := by
  apply List.ext_getElem
  · simp [turnL]
  · intro j h1 h2
    rw [List.getElem_set]
    simp only [turnL, List.getElem_mapIdx]
    by_cases e : k + i = j
    · subst e
      have hk : k + i - k = i := by omega
      rw [if_pos rfl, if_pos (by omega), hk]
    · rw [if_neg e]
      by_cases hc : k ≤ j ∧ j < k + i
      · rw [if_pos hc, if_pos (by omega)]
      · rw [if_neg hc, if_neg (by omega)]
/-- Whether one of the first i is not 0. -/
def trn (Y : Nat → UInt8) : Nat → Bool
  | 0 => false
  | i + 1 => trn Y i || decide (Y i ≠ 0)
theorem trn_no {Y : Nat → UInt8} {i : Nat} (h : trn Y i = false) : ∀ j, j < i → Y j = 0 := by
  induction i with
  | zero => intro j hj; omega
  | succ i ih =>
    rw [trn, Bool.or_eq_false_iff] at h
    intro j hj
    by_cases e : j = i
    · subst e; simpa using h.2
    · exact ih h.1 j (by omega)
theorem trn_yes {Y : Nat → UInt8} {i : Nat} (h : trn Y i = true) : ∃ j, j < i ∧ Y j ≠ 0 := by
  induction i with
  | zero => cases h
  | succ i ih =>
    rw [trn, Bool.or_eq_true] at h
    rcases h with h | h
    · obtain ⟨j, hj, h⟩ := ih h; exact ⟨j, by omega, h⟩
    · exact ⟨i, by omega, by simpa using h⟩
theorem turn_none (F : List UInt8) (k : Nat) (Y : Nat → UInt8) (i : Nat) (h : ∀ j, j < i → Y j = 0) : turnL F k Y i = F := by
  apply List.ext_getElem
  · simp [turnL]
  · intro j h1 h2
    simp only [turnL, List.getElem_mapIdx]
    by_cases hc : k ≤ j ∧ j < k + i
    · rw [if_pos hc, h _ (by omega)]; simp
    · rw [if_neg hc]
theorem turn_split (F : List UInt8) (k : Nat) (Y : Nat → UInt8) (i : Nat) (h : k + i ≤ F.length) :
    turnL F k Y i = F.take k ++ (((F.drop k).take i).mapIdx (fun j b => b ^^^ Y j) ++ F.drop (k + i)) := by
  apply List.ext_getElem
  · simp [turnL]; omega
  · intro j h1 h2
    simp only [turnL, List.getElem_mapIdx]
    rw [turnL_len] at h1
    by_cases hk : j < k
    · rw [if_neg (by omega), List.getElem_append_left (by simp; omega)]; simp
    · by_cases hi : j < k + i
      · rw [if_pos (by omega), List.getElem_append_right (by simp; omega), List.getElem_append_left (by simp; omega)]
        have e : min k F.length = k := by omega
        have e2 : k + (j - k) = j := by omega
        simp [e, e2]
      · rw [if_neg (by omega), List.getElem_append_right (by simp; omega), List.getElem_append_right (by simp; omega)]
        have e : min k F.length = k := by omega
        have e3 : min i (F.length - k) = i := by omega
        have e2 : k + i + (j - k - i) = j := by omega
        simp [e, e2, e3]
theorem F_split (F : List UInt8) (k i : Nat) : F = F.take k ++ ((F.drop k).take i ++ F.drop (k + i)) := by
  rw [← List.drop_drop, List.take_append_drop, List.take_append_drop]

/-- What Unwrap says of a frame of which i bytes of the body were turned. -/
theorem turn_err (l : List UInt8) (t : Nat) (Y : Nat → UInt8) (i : Nat) (hl : l.length ≤ 60000) (h : t + i ≤ l.length) (h4 : i ≤ 4) :
    uwErr (turnL (frameB l) (8 + t) Y i) = if trn Y i then 5 else 0 := by
  obtain ⟨b1, b2, b3, _⟩ := frame_back l [] hl
  rw [List.append_nil] at b1 b2 b3
  obtain ⟨_, _, _, b4⟩ := uwErr_zero b3
  rw [b2] at b4
  have hF := frameB_len l
  cases ht : trn Y i
  · rw [turn_none _ _ _ _ (trn_no ht), b3]; rfl
  · obtain ⟨j, hj, hY⟩ := trn_yes ht
    have hL := turnL_len (frameB l) (8 + t) Y i
    have hs := turn_split (frameB l) (8 + t) Y i (by omega)
    have hF2 := F_split (frameB l) (8 + t) i
    generalize hM : (((frameB l).drop (8 + t)).take i).mapIdx (fun j b => b ^^^ Y j) = m' at hs
    generalize hQ : (frameB l).drop (8 + t + i) = q at *
    have hML : m'.length = i := by rw [← hM]; simp; omega
    have hmid : (((frameB l).drop (8 + t)).take i).length = i := by simp; omega
    have hP : ((frameB l).take (8 + t)).length = 8 + t := by simp; omega
    generalize hMI : ((frameB l).drop (8 + t)).take i = m at *
    generalize hPP : (frameB l).take (8 + t) = p at *
    have e8 : (turnL (frameB l) (8 + t) Y i).take 8 = (frameB l).take 8 := by
      rw [hs, hF2, List.take_append_of_le_length (by omega), List.take_append_of_le_length (by omega)]
    have e1 : lenB (turnL (frameB l) (8 + t) Y i) = l.length := by
      rw [← b1]; unfold lenB
      have := congrArg (List.take 4) e8
      rw [List.take_take, List.take_take] at this
      exact congrArg numB this
    have e2 : sumOf (turnL (frameB l) (8 + t) Y i) = sumB l := by
      rw [b4]; unfold sumOf
      have := congrArg (List.drop 4) e8
      rw [List.drop_take, List.drop_take] at this
      exact congrArg numB this
    have e3 : bodyB (turnL (frameB l) (8 + t) Y i) = p.drop 8 ++ (m' ++ q) := by
      unfold bodyB
      rw [e1, List.take_of_length_le (by simp [hL, hF]), hs, List.drop_append_of_le_length (by omega)]
    have e4 : l = p.drop 8 ++ (m ++ q) := by
      have : (frameB l).drop 8 = l := by
        have := b2; unfold bodyB at this
        rwa [b1, List.take_of_length_le (by simp [hF])] at this
      rw [← this, hF2, List.drop_append_of_le_length (by omega)]
    refine uwErr_sum (by omega) (by omega) (by omega) ?_
    rw [e2, e3, e4]
    intro hsum
    have hmm := sum_turned (p.drop 8) m' m q (by omega) (by omega) hsum
    have hjm : j < m.length := by omega
    have h1 : m[j] = m[j] ^^^ Y j := by
      have h2 : m[j] = m'[j]'(by omega) := by simp [hmm]
      have h3 : m'[j]'(by omega) = m[j] ^^^ Y j := by simp [← hM]
      rw [h3] at h2
      exact h2
    apply hY
    have h5 : m[j] ^^^ (m[j] ^^^ Y j) = m[j] ^^^ m[j] := by rw [← h1]
    rw [← UInt8.xor_assoc, UInt8.xor_self, UInt8.zero_xor] at h5
    exact h5
end Go.Proofs.Ytmkadjchcfmbjaa
