/- Plain mathematics of layer frame: what Unwrap and All answer, in terms of lists of bytes. No condition. -/
import Derived.Test.YtmkadjchcfmbjaaCodeMath
import Derived.Test.YtmkadjchcfmbjaaFrameMath
namespace Go.Proofs.Ytmkadjchcfmbjaa

/-- The length that a head tells; the sum that it tells; the body that it names. -/
def lenB (L : List UInt8) : Nat := numB (L.take 4)
def sumOf (L : List UInt8) : Nat := numB ((L.drop 4).take 4)
def bodyB (L : List UInt8) : List UInt8 := (L.drop 8).take (lenB L)
theorem lenB_lt (L : List UInt8) : lenB L < 4294967296 := by
  have h := numB_lt (L.take 4)
  have h2 : 256 ^ (L.take 4).length ≤ 256 ^ 4 := Nat.pow_le_pow_right (by omega) (by simp; omega)
  unfold lenB; omega
theorem sumOf_lt (L : List UInt8) : sumOf L < 4294967296 := by
  have h := numB_lt ((L.drop 4).take 4)
  have h2 : 256 ^ ((L.drop 4).take 4).length ≤ 256 ^ 4 := Nat.pow_le_pow_right (by omega) (by simp; omega)
  unfold sumOf; omega
/-- What Unwrap says: 0 is OK. -/
def uwErr (L : List UInt8) : Nat := if L.length < 8 then 4 else if 60000 < lenB L then 3 else if L.length - 8 < lenB L then 4 else if sumB (bodyB L) = sumOf L then 0 else 5
theorem uwErr_short {L : List UInt8} (h : L.length < 8) : uwErr L = 4 := by unfold uwErr; rw [if_pos h]
theorem uwErr_long {L : List UInt8} (h : 8 ≤ L.length) (h1 : 60000 < lenB L) : uwErr L = 3 := by unfold uwErr; rw [if_neg (by omega), if_pos h1]
theorem uwErr_cut {L : List UInt8} (h : 8 ≤ L.length) (h1 : lenB L ≤ 60000) (h2 : L.length - 8 < lenB L) : uwErr L = 4 := by unfold uwErr; rw [if_neg (by omega), if_neg (by omega), if_pos h2]
theorem uwErr_sum {L : List UInt8} (h : 8 ≤ L.length) (h1 : lenB L ≤ 60000) (h2 : lenB L ≤ L.length - 8) (h3 : sumB (bodyB L) ≠ sumOf L) : uwErr L = 5 := by unfold uwErr; rw [if_neg (by omega), if_neg (by omega), if_neg (by omega), if_neg h3]
theorem uwErr_ok {L : List UInt8} (h : 8 ≤ L.length) (h1 : lenB L ≤ 60000) (h2 : lenB L ≤ L.length - 8) (h3 : sumB (bodyB L) = sumOf L) : uwErr L = 0 := by unfold uwErr; rw [if_neg (by omega), if_neg (by omega), if_neg (by omega), if_pos h3]
theorem uwErr_zero {L : List UInt8} (h : uwErr L = 0) : 8 ≤ L.length ∧ lenB L ≤ 60000 ∧ lenB L ≤ L.length - 8 ∧ sumB (bodyB L) = sumOf L := by
  unfold uwErr at h
  split at h
  · cases h
  · split at h
    · cases h
    · split at h
      · cases h
      · split at h
        · exact ⟨by omega, by omega, by omega, by assumption⟩
        · cases h
theorem uwErr_lt (L : List UInt8) : uwErr L < 6 := by
  unfold uwErr; split; · omega
  split; · omega
  split; · omega
  split <;> omega
theorem bodyB_len {L : List UInt8} (h : uwErr L = 0) : (bodyB L).length = lenB L := by
  obtain ⟨h1, h2, h3, _⟩ := uwErr_zero h
  simp [bodyB]; omega

/-- The bodies of the frames that stand there, and how many bytes these have: over at most k frames. -/
def allK : Nat → List UInt8 → List (List UInt8)
  | 0, _ => []
  | k + 1, L => if uwErr L = 0 then bodyB L :: allK k (L.drop (8 + lenB L)) else []
def usedK : Nat → List UInt8 → Nat
  | 0, _ => 0
  | k + 1, L => if uwErr L = 0 then 8 + lenB L + usedK k (L.drop (8 + lenB L)) else 0
def allB (L : List UInt8) : List (List UInt8) := allK L.length L
def usedB (L : List UInt8) : Nat := usedK L.length L
theorem fuel (k : Nat) : ∀ (j : Nat) (L : List UInt8), L.length ≤ k → L.length ≤ j → allK k L = allK j L ∧ usedK k L = usedK j L := by
  induction k with
  | zero =>
    intro j L h _
    have e : uwErr L ≠ 0 := by rw [uwErr_short (by omega)]; omega
    cases j with
    | zero => exact ⟨rfl, rfl⟩
    | succ j => rw [allK, usedK, allK, usedK, if_neg e, if_neg e]; exact ⟨rfl, rfl⟩
  | succ k ih =>
    intro j L h hj
    cases j with
    | zero =>
      have e : uwErr L ≠ 0 := by rw [uwErr_short (by omega)]; omega
      rw [allK, usedK, allK, usedK, if_neg e, if_neg e]; exact ⟨rfl, rfl⟩
    | succ j =>
      by_cases e : uwErr L = 0
      · have := ih j (L.drop (8 + lenB L)) (by simp; omega) (by simp; omega)
        rw [allK, usedK, allK, usedK, if_pos e, if_pos e, if_pos e, if_pos e, this.1, this.2]; exact ⟨rfl, rfl⟩
      · rw [allK, usedK, allK, usedK, if_neg e, if_neg e, if_neg e, if_neg e]; exact ⟨rfl, rfl⟩
theorem all_no {L : List UInt8} (h : uwErr L ≠ 0) : allB L = [] ∧ usedB L = 0 := by
  unfold allB usedB
  cases hl : L.length with
  | zero => exact ⟨rfl, rfl⟩
  | succ k => rw [allK, usedK, if_neg h, if_neg h]; exact ⟨rfl, rfl⟩
theorem all_yes {L : List UInt8} (h : uwErr L = 0) : allB L = bodyB L :: allB (L.drop (8 + lenB L)) ∧ usedB L = 8 + lenB L + usedB (L.drop (8 + lenB L)) := by
  obtain ⟨h8, _⟩ := uwErr_zero h
  unfold allB usedB
  obtain ⟨k, hk⟩ : ∃ k, L.length = k + 1 := ⟨L.length - 1, by omega⟩
  have := fuel k (L.drop (8 + lenB L)).length (L.drop (8 + lenB L)) (by simp; omega) (Nat.le_refl _)
  rw [hk, allK, usedK, if_pos h, if_pos h, this.1, this.2]; exact ⟨rfl, rfl⟩
theorem used_le (L : List UInt8) : usedB L ≤ L.length := by
  suffices h : ∀ k (L : List UInt8), L.length ≤ k → usedB L ≤ L.length from h _ L (Nat.le_refl _)
  intro k
  induction k with
  | zero => intro L h; rw [(all_no (by rw [uwErr_short (by omega)]; omega)).2]; omega
  | succ k ih =>
    intro L h
    by_cases e : uwErr L = 0
    · obtain ⟨h8, _, h3, _⟩ := uwErr_zero e
      have := ih (L.drop (8 + lenB L)) (by simp; omega)
      rw [(all_yes e).2]
      simp at this; omega
    · rw [(all_no e).2]; omega
theorem all_sizes (L : List UInt8) : (∀ l ∈ allB L, l.length ≤ 60000) ∧ (allB L).length * 8 ≤ L.length := by
  suffices h : ∀ k (L : List UInt8), L.length ≤ k → (∀ l ∈ allB L, l.length ≤ 60000) ∧ (allB L).length * 8 ≤ L.length from h _ L (Nat.le_refl _)
  intro k
  induction k with
  | zero => intro L h; rw [(all_no (by rw [uwErr_short (by omega)]; omega)).1]; simp
  | succ k ih =>
    intro L h
    by_cases e : uwErr L = 0
    · obtain ⟨h8, h6, h3, _⟩ := uwErr_zero e
      obtain ⟨i1, i2⟩ := ih (L.drop (8 + lenB L)) (by simp; omega)
      rw [(all_yes e).1]
      refine ⟨fun l hl => ?_, ?_⟩
      · rcases List.mem_cons.1 hl with rfl | hl
        · rw [bodyB_len e]; exact h6
        · exact i1 l hl
      · simp at i2 ⊢; omega
    · rw [(all_no e).1]; simp
/-- What Unwrap says rests on the frame's own bytes. -/
theorem uw_prefix {L P : List UInt8} (h : uwErr L = 0) (hp : P.take (8 + lenB L) = L.take (8 + lenB L)) : uwErr P = 0 ∧ lenB P = lenB L ∧ bodyB P = bodyB L := by
  obtain ⟨h8, h6, h7, hs⟩ := uwErr_zero h
  have hP : 8 + lenB L ≤ P.length := by
    have := congrArg List.length hp
    simp at this; omega
  have e1 : lenB P = lenB L := by
    have := congrArg (List.take 4) hp
    rw [List.take_take, List.take_take, Nat.min_eq_left (by omega)] at this
    unfold lenB; exact congrArg numB this
  have e2 : sumOf P = sumOf L := by
    have := congrArg (fun l => (l.drop 4).take 4) hp
    simp only [List.drop_take, List.take_take] at this
    rw [Nat.min_eq_left (by omega)] at this
    unfold sumOf; exact congrArg numB this
  have e3 : bodyB P = bodyB L := by
    have := congrArg (List.drop 8) hp
    rw [List.drop_take, List.drop_take, Nat.add_sub_cancel_left] at this
    unfold bodyB; rw [e1]; exact this
  exact ⟨uwErr_ok (by omega) (by omega) (by omega) (by rw [e3, e2]; exact hs), e1, e3⟩
/-- Frames behind frames. -/
theorem all_app (L M : List UInt8) : allB (L.take (usedB L) ++ M) = allB L ++ allB M ∧ usedB (L.take (usedB L) ++ M) = usedB L + usedB M := by
  suffices h : ∀ k (L : List UInt8), L.length ≤ k → allB (L.take (usedB L) ++ M) = allB L ++ allB M ∧ usedB (L.take (usedB L) ++ M) = usedB L + usedB M from h _ L (Nat.le_refl _)
  intro k
  induction k with
  | zero =>
    intro L h
    obtain ⟨n1, n2⟩ := all_no (L := L) (by rw [uwErr_short (by omega)]; omega)
    rw [n1, n2]; simp
  | succ k ih =>
    intro L h
    by_cases e : uwErr L = 0
    · obtain ⟨h8, _, h3, _⟩ := uwErr_zero e
      obtain ⟨y1, y2⟩ := all_yes e
      have hu := used_le L
      have hu' : 8 + lenB L ≤ usedB L := by omega
      obtain ⟨i1, i2⟩ := ih (L.drop (8 + lenB L)) (by simp; omega)
      have hp : (L.take (usedB L) ++ M).take (8 + lenB L) = L.take (8 + lenB L) := by
        rw [List.take_append_of_le_length (by simp; omega), List.take_take, Nat.min_eq_left hu']
      obtain ⟨p1, p2, p3⟩ := uw_prefix e hp
      obtain ⟨z1, z2⟩ := all_yes p1
      have hd : (L.take (usedB L) ++ M).drop (8 + lenB L) = (L.drop (8 + lenB L)).take (usedB (L.drop (8 + lenB L))) ++ M := by
        rw [List.drop_append_of_le_length (by simp; omega), List.drop_take]
        congr 2; omega
      rw [p2, hd] at z1 z2
      rw [z1, z2, p3, i1, i2, y1, y2]
      exact ⟨rfl, by omega⟩
    · obtain ⟨n1, n2⟩ := all_no e
      rw [n1, n2]; simp
/-- A body's frame. -/
def frameB (l : List UInt8) : List UInt8 := putB l.length 4 ++ putB (sumB l) 4 ++ l
theorem frameB_len (l : List UInt8) : (frameB l).length = 8 + l.length := by simp [frameB, putB_len]; omega
theorem frame_back (l r : List UInt8) (h : l.length ≤ 60000) :
    lenB (frameB l ++ r) = l.length ∧ bodyB (frameB l ++ r) = l ∧ uwErr (frameB l ++ r) = 0 ∧ (frameB l ++ r).drop (8 + l.length) = r := by
  have p1 := putB_len l.length 4
  have p2 := putB_len (sumB l) 4
  have hs := sumB_lt l
  have e : frameB l ++ r = putB l.length 4 ++ (putB (sumB l) 4 ++ (l ++ r)) := by simp [frameB]
  have e1 : lenB (frameB l ++ r) = l.length := by
    unfold lenB
    rw [e, take_app _ _ 4 p1, numB_put]; exact Nat.mod_eq_of_lt (by omega)
  have e2 : sumOf (frameB l ++ r) = sumB l := by
    unfold sumOf
    rw [e, drop_app _ _ 4 p1, take_app _ _ 4 p2, numB_put]; exact Nat.mod_eq_of_lt (by omega)
  have e3 : (frameB l ++ r).drop 8 = l ++ r := by
    have : frameB l ++ r = (putB l.length 4 ++ putB (sumB l) 4) ++ (l ++ r) := by simp [frameB]
    rw [this, drop_app _ _ 8 (by rw [List.length_append, p1, p2])]
  have e4 : bodyB (frameB l ++ r) = l := by
    unfold bodyB
    rw [e3, e1, take_app _ _ _ rfl]
  have e5 : (frameB l ++ r).length = 8 + l.length + r.length := by rw [List.length_append, frameB_len]
  refine ⟨e1, e4, uwErr_ok (by omega) (by omega) (by omega) (by rw [e4, e2]), ?_⟩
  rw [drop_app _ _ _ (frameB_len l)]
/-- Frames one behind the other. -/
def catB : List (List UInt8) → List UInt8
  | [] => []
  | l :: r => frameB l ++ catB r
theorem catB_snoc (ls : List (List UInt8)) (l : List UInt8) : catB (ls ++ [l]) = catB ls ++ frameB l := by
  induction ls with
  | nil => simp [catB]
  | cons x r ih => rw [List.cons_append, catB, catB, ih, List.append_assoc]
theorem cut_err (l R : List UInt8) (k : Nat) (hl : l.length ≤ 60000) (hk : k < 8 + l.length) : uwErr ((frameB l ++ R).take k) ≠ 0 := by
  have hF := frameB_len l
  have hlen : ((frameB l ++ R).take k).length = k := by simp; omega
  by_cases h8 : k < 8
  · rw [uwErr_short (by omega)]; omega
  · have e1 : lenB ((frameB l ++ R).take k) = l.length := by
      rw [← (frame_back l R hl).1]
      unfold lenB
      rw [List.take_take, Nat.min_eq_left (by omega)]
    rw [uwErr_cut (by omega) (by omega) (by omega)]; omega
/-- Of frames, cut off anywhere, those are found that stand there whole. -/
theorem cuts (ls : List (List UInt8)) (h : ∀ l ∈ ls, l.length ≤ 60000) (n k : Nat) (hn : n ≤ ls.length) (h1 : (catB (ls.take n)).length ≤ k) (h2 : n = ls.length ∨ k < (catB (ls.take (n + 1))).length) :
    allB ((catB ls).take k) = ls.take n ∧ usedB ((catB ls).take k) = (catB (ls.take n)).length := by
  induction ls generalizing n k with
  | nil =>
    have : uwErr ((catB []).take k) ≠ 0 := by rw [uwErr_short (by simp [catB])]; omega
    obtain ⟨a1, a2⟩ := all_no this
    rw [a1, a2]; simp [catB]
  | cons l r ih =>
    have hl := h l (by simp)
    have hF := frameB_len l
    cases n with
    | zero =>
      have hk : k < 8 + l.length := by
        rcases h2 with h2 | h2
        · simp at h2
        · simpa [catB, hF] using h2
      obtain ⟨a1, a2⟩ := all_no (cut_err l (catB r) k hl hk)
      rw [catB, a1, a2]; simp [catB]
    | succ n =>
      rw [List.take_succ_cons, catB, List.length_append, hF] at h1
      obtain ⟨j, rfl⟩ : ∃ j, k = (8 + l.length) + j := ⟨k - (8 + l.length), by omega⟩
      have hi := ih (fun x hx => h x (by simp [hx])) n j (by simp at hn; omega) (by omega) (by
        rcases h2 with h2 | h2
        · left; simp at h2; omega
        · right; rw [List.take_succ_cons, catB, List.length_append, hF] at h2; omega)
      have e : (catB (l :: r)).take ((8 + l.length) + j) = frameB l ++ (catB r).take j := by
        rw [catB, ← hF, List.take_length_add_append]
      obtain ⟨f1, f2, f3, f4⟩ := frame_back l ((catB r).take j) hl
      obtain ⟨y1, y2⟩ := all_yes f3
      rw [f1, f4] at y1 y2
      rw [e, y1, y2, f2, hi.1, hi.2, List.take_succ_cons, catB, List.length_append, hF]
      exact ⟨rfl, rfl⟩
theorem catB_len (ls : List (List UInt8)) (h : ∀ l ∈ ls, l.length ≤ 60000) : (catB ls).length ≤ ls.length * 60008 := by
  induction ls with
  | nil => simp [catB]
  | cons l r ih =>
    have h1 := h l (by simp)
    have h2 := ih fun x hx => h x (by simp [hx])
    rw [catB, List.length_append, frameB_len, List.length_cons]; omega
end Go.Proofs.Ytmkadjchcfmbjaa
