/- Plain mathematics of layer ballot: the order of ballots, the last one of many, the next one, a ballot's bytes. No condition. -/
import Derived.Test.YtcmboanepllgjaaCodeMath

namespace Go.Proofs.Ytcmboanepllgjaa

/-- A ballot: its round and its node. -/
abbrev Bal := Int × Int
/-- Whether a lies ahead of b. -/
def lessB (a b : Bal) : Bool := if a.1 = b.1 then decide (a.2 < b.2) else decide (a.1 < b.1)
def formB (n : Int) : Bool := decide (0 ≤ n) && decide (n < 5)
theorem less_iff (a b : Bal) : lessB a b = true ↔ a.1 < b.1 ∨ (a.1 = b.1 ∧ a.2 < b.2) := by
  unfold lessB; split <;> simp <;> omega
theorem less_false (a b : Bal) : lessB a b = false ↔ ¬ (a.1 < b.1 ∨ (a.1 = b.1 ∧ a.2 < b.2)) := by rw [← less_iff]; simp
theorem less_self (a : Bal) : lessB a a = false := by rw [less_false]; omega
theorem less_asym {a b : Bal} (h : lessB a b = true) : lessB b a = false := by rw [less_iff] at h; rw [less_false]; omega
theorem less_none {a b : Bal} (h : lessB a b = false) (h' : lessB b a = false) : a = b := by
  rw [less_false] at h h'; obtain ⟨x, y⟩ := a; obtain ⟨z, u⟩ := b; simp at h h' ⊢; omega
theorem less_trans {a b c : Bal} (h : lessB a b = true) (h' : lessB b c = true) : lessB a c = true := by rw [less_iff] at *; omega
theorem less_not_trans {a b c : Bal} (h : lessB b a = false) (h' : lessB c b = false) : lessB c a = false := by rw [less_false] at *; omega

/-- The greater of two; the greatest of many, from a first one on. -/
def most2 (m b : Bal) : Bal := if lessB m b then b else m
def mostF (x : Bal) (l : List Bal) : Bal := l.foldl most2 x
def mostB : List Bal → Bal
  | [] => (0, 0)
  | x :: l => mostF x l
theorem most2_left (m b : Bal) : lessB (most2 m b) m = false := by
  unfold most2; cases h : lessB m b
  · exact less_self m
  · exact less_asym h
theorem most2_right (m b : Bal) : lessB (most2 m b) b = false := by
  unfold most2; cases h : lessB m b
  · exact h
  · exact less_self b
theorem mostF_ge (x : Bal) (l : List Bal) : lessB (mostF x l) x = false ∧ ∀ y ∈ l, lessB (mostF x l) y = false := by
  induction l generalizing x with
  | nil => exact ⟨less_self x, fun y hy => by cases hy⟩
  | cons b r ih =>
    obtain ⟨h1, h2⟩ := ih (most2 x b)
    refine ⟨less_not_trans (most2_left x b) h1, fun y hy => ?_⟩
    rcases List.mem_cons.1 hy with rfl | hy
    · exact less_not_trans (most2_right x y) h1
    · exact h2 y hy
theorem mostF_mem (x : Bal) (l : List Bal) : mostF x l = x ∨ mostF x l ∈ l := by
  induction l generalizing x with
  | nil => exact .inl rfl
  | cons b r ih =>
    rcases ih (most2 x b) with h | h
    · have h' : mostF x (b :: r) = most2 x b := h
      rw [h']; unfold most2; cases lessB x b
      · exact .inl rfl
      · exact .inr (List.mem_cons_self ..)
    · exact .inr (List.mem_cons_of_mem _ h)
theorem mostB_ge (l : List Bal) : ∀ y ∈ l, lessB (mostB l) y = false := by
  cases l with
  | nil => intro y hy; cases hy
  | cons x r =>
    intro y hy
    rcases List.mem_cons.1 hy with rfl | hy
    · exact (mostF_ge y r).1
    · exact (mostF_ge x r).2 y hy
theorem mostB_mem (l : List Bal) (h : l ≠ []) : mostB l ∈ l := by
  cases l with
  | nil => exact absurd rfl h
  | cons x r =>
    rcases mostF_mem x r with h | h
    · show mostF x r ∈ _; rw [h]; exact List.mem_cons_self ..
    · exact List.mem_cons_of_mem _ h
/-- One of the list that lies ahead of none is the greatest. -/
theorem mostB_is {l : List Bal} {x : Bal} (hx : x ∈ l) (h : ∀ y ∈ l, lessB x y = false) : mostB l = x :=
  less_none (mostB_ge l x hx) (h _ (mostB_mem l (List.ne_nil_of_mem hx)))
theorem mostF_snoc (x : Bal) (l : List Bal) (b : Bal) : mostF x (l ++ [b]) = most2 (mostF x l) b := by simp [mostF]

/-- What is next for node m: the ballot, and the error. -/
def nextB (a : Bal) (m : Int) : Bal × Int := if formB m then (if a.1 = 4294967295 then ((0, 0), 7) else ((a.1 + 1, m), 0)) else ((0, 0), 1)

/-- A ballot's bytes. -/
def balB (r : Nat) (n : Int) : List UInt8 := putB r 4 ++ [UInt8.ofNat (n % 256).toNat]
theorem balB_len (r : Nat) (n : Int) : (balB r n).length = 5 := by simp [balB, putB_len]
/-- The ballot that is next in bytes, and whether there is one. -/
def tkR (l : List UInt8) : Nat := numB (l.take 4)
def tkNode (l : List UInt8) : Nat := numB ((l.drop 4).take 1)
def balOk (l : List UInt8) : Prop := 5 ≤ l.length ∧ tkNode l < 5
theorem tkR_lt (l : List UInt8) : tkR l < 4294967296 := by
  have h := numB_lt (l.take 4)
  have h2 : 256 ^ (l.take 4).length ≤ 256 ^ 4 := Nat.pow_le_pow_right (by omega) (by simp; omega)
  unfold tkR; omega
theorem tkNode_lt (l : List UInt8) : tkNode l < 256 := by
  have h := numB_lt ((l.drop 4).take 1)
  have h2 : 256 ^ ((l.drop 4).take 1).length ≤ 256 ^ 1 := Nat.pow_le_pow_right (by omega) (by simp; omega)
  unfold tkNode; omega
theorem bal_back (r : Nat) (n : Int) (hr : r < 4294967296) (h0 : 0 ≤ n) (h5 : n < 5) : tkR (balB r n) = r ∧ (tkNode (balB r n) : Int) = n ∧ balOk (balB r n) ∧ (balB r n).drop 5 = [] := by
  have e1 : (balB r n).take 4 = putB r 4 := take_app _ _ 4 (putB_len r 4)
  have e2 : (balB r n).drop 4 = [UInt8.ofNat (n % 256).toNat] := drop_app _ _ 4 (putB_len r 4)
  have e3 : tkNode (balB r n) = n.toNat := by
    have h8 : (UInt8.ofNat (n % 256).toNat).toNat = (n % 256).toNat % 256 := UInt8.toNat_ofNat'
    unfold tkNode; rw [e2]; show numB [_] = _
    rw [numB_cons, numB_nil, h8]; simp; omega
  refine ⟨?_, by rw [e3]; omega, ⟨by rw [balB_len]; omega, by rw [e3]; omega⟩, List.drop_of_length_le (by rw [balB_len]; omega)⟩
  unfold tkR; rw [e1, numB_put]; omega
end Go.Proofs.Ytcmboanepllgjaa
