/- Plain mathematics: reading values out of bytes one after the other; what more bytes behind change (nothing), what is put is taken. No condition. -/
import Derived.Test.YtlkgpajpblhkeaaDoorCodeTake

namespace Go.Proofs.YtlkgpajpblhkeaaDoor

/-- A way to read: the value and what is left; none, if it isn't there. -/
abbrev Prs (α : Type) := List UInt8 → Option (α × List UInt8)
def pureP {α : Type} (x : α) : Prs α := fun l => some (x, l)
def bindP {α β : Type} (p : Prs α) (f : α → Prs β) : Prs β := fun l => match p l with
  | some (x, r) => f x r
  | none => none
/-- n values in a row. -/
def repP {α : Type} (p : Prs α) : Nat → Prs (List α)
  | 0 => pureP []
  | n + 1 => bindP p fun x => bindP (repP p n) fun xs => pureP (x :: xs)
section

variable {α β : Type} {p : Prs α} {f : α → Prs β} {l r s : List UInt8} {x : α} {y : β}

theorem bind_some (h : p l = some (x, r)) : bindP p f l = f x r := by unfold bindP; rw [h]
theorem bind_none (h : p l = none) : bindP p f l = none := by unfold bindP; rw [h]
theorem bind_inv (h : bindP p f l = some (y, s)) : ∃ x r, p l = some (x, r) ∧ f x r = some (y, s) := by
  unfold bindP at h
  split at h
  · rename_i x r e; exact ⟨x, r, e, h⟩
  · cases h
/-- What stands behind is left as it stands. -/
def ExtP (p : Prs α) : Prop := ∀ l x r s, p l = some (x, r) → p (l ++ s) = some (x, r ++ s)
theorem ext_pure (x : α) : ExtP (pureP x) := by
  intro l y r s h
  unfold pureP at *
  injection h with h; injection h with h1 h2
  rw [h1, h2]
theorem ext_bind (hp : ExtP p) (hf : ∀ x, ExtP (f x)) : ExtP (bindP p f) := by
  intro l y r s h
  obtain ⟨x, m, h1, h2⟩ := bind_inv h
  rw [bind_some (hp l x m s h1)]
  exact hf x m y r s h2
theorem ext_rep (hp : ExtP p) : ∀ n, ExtP (repP p n)
  | 0 => ext_pure []
  | n + 1 => ext_bind hp fun x => ext_bind (ext_rep hp n) fun xs => ext_pure (x :: xs)
/-- No beginning of bytes that are read to their end is read, but for the whole of them. -/
theorem ext_cut (hp : ExtP p) (h : p l = some (x, [])) (k : Nat) (hk : k < l.length) : p (l.take k) = none := by
  cases e : p (l.take k) with
  | none => rfl
  | some z =>
    exfalso
    obtain ⟨x', r'⟩ := z
    have h1 := hp _ _ _ (l.drop k) e
    rw [List.take_append_drop, h] at h1
    injection h1 with h1; injection h1 with _ h2
    have h3 := congrArg List.length h2
    rw [List.length_append, List.length_drop, List.length_nil] at h3
    omega

/-- i values of n were read: xs, and r is left. -/
def RunP (p : Prs α) (n : Nat) (l : List UInt8) (i : Nat) (xs : List α) (r : List UInt8) : Prop :=
  i ≤ n ∧ xs.length = i ∧ repP p n l = match repP p (n - i) r with
    | some (ys, s) => some (xs ++ ys, s)
    | none => none
theorem RunP.start (p : Prs α) (n : Nat) (l : List UInt8) : RunP p n l 0 [] l := by
  refine ⟨Nat.zero_le _, rfl, ?_⟩
  rw [Nat.sub_zero]
  split
  · rename_i ys s e; rw [e]; rfl
  · assumption
theorem RunP.next {n i : Nat} {xs : List α} {r' : List UInt8} (h : RunP p n l i xs r) (hi : i < n) (hx : p r = some (x, r')) : RunP p n l (i + 1) (xs ++ [x]) r' := by
  obtain ⟨_, h2, h3⟩ := h
  refine ⟨hi, by simp [h2], ?_⟩
  rw [h3]
  have e : n - i = (n - (i + 1)) + 1 := by omega
  rw [e, repP, bind_some hx]
  cases e2 : repP p (n - (i + 1)) r' with
  | none => rw [bind_none e2]
  | some z =>
    obtain ⟨ys, s⟩ := z
    rw [bind_some e2]
    simp [pureP]
theorem RunP.fail {n i : Nat} {xs : List α} (h : RunP p n l i xs r) (hi : i < n) (hx : p r = none) : repP p n l = none := by
  obtain ⟨_, _, h3⟩ := h
  rw [h3]
  have e : n - i = (n - (i + 1)) + 1 := by omega
  rw [e, repP, bind_none hx]
theorem RunP.done {n : Nat} {xs : List α} (h : RunP p n l n xs r) : repP p n l = some (xs, r) := by
  obtain ⟨_, _, h3⟩ := h
  rw [h3, Nat.sub_self]
  simp [repP, pureP]
theorem RunP.len {n i : Nat} {xs : List α} (h : RunP p n l i xs r) : xs.length = i := h.2.1
theorem rep_len {n : Nat} {xs : List α} (h : repP p n l = some (xs, r)) : xs.length = n := by
  induction n generalizing l r xs with
  | zero => injection h with h; injection h with h1 _; rw [← h1]; rfl
  | succ n ih =>
    obtain ⟨x, m, _, h2⟩ := bind_inv h
    obtain ⟨ys, m', h3, h4⟩ := bind_inv h2
    injection h4 with h4; injection h4 with h5 _
    rw [← h5, List.length_cons, ih h3]
/-- What is put is taken. -/
theorem back_rep (enc : α → List UInt8) (good : α → Prop) (h : ∀ x R, good x → p (enc x ++ R) = some (x, R)) : ∀ (xs : List α) (R : List UInt8), (∀ x ∈ xs, good x) → repP p xs.length (xs.flatMap enc ++ R) = some (xs, R)
  | [], R, _ => rfl
  | x :: xs, R, hg => by
    rw [List.length_cons, repP, List.flatMap_cons, List.append_assoc, bind_some (h x _ (hg x (by simp))), bind_some (back_rep enc good h xs R fun y hy => hg y (by simp [hy]))]
    rfl
end

/-- A number of k bytes; a text of at most lim bytes. -/
def numP (k : Nat) : Prs Nat := fun l => if k ≤ l.length then some (numB (l.take k), l.drop k) else none
noncomputable def textP (lim : Nat) : Prs (List UInt8) := open Classical in fun l => if textOk l lim then some ((l.drop 2).take (textLen l), (l.drop 2).drop (textLen l)) else none
theorem ext_num (k : Nat) : ExtP (numP k) := by
  intro l x r s h
  unfold numP at h
  split at h
  · rename_i hk
    injection h with h; injection h with h1 h2
    unfold numP
    rw [if_pos (by rw [List.length_append]; omega), List.take_append_of_le_length hk, List.drop_append_of_le_length hk, h1, h2]
  · cases h
theorem ext_text (lim : Nat) : ExtP (textP lim) := by
  intro l x r s h
  unfold textP at h
  split at h
  · rename_i hk
    injection h with h; injection h with h1 h2
    have hk' := hk
    obtain ⟨k1, k2, k3⟩ := hk'
    have e1 : textLen (l ++ s) = textLen l := by unfold textLen; rw [List.take_append_of_le_length (by omega)]
    have e2 : (l ++ s).drop 2 = l.drop 2 ++ s := List.drop_append_of_le_length (by omega)
    have hd : textLen l ≤ (l.drop 2).length := by rw [List.length_drop]; omega
    unfold textP
    rw [if_pos (show textOk (l ++ s) lim from ⟨by rw [List.length_append]; omega, by rw [e1]; exact k2, by rw [e1, List.length_append]; omega⟩), e1, e2, List.take_append_of_le_length hd, List.drop_append_of_le_length hd, h1, h2]
  · cases h
theorem back_num (x k : Nat) (R : List UInt8) (h : x < 256 ^ k) : numP k (putB x k ++ R) = some (x, R) := by
  unfold numP
  rw [if_pos (by rw [List.length_append, putB_len]; omega), take_app _ _ k (putB_len x k), drop_app _ _ k (putB_len x k), numB_put, Nat.mod_eq_of_lt h]
theorem back_text (t R : List UInt8) (lim : Nat) (h : t.length ≤ lim) (hl : lim ≤ 65535) : textP lim (textB t ++ R) = some (t, R) := by
  have ht : t.take 65535 = t := List.take_of_length_le (by omega)
  have hm : min t.length 65535 = t.length := by omega
  have e : textB t ++ R = putB t.length 2 ++ (t ++ R) := by rw [textB, ht, hm, List.append_assoc]
  have hp := putB_len t.length 2
  have e1 : textLen (putB t.length 2 ++ (t ++ R)) = t.length := by
    rw [textLen, take_app _ _ 2 hp, numB_put]; exact Nat.mod_eq_of_lt (by omega)
  rw [e]
  unfold textP
  rw [if_pos (show textOk _ lim from ⟨by rw [List.length_append, hp]; omega, by rw [e1]; omega, by rw [e1, List.length_append, hp, List.length_append]; omega⟩), e1, drop_app _ _ 2 hp, take_app _ _ _ rfl, drop_app _ _ _ rfl]
end Go.Proofs.YtlkgpajpblhkeaaDoor
