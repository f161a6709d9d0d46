/- What a law's disk comes to that is synced on the way, cut and opened: plain mathematics. No condition. -/
import Derived.Test.YtcfmifongbapkaaGreatDoorQZL
/- WalLastsMath -/
namespace Go.Proofs.YtcfmifongbapkaaGreatDoor

set_option linter.unusedVariables false
set_option linter.unusedSimpArgs false

/-- Behind a cut and an Open: the first ones, at least those that last. -/
theorem lasts_cut (xs : List Rc) (h : Good xs) (s k : Nat) (hs : s ≤ xs.length) (hl : (catR xs).length ≤ 1000000) : ∃ t, s ≤ t ∧ t ≤ xs.length ∧ opnE (dkA (catR (xs.take s) ++ (catR (xs.drop s)).take k) []) = 0 ∧ opnD (dkA (catR (xs.take s) ++ (catR (xs.drop s)).take k) []) = dkA (catR (xs.take t)) [] ∧ opnL (dkA (catR (xs.take s) ++ (catR (xs.drop s)).take k) []) = xs.take t := by
  have hg : Good (xs.drop s) := fun x hx => h x (List.mem_of_mem_drop hx)
  obtain ⟨m, m1, m2, m3, m4, m5, _⟩ := tell_cut (xs.drop s) hg k
  have e : xs.take (s + m) = xs.take s ++ (xs.drop s).take m := List.take_add ..
  obtain ⟨t1, t2⟩ := tell_cat (xs.take s) ((catR (xs.drop s)).take k) (h.take s)
  have hw : (catR xs).length = (catR (xs.take s)).length + (catR (xs.drop s)).length := by
    have e2 : catR xs = catR (xs.take s) ++ catR (xs.drop s) := by rw [← catR_app, List.take_append_drop]
    rw [e2, List.length_append]
  obtain ⟨o1, o2, o3⟩ := opn_dk (B := catR (xs.take s) ++ (catR (xs.drop s)).take k) (by rw [List.length_append, List.length_take]; omega)
  rw [List.length_drop] at m1
  refine ⟨s + m, by omega, by omega, o1, ?_, ?_⟩
  · rw [o2, t2, m3, e, catR_app, List.take_append, List.take_of_length_le (by omega), Nat.add_sub_cancel_left, List.take_take, Nat.min_eq_left m4, m5]
  · rw [o3, t1, m2, e]
/-- What lasts, and what doesn't yet, ahead of record i: a Sync is made ahead of record s. -/
noncomputable def laS (xs : List Rc) (s i : Nat) : List UInt8 := if s < i then catR (xs.take s) else []
noncomputable def reS (xs : List Rc) (s i : Nat) : List UInt8 := if s < i then catR ((xs.take i).drop s) else catR (xs.take i)
theorem lasts_len (xs : List Rc) (s i : Nat) : (laS xs s i).length + (reS xs s i).length = (catR (xs.take i)).length := by
  unfold laS reS
  by_cases h : s < i
  · rw [if_pos h, if_pos h]
    have e : xs.take i = xs.take s ++ (xs.take i).drop s := by
      have := (List.take_append_drop s (xs.take i)).symm
      rwa [List.take_take, Nat.min_eq_left (by omega)] at this
    have e2 : catR (xs.take i) = catR (xs.take s) ++ catR ((xs.take i).drop s) := by rw [← catR_app, ← e]
    rw [e2, List.length_append]
  · rw [if_neg h, if_neg h]; simp
theorem lasts_ne (xs : List Rc) (s i : Nat) (hi : i < xs.length) (hne : i ≠ s) : laS xs s (i + 1) = laS xs s i ∧ reS xs s (i + 1) = reS xs s i ++ frameB (rcB xs[i]) := by
  unfold laS reS
  by_cases h : s < i
  · rw [if_pos h, if_pos (show s < i + 1 by omega), if_pos h, if_pos (show s < i + 1 by omega)]
    refine ⟨rfl, ?_⟩
    rw [List.take_succ_eq_append_getElem hi, List.drop_append_of_le_length (by rw [List.length_take]; omega), catR_app, catR_one]
  · rw [if_neg h, if_neg (show ¬ s < i + 1 by omega), if_neg h, if_neg (show ¬ s < i + 1 by omega)]
    exact ⟨rfl, catR_next xs i hi⟩
theorem lasts_eq (xs : List Rc) (s : Nat) (hi : s < xs.length) : laS xs s s = [] ∧ reS xs s s = catR (xs.take s) ∧ laS xs s (s + 1) = catR (xs.take s) ∧ reS xs s (s + 1) = frameB (rcB xs[s]) := by
  unfold laS reS
  rw [if_neg (Nat.lt_irrefl s), if_neg (Nat.lt_irrefl s), if_pos (Nat.lt_succ_self s), if_pos (Nat.lt_succ_self s)]
  refine ⟨rfl, rfl, rfl, ?_⟩
  rw [List.take_succ_eq_append_getElem hi, List.drop_append_of_le_length (by rw [List.length_take]; omega), List.drop_of_length_le (by rw [List.length_take]; omega), List.nil_append, catR_one]
theorem lasts_end (xs : List Rc) (s : Nat) (hs : s < xs.length) : laS xs s xs.length = catR (xs.take s) ∧ reS xs s xs.length = catR (xs.drop s) := by
  unfold laS reS
  rw [if_pos hs, if_pos hs, List.take_length]
  exact ⟨rfl, rfl⟩
theorem lasts_all (xs : List Rc) : laS xs xs.length xs.length = [] ∧ reS xs xs.length xs.length = catR xs := by
  unfold laS reS
  rw [if_neg (Nat.lt_irrefl _), if_neg (Nat.lt_irrefl _), List.take_length]
  exact ⟨rfl, rfl⟩
theorem lasts_zero (xs : List Rc) (s : Nat) : laS xs s 0 = [] ∧ reS xs s 0 = [] := by
  unfold laS reS
  rw [if_neg (Nat.not_lt_zero s), if_neg (Nat.not_lt_zero s)]
  exact ⟨rfl, rfl⟩
theorem lasts_sync (xs : List Rc) : catR (xs.take xs.length) = catR xs ∧ catR (xs.drop xs.length) = [] := by
  rw [List.take_length, List.drop_length]
  exact ⟨rfl, rfl⟩
/-- Opened where all is whole. -/
theorem opn_whole {la re : List UInt8} {xs ys : List Rc} (hl : la = catR xs) (hr : re = catR ys) (hx : Good xs) (hy : Good ys) : opnE (dkA la re) = 0 ∧ opnD (dkA la re) = dkA la re ∧ opnL (dkA la re) = xs ++ ys := by
  subst hl; subst hr
  obtain ⟨t1, t2⟩ := tell_all (xs ++ ys) (hx.app hy)
  rw [catR_app] at t1 t2
  obtain ⟨o1, o2, o3⟩ := opn_all (la := catR xs) (re := catR ys) t2
  exact ⟨o1, o2, by rw [o3, t1]⟩
end Go.Proofs.YtcfmifongbapkaaGreatDoor
