/- Plain mathematics of the order of values: it is a total one of the formed values. No condition. -/
import Derived.Test.YtmaohddmhdhkkaaDoorValueCompare

import Derived.Sort.Walk0

namespace Go.Proofs.YtmaohddmhdhkkaaDoor

def ltV (a b : Val) : Prop := a.k < b.k ∨ (a.k = b.k ∧ (keyF a.b < keyF b.b ∨ (keyF a.b = keyF b.b ∧ a.t < b.t)))
instance (a b : Val) : Decidable (ltV a b) := by unfold ltV; infer_instance
theorem lt_irr (l : List UInt8) : ¬ l < l := List.lt_irrefl l
theorem lt_tr {a b c : List UInt8} (h : a < b) (h' : b < c) : a < c := List.lt_trans h h'
theorem lt_tri (a b : List UInt8) : a < b ∨ a = b ∨ b < a := by
  by_cases h : a < b
  · exact .inl h
  · by_cases h' : b < a
    · exact .inr (.inr h')
    · right; left
      exact List.le_antisymm (List.not_lt.1 h') (List.not_lt.1 h)
theorem ltV_irr (a : Val) : ¬ ltV a a := by
  unfold ltV
  intro h
  rcases h with h | ⟨_, h | ⟨_, h⟩⟩
  · omega
  · omega
  · exact lt_irr _ h
theorem ltV_tr {a b c : Val} (h : ltV a b) (h' : ltV b c) : ltV a c := by
  unfold ltV at *
  rcases h with h | ⟨e, h | ⟨e2, h⟩⟩ <;> rcases h' with h' | ⟨e', h' | ⟨e2', h'⟩⟩
  · left; omega
  · left; omega
  · left; omega
  · left; omega
  · right; exact ⟨by omega, .inl (by omega)⟩
  · right; exact ⟨by omega, .inl (by omega)⟩
  · left; omega
  · right; exact ⟨by omega, .inl (by omega)⟩
  · right; exact ⟨by omega, .inr ⟨by omega, lt_tr h h'⟩⟩
theorem keyF_inj {a b : Nat} (ha : a < 18446744073709551616) (hb : b < 18446744073709551616) (ca : canonF a = a) (cb : canonF b = b) (h : keyF a = keyF b) : a = b := by
  unfold canonF at ca cb
  unfold keyF at h
  split at ca <;> split at cb <;> simp_all <;> (try split at h) <;> (try split at h) <;> omega
/-- Two formed values of which none is ahead of the other are the same. -/
theorem ltV_tri {a b : Val} (ha : a.b < 18446744073709551616) (hb : b.b < 18446744073709551616) (fa : formedB a = true) (fb : formedB b = true) (h : ¬ ltV a b) (h' : ¬ ltV b a) : a = b := by
  obtain ⟨k, x, l⟩ := a
  obtain ⟨k', x', l'⟩ := b
  unfold ltV at h h'
  simp only at h h' ha hb
  have hk : k = k' := by
    rcases Int.lt_trichotomy k k' with e | e | e
    · exact absurd (.inl e) h
    · exact e
    · exact absurd (.inl e) h'
  subst hk
  have hx : keyF x = keyF x' := by
    rcases Nat.lt_trichotomy (keyF x) (keyF x') with e | e | e
    · exact absurd (.inr ⟨rfl, .inl e⟩) h
    · exact e
    · exact absurd (.inr ⟨rfl, .inl e⟩) h'
  have hl : l = l' := by
    rcases lt_tri l l' with e | e | e
    · exact absurd (.inr ⟨rfl, .inr ⟨hx, e⟩⟩) h
    · exact e
    · exact absurd (.inr ⟨rfl, .inr ⟨hx.symm, e⟩⟩) h'
  subst hl
  have hxx : x = x' := by
    by_cases k0 : k = 0
    · subst k0
      rw [formed_none, Bool.and_eq_true] at fa fb
      have := of_decide_eq_true fa.1
      have := of_decide_eq_true fb.1
      omega
    · by_cases k1 : k = 1
      · subst k1
        rw [formed_num, Bool.and_eq_true] at fa fb
        exact keyF_inj ha hb (of_decide_eq_true fa.2) (of_decide_eq_true fb.2) hx
      · by_cases k2 : k = 2
        · subst k2
          rw [formed_text, Bool.and_eq_true, Bool.and_eq_true] at fa fb
          have := of_decide_eq_true fa.1.1
          have := of_decide_eq_true fb.1.1
          omega
        · rw [formed_other k x l k0 k1 k2] at fa; cases fa
  rw [hxx]
/-- The order, told by who is ahead. -/
theorem cmpV_lt {a b : Val} (ha : a.b < 18446744073709551616) (hb : b.b < 18446744073709551616) (fa : formedB a = true) (fb : formedB b = true) : cmpV a b = if ltV a b then -1 else if ltV b a then 1 else 0 := by
  by_cases hab : a = b
  · subst hab; rw [cmpV_same, if_neg (ltV_irr a), if_neg (ltV_irr a)]
  · rw [cmpV_ord fa fb hab]
    obtain ⟨k, x, l⟩ := a
    obtain ⟨k', x', l'⟩ := b
    unfold ordV
    simp only at ha hb ⊢
    by_cases h1 : k < k'
    · rw [if_pos h1, if_pos (show ltV _ _ from .inl h1)]
    · by_cases h2 : k' < k
      · rw [if_neg h1, if_pos h2, if_neg (show ¬ ltV _ _ from ?_), if_pos (show ltV _ _ from .inl h2)]
        intro h; rcases h with h | ⟨h, _⟩ <;> simp only at h <;> omega
      · obtain rfl : k = k' := by omega
        rw [if_neg h1, if_neg h2]
        by_cases k1 : k = 1
        · subst k1
          rw [if_pos rfl]
          rw [formed_num, Bool.and_eq_true] at fa fb
          have e1 : l = [] := List.isEmpty_iff.1 fa.1
          have e2 : l' = [] := List.isEmpty_iff.1 fb.1
          subst e1; subst e2
          unfold orderF cmpF
          have hlt : ∀ y z : Nat, ltV ⟨1, y, []⟩ ⟨1, z, []⟩ ↔ keyF y < keyF z := by
            intro y z
            unfold ltV
            simp
          simp only [hlt]
        · rw [if_neg k1]
          have hxx : x = x' := by
            by_cases k0 : k = 0
            · subst k0
              rw [formed_none, Bool.and_eq_true] at fa fb
              have := of_decide_eq_true fa.1
              have := of_decide_eq_true fb.1
              omega
            · by_cases k2 : k = 2
              · subst k2
                rw [formed_text, Bool.and_eq_true, Bool.and_eq_true] at fa fb
                have := of_decide_eq_true fa.1.1
                have := of_decide_eq_true fb.1.1
                omega
              · rw [formed_other k x l k0 k1 k2] at fa; cases fa
          subst hxx
          have hlt : ∀ y z : List UInt8, ltV ⟨k, x, y⟩ ⟨k, x, z⟩ ↔ y < z := by
            intro y z
            unfold ltV
            simp
          simp only [hlt, bytesLess_eq, decide_eq_true_eq]
          by_cases hl : l < l'
          · rw [if_pos hl, if_pos hl]
          · rw [if_neg hl, if_neg hl]
            rcases lt_tri l l' with e | e | e
            · exact absurd e hl
            · subst e; exact absurd rfl hab
            · rw [if_pos e]
theorem cmpV_neg {a b : Val} (ha : a.b < 18446744073709551616) (hb : b.b < 18446744073709551616) (fa : formedB a = true) (fb : formedB b = true) : cmpV a b = - cmpV b a := by
  rw [cmpV_lt ha hb fa fb, cmpV_lt hb ha fb fa]
  by_cases h1 : ltV a b
  · by_cases h2 : ltV b a
    · exact absurd (ltV_tr h1 h2) (ltV_irr a)
    · rw [if_pos h1, if_neg h2, if_pos h1]
  · by_cases h2 : ltV b a
    · rw [if_neg h1, if_pos h2, if_pos h2]; rfl
    · rw [if_neg h1, if_neg h2, if_neg h2, if_neg h1]; rfl
theorem cmpV_zero {a b : Val} (ha : a.b < 18446744073709551616) (hb : b.b < 18446744073709551616) (fa : formedB a = true) (fb : formedB b = true) : cmpV a b = 0 ↔ a = b := by
  rw [cmpV_lt ha hb fa fb]
  constructor
  · intro h
    by_cases h1 : ltV a b
    · rw [if_pos h1] at h; cases h
    · by_cases h2 : ltV b a
      · rw [if_neg h1, if_pos h2] at h; cases h
      · exact ltV_tri ha hb fa fb h1 h2
  · rintro rfl; rw [if_neg (ltV_irr a), if_neg (ltV_irr a)]
theorem cmpV_range {a b : Val} (ha : a.b < 18446744073709551616) (hb : b.b < 18446744073709551616) (fa : formedB a = true) (fb : formedB b = true) : -1 ≤ cmpV a b ∧ cmpV a b ≤ 1 := by
  rw [cmpV_lt ha hb fa fb]
  split
  · omega
  · split <;> omega
theorem cmpV_tr {a b c : Val} (ha : a.b < 18446744073709551616) (hb : b.b < 18446744073709551616) (hc : c.b < 18446744073709551616) (fa : formedB a = true) (fb : formedB b = true) (fc : formedB c = true) (h : ¬ 0 < cmpV a b) (h' : ¬ 0 < cmpV b c) : cmpV a c ≤ 0 := by
  have hac : ¬ ltV c a := by
    intro hca
    have hba : ¬ ltV b a := by
      intro e
      apply h
      have h1 : ¬ ltV a b := fun e2 => ltV_irr a (ltV_tr e2 e)
      rw [cmpV_lt ha hb fa fb, if_neg h1, if_pos e]; omega
    have hcb : ¬ ltV c b := by
      intro e
      apply h'
      have h1 : ¬ ltV b c := fun e2 => ltV_irr b (ltV_tr e2 e)
      rw [cmpV_lt hb hc fb fc, if_neg h1, if_pos e]; omega
    by_cases hab : ltV a b
    · exact hcb (ltV_tr hca hab)
    · have e := ltV_tri ha hb fa fb hab hba
      subst e
      exact hcb hca
  rw [cmpV_lt ha hc fa fc, if_neg hac]
  split <;> omega
end Go.Proofs.YtmaohddmhdhkkaaDoor
