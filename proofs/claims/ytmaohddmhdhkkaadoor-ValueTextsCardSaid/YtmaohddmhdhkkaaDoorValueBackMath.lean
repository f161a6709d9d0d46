/- Plain mathematics: what is put is taken. No condition. -/
import Derived.Test.YtmaohddmhdhkkaaDoorValueTake

import Derived.Test.YtmaohddmhdhkkaaDoorValueText

namespace Go.Proofs.YtmaohddmhdhkkaaDoor

def encTo (f : Nat → List UInt8) : Nat → List UInt8
  | 0 => []
  | i + 1 => encTo f i ++ f i
def encFrom (f : Nat → List UInt8) (n : Nat) : Nat → List UInt8
  | 0 => []
  | r + 1 => f (n - (r + 1)) ++ encFrom f n r
theorem enc_all (f : Nat → List UInt8) (n : Nat) : ∀ r, r ≤ n → encTo f (n - r) ++ encFrom f n r = encTo f n
  | 0, _ => by simp [encFrom]
  | r + 1, h => by
    have ih := enc_all f n r (by omega)
    have e : n - r = (n - (r + 1)) + 1 := by omega
    rw [e, encTo] at ih
    rw [encFrom, ← List.append_assoc]; exact ih
theorem enc_start (f : Nat → List UInt8) (n : Nat) : encTo f n = encFrom f n n := by
  have := enc_all f n n (Nat.le_refl _)
  rw [Nat.sub_self] at this
  simpa [encTo] using this.symm
theorem enc_step (f : Nat → List UInt8) (n i : Nat) (h : i < n) : encFrom f n (n - i) = f i ++ encFrom f n (n - (i + 1)) := by
  have e : n - i = (n - (i + 1)) + 1 := by omega
  rw [e, encFrom]
  have e2 : n - (n - (i + 1) + 1) = i := by omega
  rw [e2]
theorem encTo_len (f : Nat → List UInt8) (i : Nat) (h : ∀ j, j < i → (f j).length ≤ 2000) : (encTo f i).length ≤ i * 2000 := by
  induction i with
  | zero => simp [encTo]
  | succ i ih =>
    have h1 := ih (fun j hj => h j (by omega))
    have h2 := h i (by omega)
    rw [encTo, List.length_append]; omega

theorem drop1_cons (x : UInt8) (l : List UInt8) : (x :: l).drop 1 = l := rfl
theorem tkC_cons (x : UInt8) (l : List UInt8) : tkC (x :: l) = x.toNat := by
  unfold tkC
  show numB [x] = _
  simp [numB]
theorem text_back (t R : List UInt8) (h : t.length ≤ 1000) : textLen (textB t ++ R) = t.length ∧ ((textB t ++ R).drop 2).take t.length = t ∧ ((textB t ++ R).drop 2).drop t.length = R := by
  have ht : t.take 65535 = t := List.take_of_length_le (by omega)
  have hm : min t.length 65535 = t.length := by omega
  have e : textB t ++ R = putB t.length 2 ++ (t ++ R) := by rw [textB, ht, hm, List.append_assoc]
  rw [e]
  have hp := putB_len t.length 2
  refine ⟨?_, ?_, ?_⟩
  · rw [textLen, take_app _ _ 2 hp, numB_put]; exact Nat.mod_eq_of_lt (by omega)
  · rw [drop_app _ _ 2 hp, take_app _ _ _ rfl]
  · rw [drop_app _ _ 2 hp, drop_app _ _ _ rfl]
/-- A formed value's bytes, with anything behind them, are taken as that value. -/
theorem take_back (v : Val) (R : List UInt8) (hb : v.b < 18446744073709551616) (hf : formedB v = true) :
    tkOk (bytesV v ++ R) ∧ tkV (bytesV v ++ R) = v ∧ (bytesV v ++ R).drop (tkN (bytesV v ++ R)) = R := by
  obtain ⟨k, b, t⟩ := v
  rcases formed_kinds hf with rfl | rfl | rfl
  · have hf' := hf
    rw [formed_none, Bool.and_eq_true] at hf'
    have hb0 : b = 0 := of_decide_eq_true hf'.1
    have ht : t = [] := List.isEmpty_iff.1 hf'.2
    subst hb0; subst ht
    have hc : tkC (bytesV ⟨0, 0, []⟩ ++ R) = 0 := tkC_cons 0 R
    have hv : tkV (bytesV ⟨0, 0, []⟩ ++ R) = ⟨0, 0, []⟩ := by unfold tkV; rw [hc]; rfl
    have hn : tkN (bytesV ⟨0, 0, []⟩ ++ R) = 1 := by unfold tkN; rw [hc]; rfl
    refine ⟨⟨by simp [bytesV], fun e => by omega, fun e => by omega, by rw [hv]; exact hf⟩, hv, by rw [hn]; rfl⟩
  · have hf' := hf
    rw [formed_num, Bool.and_eq_true] at hf'
    have ht : t = [] := List.isEmpty_iff.1 hf'.1
    subst ht
    have hB : bytesV ⟨1, b, []⟩ ++ R = 1 :: (putB b 8 ++ R) := by simp [bytesV]
    have hp := putB_len b 8
    have h8 : (256 : Nat) ^ 8 = 18446744073709551616 := by decide
    rw [hB]
    have hc : tkC (1 :: (putB b 8 ++ R)) = 1 := tkC_cons 1 _
    have hx : numB (((1 :: (putB b 8 ++ R)).drop 1).take 8) = b := by
      rw [drop1_cons, take_app _ _ 8 hp, numB_put, h8]; exact Nat.mod_eq_of_lt hb
    have hv : tkV (1 :: (putB b 8 ++ R)) = ⟨1, b, []⟩ := by unfold tkV; rw [if_pos hc, hx]
    have hn : tkN (1 :: (putB b 8 ++ R)) = 1 + 8 := by unfold tkN; rw [if_pos hc]
    refine ⟨⟨by simp, fun _ => by rw [drop1_cons, List.length_append, hp]; omega, fun e => by omega, by rw [hv]; exact hf⟩, hv, ?_⟩
    rw [hn, ← List.drop_drop, drop1_cons, drop_app _ _ 8 hp]
  · have hf' := hf
    rw [formed_text, Bool.and_eq_true, Bool.and_eq_true] at hf'
    have hb0 : b = 0 := of_decide_eq_true hf'.1.1
    have h40 : t.length ≤ 40 := of_decide_eq_true hf'.1.2
    subst hb0
    have hB : bytesV ⟨2, 0, t⟩ ++ R = 2 :: (textB t ++ R) := by simp [bytesV]
    obtain ⟨t1, t2, t3⟩ := text_back t R (by omega)
    rw [hB]
    have hc : tkC (2 :: (textB t ++ R)) = 2 := tkC_cons 2 _
    have hv : tkV (2 :: (textB t ++ R)) = ⟨2, 0, t⟩ := by unfold tkV; rw [if_neg (by omega), if_pos hc, drop1_cons, t1, t2]
    have hn : tkN (2 :: (textB t ++ R)) = 1 + 2 + t.length := by unfold tkN; rw [if_neg (by omega), if_pos hc, drop1_cons, t1]
    refine ⟨⟨by simp, fun e => by omega, fun _ => ?_, by rw [hv]; exact hf⟩, hv, ?_⟩
    · rw [drop1_cons]
      refine ⟨by rw [List.length_append, textB_len]; omega, by rw [t1]; omega, by rw [t1, List.length_append, textB_len]; omega⟩
    · rw [hn, ← List.drop_drop, ← List.drop_drop, drop1_cons, t3]
end Go.Proofs.YtmaohddmhdhkkaaDoor
