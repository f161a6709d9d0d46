/- Plain mathematics of the texts of values. No condition. -/
import Derived.Test.YtmaohddmhdhkkaaDoorValueFormed

namespace Go.Proofs.YtmaohddmhdhkkaaDoor

/-- A digit; the last n digits of a number. -/
def hexC (d : Nat) : UInt8 := UInt8.ofNat (if d < 10 then 48 + d else 87 + d)
def hexN : Nat → Nat → List UInt8
  | 0, _ => []
  | n + 1, x => hexN n (x / 16) ++ [hexC (x % 16)]
theorem hexN_len (n x : Nat) : (hexN n x).length = n := by
  induction n generalizing x with
  | zero => rfl
  | succ n ih => simp [hexN, ih]
theorem hexN_step (n x : Nat) (s : List UInt8) : hexN n (x / 16) ++ (hexC (x % 16) :: s) = hexN (n + 1) x ++ s := by simp [hexN]
/-- The text of a formed value. -/
def textV (v : Val) : List UInt8 := if v.k = 2 then 36 :: v.t else if v.k = 0 then [110, 111, 110, 101] else 35 :: hexN 16 v.b
def showB (v : Val) : List UInt8 := if formedB v then textV v else []

/-- What a digit's byte tells; the number in digits. -/
def unhex (c : Nat) : Nat := if 97 ≤ c then (c - 87) % 16 else c % 16
def hexval (l : List UInt8) (x : Nat) : Nat := l.foldl (fun x c => (x * 16 + unhex c.toNat) % 18446744073709551616) x
theorem hexC_nat (d : Nat) (h : d < 16) : (hexC d).toNat = if d < 10 then 48 + d else 87 + d := by
  unfold hexC
  have : (UInt8.ofNat (if d < 10 then 48 + d else 87 + d)).toNat = (if d < 10 then 48 + d else 87 + d) % 256 := UInt8.toNat_ofNat'
  rw [this]; split <;> omega
theorem unhex_hexC (d : Nat) (h : d < 16) : unhex (hexC d).toNat = d := by
  rw [hexC_nat d h]; unfold unhex; split <;> split <;> omega
theorem hexval_snoc (l : List UInt8) (c : UInt8) (x : Nat) : hexval (l ++ [c]) x = (hexval l x * 16 + unhex c.toNat) % 18446744073709551616 := by simp [hexval]
theorem hexval_lt (l : List UInt8) (x : Nat) (hx : x < 18446744073709551616) : hexval l x < 18446744073709551616 := by
  induction l generalizing x with
  | nil => exact hx
  | cons c r ih => exact ih _ (Nat.mod_lt _ (by omega))
theorem hexval_hexN (n x : Nat) (hn : n ≤ 16) : hexval (hexN n x) 0 = x % 16 ^ n := by
  induction n generalizing x with
  | zero => simp [hexN, hexval, Nat.mod_one]
  | succ n ih =>
    have hp : 16 ^ (n + 1) ≤ 16 ^ 16 := Nat.pow_le_pow_right (by omega) hn
    have h16 : (16 : Nat) ^ 16 = 18446744073709551616 := by decide
    rw [hexN, hexval_snoc, ih _ (by omega), unhex_hexC _ (Nat.mod_lt _ (by omega))]
    have e : x / 16 % 16 ^ n * 16 + x % 16 = x % 16 ^ (n + 1) := by
      rw [Nat.pow_succ, Nat.mul_comm (16 ^ n) 16, Nat.mod_mul]; omega
    rw [e]
    exact Nat.mod_eq_of_lt (Nat.lt_of_lt_of_le (Nat.mod_lt _ (Nat.pow_pos (by omega))) (by omega))
/-- The value that a text may be of. -/
def candB (l : List UInt8) : Val :=
  if l.head? = some 36 then ⟨2, 0, l.drop 1⟩ else if l.length = 17 ∧ l.head? = some 35 then ⟨1, hexval (l.drop 1) 0, []⟩ else ⟨0, 0, []⟩
def parseOk (l : List UInt8) : Bool := decide (showB (candB l) = l) && !l.isEmpty
def parseV (l : List UInt8) : Val := if parseOk l then candB l else ⟨0, 0, []⟩
/-- A formed value's text is of that value alone. -/
theorem cand_show (v : Val) (hb : v.b < 18446744073709551616) (hf : formedB v = true) : candB (textV v) = v := by
  obtain ⟨k, b, t⟩ := v
  by_cases k2 : k = 2
  · subst k2
    rw [formed_text, Bool.and_eq_true, Bool.and_eq_true] at hf
    have hb0 : b = 0 := of_decide_eq_true hf.1.1
    subst hb0
    simp [textV, candB]
  · by_cases k0 : k = 0
    · subst k0
      rw [formed_none, Bool.and_eq_true] at hf
      have hb0 : b = 0 := of_decide_eq_true hf.1
      have ht : t = [] := List.isEmpty_iff.1 hf.2
      subst hb0; subst ht
      simp [textV, candB]
    · by_cases k1 : k = 1
      · subst k1
        rw [formed_num, Bool.and_eq_true] at hf
        have ht : t = [] := List.isEmpty_iff.1 hf.1
        subst ht
        have h16 : (16 : Nat) ^ 16 = 18446744073709551616 := by decide
        have e : hexval (hexN 16 b) 0 = b := by rw [hexval_hexN _ _ (by omega)]; exact Nat.mod_eq_of_lt (by rw [h16]; exact hb)
        simp [textV, candB, hexN_len, e]
      · rw [formed_other k b t k0 k1 k2] at hf; cases hf
theorem text_ne (v : Val) : textV v ≠ [] := by
  unfold textV
  split
  · simp
  · split <;> simp
theorem parse_yes (v : Val) (hb : v.b < 18446744073709551616) (hf : formedB v = true) : parseOk (showB v) = true ∧ parseV (showB v) = v := by
  have hs : showB v = textV v := by simp [showB, hf]
  have hc := cand_show v hb hf
  have h1 : parseOk (showB v) = true := by
    unfold parseOk
    rw [hs, hc, hs, decide_eq_true rfl, Bool.true_and]
    cases e : (textV v).isEmpty
    · rfl
    · exact absurd (List.isEmpty_iff.1 e) (text_ne v)
  exact ⟨h1, by unfold parseV; rw [h1, if_pos rfl, hs, hc]⟩
theorem parse_no (l : List UInt8) (h : ∀ v : Val, v.b < 18446744073709551616 → formedB v = true → showB v ≠ l) : parseOk l = false := by
  unfold parseOk
  by_cases e : l = []
  · subst e; simp
  · have : ¬ showB (candB l) = l := by
      intro e2
      have hf : formedB (candB l) = true := by
        cases hf : formedB (candB l)
        · exfalso; apply e; rw [← e2]; simp [showB, hf]
        · rfl
      refine h (candB l) ?_ hf e2
      unfold candB
      split
      · simp
      · split
        · exact hexval_lt _ _ (by omega)
        · simp
    rw [decide_eq_false this, Bool.false_and]
theorem cand_lt (l : List UInt8) : (candB l).b < 18446744073709551616 := by
  unfold candB
  split
  · simp
  · split
    · exact hexval_lt _ _ (by omega)
    · simp
end Go.Proofs.YtmaohddmhdhkkaaDoor
