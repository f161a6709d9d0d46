/- Plain mathematics of layer frame: the sum of bytes, and that it tells up to four bytes side by side. No condition. -/
import Derived.Tactics

namespace Go.Proofs.Ytmkadjchcfmbjaa

/-- One bit of the sum. -/
def crcStep (s : Nat) : Nat := if s % 2 = 1 then s / 2 ^^^ 3988292384 else s / 2
def crcN : Nat → Nat → Nat
  | 0, s => s
  | k + 1, s => crcN k (crcStep s)
def crcByte (s : Nat) (b : UInt8) : Nat := crcN 8 (s ^^^ b.toNat)
def crcAll (s : Nat) (l : List UInt8) : Nat := l.foldl crcByte s
/-- The sum of bytes. -/
def sumB (l : List UInt8) : Nat := 4294967295 - crcAll 4294967295 l

theorem crcStep_lt (s : Nat) (h : s < 2 ^ 32) : crcStep s < 2 ^ 32 := by
  unfold crcStep
  split
  · exact Nat.xor_lt_two_pow (by omega) (by decide)
  · omega
theorem crcN_lt (k s : Nat) (h : s < 2 ^ 32) : crcN k s < 2 ^ 32 := by
  induction k generalizing s with
  | zero => exact h
  | succ k ih => exact ih _ (crcStep_lt s h)
theorem crcByte_lt (s : Nat) (b : UInt8) (h : s < 2 ^ 32) : crcByte s b < 2 ^ 32 :=
  crcN_lt 8 _ (Nat.xor_lt_two_pow h (by have := b.toNat_lt; omega))
theorem crcAll_lt (s : Nat) (l : List UInt8) (h : s < 2 ^ 32) : crcAll s l < 2 ^ 32 := by
  induction l generalizing s with
  | nil => exact h
  | cons b r ih => exact ih _ (crcByte_lt s b h)
theorem crcAll_snoc (s : Nat) (l : List UInt8) (b : UInt8) : crcAll s (l ++ [b]) = crcByte (crcAll s l) b := by simp [crcAll]
theorem crcAll_app (s : Nat) (l m : List UInt8) : crcAll s (l ++ m) = crcAll (crcAll s l) m := by simp [crcAll]
theorem sumB_lt (l : List UInt8) : sumB l < 2 ^ 32 := by unfold sumB; omega

theorem xor_mod2 (a b : Nat) : (a ^^^ b) % 2 = (a + b) % 2 := by
  have h := Nat.testBit_xor a b 0
  simp only [Nat.testBit_zero] at h
  have ha := Nat.mod_two_eq_zero_or_one a
  have hb := Nat.mod_two_eq_zero_or_one b
  have hx := Nat.mod_two_eq_zero_or_one (a ^^^ b)
  rcases ha with ha | ha <;> rcases hb with hb | hb <;> rcases hx with hx | hx <;> simp [ha, hb, hx] at h <;> omega
theorem xor_div2 (a b : Nat) : (a ^^^ b) / 2 = a / 2 ^^^ b / 2 := by
  apply Nat.eq_of_testBit_eq
  intro i
  rw [Nat.testBit_xor, Nat.testBit_div_two, Nat.testBit_div_two, Nat.testBit_div_two, Nat.testBit_xor]
theorem crcStep_xor (a b : Nat) : crcStep (a ^^^ b) = crcStep a ^^^ crcStep b := by
  have h := xor_mod2 a b
  unfold crcStep
  rw [h, xor_div2]
  have ha := Nat.mod_two_eq_zero_or_one a
  have hb := Nat.mod_two_eq_zero_or_one b
  rcases ha with ha | ha <;> rcases hb with hb | hb
  · rw [if_neg (by omega), if_neg (by omega), if_neg (by omega)]
  · rw [if_pos (by omega), if_neg (by omega), if_pos (by omega), Nat.xor_assoc]
  · rw [if_pos (by omega), if_pos (by omega), if_neg (by omega), Nat.xor_assoc, Nat.xor_assoc, Nat.xor_comm (b / 2)]
  · rw [if_neg (by omega), if_pos (by omega), if_pos (by omega)]
    rw [Nat.xor_assoc (a / 2), Nat.xor_comm (b / 2) 3988292384, ← Nat.xor_assoc 3988292384, Nat.xor_self, Nat.zero_xor]
theorem crcN_xor (k a b : Nat) : crcN k (a ^^^ b) = crcN k a ^^^ crcN k b := by
  induction k generalizing a b with
  | zero => rfl
  | succ k ih => rw [crcN, crcN, crcN, crcStep_xor, ih]
/-- If no polynomial was laid over at the top, the step was a shift. -/
theorem crcStep_back (x : Nat) (hx : x < 2 ^ 32) (h : crcStep x < 2 ^ 31) : x = 2 * crcStep x := by
  unfold crcStep at *
  by_cases hp : x % 2 = 1
  · rw [if_pos hp] at h
    exfalso
    have h1 : (x / 2 ^^^ 3988292384).testBit 31 = true := by
      rw [Nat.testBit_xor, Nat.testBit_lt_two_pow (by omega)]
      decide
    have h2 := Nat.testBit_lt_two_pow h
    rw [h1] at h2
    cases h2
  · rw [if_neg hp]; omega
theorem crcN_back (k x : Nat) (hk : k ≤ 32) (hx : x < 2 ^ 32) (h : crcN k x < 2 ^ (32 - k)) : x = 2 ^ k * crcN k x := by
  induction k generalizing x with
  | zero => simp [crcN]
  | succ k ih =>
    rw [crcN] at h ⊢
    have e : 32 - k = (32 - (k + 1)) + 1 := by omega
    have h1 : crcN k (crcStep x) < 2 ^ (32 - k) := by
      rw [e, Nat.pow_succ]; omega
    have h2 := ih (crcStep x) (by omega) (crcStep_lt x hx) h1
    have h3 : crcStep x < 2 ^ 31 := by
      have h4 : 2 ^ k * crcN k (crcStep x) < 2 ^ k * 2 ^ (32 - (k + 1)) := Nat.mul_lt_mul_of_pos_left h (Nat.pow_pos (by omega))
      rw [← Nat.pow_add] at h4
      have e2 : k + (32 - (k + 1)) = 31 := by omega
      rw [e2] at h4
      omega
    have h5 := crcStep_back x hx h3
    rw [Nat.pow_succ, Nat.mul_comm (2 ^ k) 2, Nat.mul_assoc, ← h2]
    exact h5

theorem xor_zero_eq {a b : Nat} (h : a ^^^ b = 0) : a = b := by
  have : a ^^^ b ^^^ b = b := by rw [h, Nat.zero_xor]
  rwa [Nat.xor_assoc, Nat.xor_self, Nat.xor_zero] at this
theorem crcN_inj (k a b : Nat) (hk : k ≤ 32) (ha : a < 2 ^ 32) (hb : b < 2 ^ 32) (h : crcN k a = crcN k b) : a = b := by
  have hx : crcN k (a ^^^ b) = 0 := by rw [crcN_xor, h, Nat.xor_self]
  have := crcN_back k (a ^^^ b) hk (Nat.xor_lt_two_pow ha hb) (by rw [hx]; exact Nat.pow_pos (by omega))
  rw [hx, Nat.mul_zero] at this
  exact xor_zero_eq this
theorem crcByte_inj (a b : Nat) (c : UInt8) (ha : a < 2 ^ 32) (hb : b < 2 ^ 32) (h : crcByte a c = crcByte b c) : a = b := by
  have hc : c.toNat < 2 ^ 32 := by have := c.toNat_lt; omega
  have := crcN_inj 8 _ _ (by omega) (Nat.xor_lt_two_pow ha hc) (Nat.xor_lt_two_pow hb hc) h
  have h2 : a ^^^ c.toNat ^^^ c.toNat = b ^^^ c.toNat ^^^ c.toNat := by rw [this]
  rwa [Nat.xor_assoc, Nat.xor_assoc, Nat.xor_self, Nat.xor_zero, Nat.xor_zero] at h2
theorem crcAll_inj (l : List UInt8) (a b : Nat) (ha : a < 2 ^ 32) (hb : b < 2 ^ 32) (h : crcAll a l = crcAll b l) : a = b := by
  induction l generalizing a b with
  | nil => exact h
  | cons c r ih => exact crcByte_inj a b c ha hb (ih _ _ (crcByte_lt a c ha) (crcByte_lt b c hb) h)

/-- Bytes laid over bytes. -/
def xorB : List UInt8 → List UInt8 → List UInt8
  | a :: x, b :: y => (a ^^^ b) :: xorB x y
  | _, _ => []
theorem crcAll_xor (l m : List UInt8) (a b : Nat) (h : l.length = m.length) : crcAll (a ^^^ b) (xorB l m) = crcAll a l ^^^ crcAll b m := by
  induction l generalizing m a b with
  | nil => cases m with
    | nil => rfl
    | cons => simp at h
  | cons c r ih => cases m with
    | nil => simp at h
    | cons d t =>
      have e : crcByte (a ^^^ b) (c ^^^ d) = crcByte a c ^^^ crcByte b d := by
        unfold crcByte
        rw [← crcN_xor, UInt8.toNat_xor]
        congr 1
        rw [Nat.xor_assoc, Nat.xor_assoc, ← Nat.xor_assoc b, Nat.xor_comm b c.toNat, Nat.xor_assoc c.toNat]
      show crcAll (crcByte (a ^^^ b) (c ^^^ d)) (xorB r t) = _
      rw [e, ih t _ _ (by simpa using h)]; rfl
/-- The number in bytes, the least significant first. -/
def leB : List UInt8 → Nat
  | [] => 0
  | b :: r => 256 * leB r + b.toNat
theorem leB_lt (l : List UInt8) : leB l < 256 ^ l.length := by
  induction l with
  | nil => simp [leB]
  | cons b r ih => have := b.toNat_lt; rw [leB, List.length_cons, Nat.pow_succ]; omega
theorem crc_zero (d : List UInt8) (D : Nat) (hD : D < 2 ^ 32) (hd : d.length ≤ 4) (h : crcAll D d = 0) : D = leB d := by
  induction d generalizing D with
  | nil => exact h
  | cons b r ih =>
    have hb := b.toNat_lt
    have h1 := ih (crcByte D b) (crcByte_lt D b hD) (by simp at hd; omega) h
    have h2 := leB_lt r
    have h3 : 256 ^ r.length ≤ 256 ^ 3 := Nat.pow_le_pow_right (by omega) (by simp at hd; omega)
    have h4 : crcN 8 (D ^^^ b.toNat) < 2 ^ (32 - 8) := by
      show crcByte D b < 2 ^ 24
      rw [h1]; omega
    have h5 := crcN_back 8 _ (by omega) (Nat.xor_lt_two_pow hD (by omega)) h4
    have h6 : crcN 8 (D ^^^ b.toNat) = leB r := h1
    rw [h6] at h5
    have h7 : D = (2 ^ 8 * leB r) ^^^ b.toNat := by
      rw [← h5, Nat.xor_assoc, Nat.xor_self, Nat.xor_zero]
    have h8 : (2 ^ 8 * leB r) ^^^ b.toNat = 2 ^ 8 * leB r + b.toNat := by
      apply Nat.eq_of_testBit_eq
      intro i
      rw [Nat.testBit_xor, Nat.testBit_two_pow_mul_add _ (by omega), Nat.testBit_two_pow_mul]
      by_cases hi : i < 8
      · have : ¬ 8 ≤ i := by omega
        simp [hi, this]
      · have h9 : b.toNat.testBit i = false := Nat.testBit_lt_two_pow (Nat.lt_of_lt_of_le (show b.toNat < 2 ^ 8 by omega) (Nat.pow_le_pow_right (by omega) (by omega)))
        have : 8 ≤ i := by omega
        simp [hi, this, h9]
    rw [h7, h8, leB]
theorem xorB_zero (l m : List UInt8) (h : l.length = m.length) (hz : leB (xorB l m) = 0) : l = m := by
  induction l generalizing m with
  | nil => cases m with
    | nil => rfl
    | cons => simp at h
  | cons c r ih => cases m with
    | nil => simp at h
    | cons d t =>
      simp only [xorB, leB] at hz
      have h1 : leB (xorB r t) = 0 := by omega
      have h2 : (c ^^^ d).toNat = 0 := by omega
      rw [UInt8.toNat_xor] at h2
      have h3 : c = d := UInt8.toNat_inj.1 (xor_zero_eq h2)
      rw [h3, ih t (by simpa using h) h1]
theorem xorB_len (l m : List UInt8) (h : l.length = m.length) : (xorB l m).length = l.length := by
  induction l generalizing m with
  | nil => cases m <;> simp [xorB]
  | cons c r ih => cases m with
    | nil => simp at h
    | cons d t => simp [xorB]; exact ih t (by simpa using h)
/-- A body of which up to four bytes side by side were turned has another sum. -/
theorem sum_turned (p m m' q : List UInt8) (hl : m.length = m'.length) (h4 : m.length ≤ 4) (h : sumB (p ++ (m ++ q)) = sumB (p ++ (m' ++ q))) : m = m' := by
  have e0 : (4294967295 : Nat) < 2 ^ 32 := by omega
  have b1 := crcAll_lt 4294967295 (p ++ (m ++ q)) e0
  have b2 := crcAll_lt 4294967295 (p ++ (m' ++ q)) e0
  have h1 : crcAll 4294967295 (p ++ (m ++ q)) = crcAll 4294967295 (p ++ (m' ++ q)) := by unfold sumB at h; omega
  have hs := crcAll_lt 4294967295 p e0
  rw [crcAll_app, crcAll_app, crcAll_app, crcAll_app] at h1
  have h2 := crcAll_inj q _ _ (crcAll_lt _ m hs) (crcAll_lt _ m' hs) h1
  have h3 := crcAll_xor m m' (crcAll 4294967295 p) (crcAll 4294967295 p) hl
  rw [h2, Nat.xor_self, Nat.xor_self] at h3
  have h5 := crc_zero _ 0 (by omega) (by rw [xorB_len _ _ hl]; exact h4) h3
  exact xorB_zero m m' hl h5.symm
/-- To turn all bits is to take from the greatest. -/
theorem all_turned (s : Nat) (h : s < 2 ^ 32) : s ^^^ 4294967295 = 4294967295 - s := by
  have e : 4294967295 - s = 2 ^ 32 - (s + 1) := by omega
  rw [e]
  apply Nat.eq_of_testBit_eq
  intro i
  rw [Nat.testBit_xor, Nat.testBit_two_pow_sub_succ h]
  have h2 : (4294967295 : Nat).testBit i = decide (i < 32) := by
    rw [show (4294967295 : Nat) = 2 ^ 32 - 1 by omega, Nat.testBit_two_pow_sub_one]
  rw [h2]
  by_cases hi : i < 32
  · simp [hi]
  · have := Nat.testBit_lt_two_pow (Nat.lt_of_lt_of_le h (Nat.pow_le_pow_right (by omega) (show 32 ≤ i by omega)))
    simp [hi, this]
end Go.Proofs.Ytmkadjchcfmbjaa
