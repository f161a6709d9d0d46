/- Plain mathematics of numbers in digits as the library writes and reads them. No condition. -/
import Derived.Test.YtmaohddmhdhkkaaDoorValueText
import Derived.Lib.Repeat
import Derived.Laws.Closers25b
namespace Go.Proofs.YtmaohddmhdhkkaaDoor

theorem repeat_zero (m : Nat) : Lib.repeatL [48] m = List.replicate m 48 := by
  induction m with
  | zero => rfl
  | succ m ih => rw [Lib.repeatL, ih]; rfl
theorem hexN_zero (m : Nat) : hexN m 0 = List.replicate m 48 := by
  induction m with
  | zero => rfl
  | succ m ih =>
    rw [hexN, Nat.zero_div, ih, Nat.zero_mod, show hexC 0 = 48 from by decide, List.replicate_succ']
/-- A number of one digit, with as many digits as one likes. -/
theorem hexN_one (m u : Nat) (h : u < 16) : hexN (m + 1) u = Lib.repeatL [48] m ++ [hexC u] := by
  rw [hexN, Nat.div_eq_of_lt h, Nat.mod_eq_of_lt h, hexN_zero, repeat_zero]
/-- What lies in the digits' row when j of them are written: whatever lies ahead of them, the number's digits end so. -/
def Ends (b u j : Nat) (s : List UInt8) : Prop := s.length = j ∧ u * 16 ^ j ≤ b ∧ ∀ n, hexN n u ++ s = hexN (n + j) b
theorem ends_nil (b : Nat) : Ends b b 0 [] := ⟨rfl, by simp, by simp⟩
theorem ends_step {b u j : Nat} {s : List UInt8} (h : Ends b u j s) : Ends b (u / 16) (j + 1) (hexC (u % 16) :: s) := by
  obtain ⟨h1, h2, h3⟩ := h
  refine ⟨by simp [h1], ?_, fun n => ?_⟩
  · rw [Nat.pow_succ, Nat.mul_comm (16 ^ j) 16, ← Nat.mul_assoc]
    exact Nat.le_trans (Nat.mul_le_mul_right _ (Nat.div_mul_le_self u 16)) h2
  · rw [hexN_step, h3 (n + 1), Nat.add_right_comm, Nat.add_assoc]
theorem ends_lt {b u j : Nat} {s : List UInt8} (h : Ends b u j s) (hb : b < 18446744073709551616) (hu : 1 ≤ u) : j < 16 := by
  rcases Nat.lt_or_ge j 16 with h' | h'
  · exact h'
  · exfalso
    have e : (16 : Nat) ^ 16 = 18446744073709551616 := by decide
    have h1 : 16 ^ 16 ≤ 16 ^ j := Nat.pow_le_pow_right (by omega) h'
    have h2 : 1 * 16 ^ j ≤ u * 16 ^ j := Nat.mul_le_mul_right _ hu
    have := h.2.1
    omega
/-- The digits that the library writes, and the zeros ahead of them. -/
theorem ends_all {b u j : Nat} {s : List UInt8} (h : Ends b u j s) (hu : u < 16) (hj : j < 16) : Lib.repeatL [48] (16 - (j + 1)) ++ (hexC u :: s) = hexN 16 b := by
  have h3 := h.2.2 (16 - (j + 1) + 1)
  rw [hexN_one _ _ hu, List.append_assoc] at h3
  rw [show 16 - (j + 1) + 1 + j = 16 by omega] at h3
  exact h3

/-- The small letter; the digit that a byte is for the library (99: none). -/
def lowC (c : Nat) : Int := bits .or .u8 (c : Int) 32
def pdig (c : Nat) : Nat := if 48 ≤ c ∧ c ≤ 57 then c - 48 else if 97 ≤ lowC c ∧ lowC c ≤ 122 then (lowC c - 87).toNat else 99
/-- How the library's reading of digits ends: with a number, at what is no digit, or beyond the greatest number. -/
inductive NEnd where
  | good (n : Nat)
  | bad
  | over
/-- How the library reads digits. -/
def px (acc : Nat) : List UInt8 → NEnd
  | [] => .good acc
  | c :: r => if 16 ≤ pdig c.toNat then .bad else if 1152921504606846976 ≤ acc then .over else px (acc * 16 + pdig c.toNat) r
theorem pdig_hex (d : Nat) (h : d < 16) : pdig (hexC d).toNat = d := by
  exact (show ∀ e : Fin 16, pdig (hexC e.val).toNat = e.val by decide +kernel) ⟨d, h⟩
theorem px_snoc (l : List UInt8) (acc y : Nat) (c : UInt8) (h : px acc l = .good y) (hc : pdig c.toNat < 16) (hy : y < 1152921504606846976) : px acc (l ++ [c]) = .good (y * 16 + pdig c.toNat) := by
  induction l generalizing acc with
  | nil =>
    rw [px] at h
    injection h with h
    subst h
    rw [List.nil_append, px, if_neg (by omega), if_neg (by omega), px]
  | cons a r ih =>
    rw [px] at h
    rw [List.cons_append, px]
    split at h
    · cases h
    · split at h
      · cases h
      · rename_i h1 h2
        rw [if_neg h1, if_neg h2]
        exact ih _ h
/-- Digits of the document's kind: the number itself. -/
theorem px_hex (n x : Nat) (hn : n ≤ 16) (hx : x < 16 ^ n) : px 0 (hexN n x) = .good x := by
  induction n generalizing x with
  | zero =>
    have : x = 0 := by omega
    subst this
    rfl
  | succ n ih =>
    have hq : x / 16 < 16 ^ n := by rw [Nat.pow_succ] at hx; omega
    have hp : 16 ^ n ≤ 16 ^ 15 := Nat.pow_le_pow_right (by omega) (by omega)
    have e : (16 : Nat) ^ 15 = 1152921504606846976 := by decide
    have hd : x % 16 < 16 := Nat.mod_lt _ (by omega)
    rw [hexN, px_snoc _ _ (x / 16) _ (ih _ (by omega) hq) (by rw [pdig_hex _ hd]; exact hd) (by omega), pdig_hex _ hd]
    congr 1
    omega
/-- The number that stands beside how the reading ends. -/
def pxN : NEnd → Nat
  | .good n => n
  | .bad => 0
  | .over => 18446744073709551615
theorem px_lt (acc : Nat) (l : List UInt8) (h : acc < 18446744073709551616) : pxN (px acc l) < 18446744073709551616 := by
  induction l generalizing acc with
  | nil => exact h
  | cons c r ih =>
    rw [px]
    split
    · simp [pxN]
    · split
      · simp [pxN]
      · exact ih _ (by omega)
/-- What the program's reading of a text gives for a number: the number whose digits they are, or one whose digits they aren't. -/
def pbits (l : List UInt8) : Nat := if l = [] then 0 else pxN (px 0 l)
theorem pbits_lt (l : List UInt8) : pbits l < 18446744073709551616 := by
  unfold pbits
  split
  · omega
  · exact px_lt _ _ (by omega)
theorem pbits_hex (x : Nat) (hx : x < 18446744073709551616) : pbits (hexN 16 x) = x := by
  have e : (16 : Nat) ^ 16 = 18446744073709551616 := by decide
  unfold pbits
  rw [if_neg (by intro h; have := hexN_len 16 x; rw [h] at this; cases this), px_hex 16 x (by omega) (by omega)]
  rfl
end Go.Proofs.YtmaohddmhdhkkaaDoor
