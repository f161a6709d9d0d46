/- Plain mathematics of layer code: a number's bytes, and the number in bytes. No condition. -/
import Derived.Tactics

namespace Go.Proofs.Ytclfgkeepmdmjaa

/-- The last k bytes of x, the most significant first. -/
def putB (x : Nat) : Nat → List UInt8
  | 0 => []
  | k + 1 => UInt8.ofNat (x / 256 ^ k) :: putB x k
theorem putB_len (x k : Nat) : (putB x k).length = k := by induction k with
  | zero => rfl
  | succ k ih => simp [putB, ih]
/-- The number in bytes. -/
def numB (l : List UInt8) : Nat := l.foldl (fun x c => x * 256 + c.toNat) 0
theorem numB_snoc (l : List UInt8) (c : UInt8) : numB (l ++ [c]) = numB l * 256 + c.toNat := by simp [numB]
theorem numB_nil : numB [] = 0 := rfl
theorem foldl_num (l : List UInt8) (a : Nat) : l.foldl (fun x c => x * 256 + c.toNat) a = a * 256 ^ l.length + numB l := by
  induction l generalizing a with
  | nil => simp [numB]
  | cons c r ih =>
    have h1 : numB (c :: r) = (0 * 256 + c.toNat) * 256 ^ r.length + numB r := by show List.foldl _ _ r = _; rw [ih]
    rw [List.foldl_cons, ih, h1, List.length_cons, Nat.pow_succ]
    rw [Nat.add_mul, Nat.zero_mul, Nat.zero_add, Nat.mul_assoc, Nat.mul_comm 256, Nat.add_assoc]
theorem numB_cons (c : UInt8) (r : List UInt8) : numB (c :: r) = c.toNat * 256 ^ r.length + numB r := by
  have := foldl_num r c.toNat
  show List.foldl _ (0 * 256 + c.toNat) r = _
  rw [Nat.zero_mul, Nat.zero_add]; exact this
theorem numB_lt (l : List UInt8) : numB l < 256 ^ l.length := by
  induction l with
  | nil => simp [numB]
  | cons c r ih =>
    rw [numB_cons, List.length_cons, Nat.pow_succ]
    have h1 := c.toNat_lt
    have h2 : c.toNat * 256 ^ r.length ≤ 255 * 256 ^ r.length := Nat.mul_le_mul_right _ (by omega)
    omega
theorem numB_put (x k : Nat) : numB (putB x k) = x % 256 ^ k := by
  induction k with
  | zero => simp [putB, numB, Nat.mod_one]
  | succ k ih =>
    have h8 : (UInt8.ofNat (x / 256 ^ k)).toNat = x / 256 ^ k % 256 := UInt8.toNat_ofNat'
    rw [putB, numB_cons, ih, putB_len, h8, Nat.pow_succ 256, Nat.mod_mul (a := 256 ^ k) (b := 256)]
    rw [Nat.mul_comm (256 ^ k), Nat.add_comm]
theorem take_app (l m : List UInt8) (n : Nat) (h : l.length = n) : (l ++ m).take n = l := by subst h; simp
theorem drop_app (l m : List UInt8) (n : Nat) (h : l.length = n) : (l ++ m).drop n = m := by subst h; simp
/-- n held to 0 to 8. -/
def held (n : Int) : Nat := (min (max n 0) 8).toNat
theorem held_le (n : Int) : held n ≤ 8 := by unfold held; omega
/-- A text's bytes. -/
def textB (s : List UInt8) : List UInt8 := putB (min s.length 65535) 2 ++ s.take 65535
theorem textB_len (s : List UInt8) : (textB s).length = 2 + min s.length 65535 := by simp [textB, putB_len]; omega
theorem take_snoc (l : List UInt8) (k : Nat) (h : k < l.length) : l.take (k + 1) = l.take k ++ [l[k]] := by rw [List.take_succ_eq_append_getElem h]
end Go.Proofs.Ytclfgkeepmdmjaa
