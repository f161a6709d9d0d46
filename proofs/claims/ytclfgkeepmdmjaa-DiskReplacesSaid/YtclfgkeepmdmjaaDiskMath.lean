/- What a disk is, and what each act makes of it: plain mathematics. No condition. -/
import Derived.Tactics

namespace Go.Proofs.Ytclfgkeepmdmjaa

/-- A disk: its size, what lasts, what doesn't, its fuse (below 0: none), whether it is down, within a Replace, by what. -/
structure Dk where
  size : Int
  la : List UInt8
  re : List UInt8
  fuse : Int
  down : Bool
  torn : Bool
  half : List UInt8
def newD (n : Int) : Dk := ⟨max n 0, [], [], -1, false, false, []⟩
/-- Does the power go within this act? -/
def goesB (d : Dk) : Bool := decide (d.fuse = 0)
def goesD (d : Dk) : Dk := if d.fuse = 0 then { d with down := true } else if 0 < d.fuse then { d with fuse := d.fuse - 1 } else d
def fullA (d : Dk) (l : List UInt8) : Bool := decide (d.size < (d.la.length : Int) + d.re.length + l.length)
def fullR (d : Dk) (l : List UInt8) : Bool := decide (d.size < (l.length : Int))
def appE (d : Dk) (l : List UInt8) : Int := if d.down then 8 else if fullA d l then 7 else if goesB d then 8 else 0
def appD (d : Dk) (l : List UInt8) : Dk := if d.down then d else if fullA d l then d else { goesD d with re := d.re ++ l }
def synE (d : Dk) : Int := if d.down then 8 else if goesB d then 8 else 0
def synD (d : Dk) : Dk := if d.down then d else if goesB d then goesD d else { goesD d with la := d.la ++ d.re, re := [] }
def repE (d : Dk) (l : List UInt8) : Int := if d.down then 8 else if fullR d l then 7 else if goesB d then 8 else 0
def repD (d : Dk) (l : List UInt8) : Dk := if d.down then d else if fullR d l then d else if goesB d then { goesD d with torn := true, half := l } else { goesD d with la := l, re := [] }
def fusD (d : Dk) (n : Int) : Dk := { d with fuse := max n (-1) }
def downD (d : Dk) : Dk := { d with down := true }
/-- What is there behind a cut. -/
def behD (d : Dk) (k : Int) : List UInt8 := if d.torn then (if 0 < k then d.half else d.la) else d.la ++ d.re.take k.toNat
def cutD (d : Dk) (k : Int) : Dk := ⟨d.size, behD d k, [], -1, false, false, []⟩
/-- A bound of what is there. -/
def BndD (d : Dk) (M : Nat) : Prop := d.la.length + d.re.length ≤ M ∧ d.half.length ≤ M

theorem goes_la (d : Dk) : (goesD d).la = d.la := by unfold goesD; split <;> (try split) <;> rfl
theorem goes_re (d : Dk) : (goesD d).re = d.re := by unfold goesD; split <;> (try split) <;> rfl
theorem goes_half (d : Dk) : (goesD d).half = d.half := by unfold goesD; split <;> (try split) <;> rfl
theorem goes_size (d : Dk) : (goesD d).size = d.size := by unfold goesD; split <;> (try split) <;> rfl
theorem goes_torn (d : Dk) : (goesD d).torn = d.torn := by unfold goesD; split <;> (try split) <;> rfl
theorem goes_down (d : Dk) : (goesD d).down = (goesB d || d.down) := by unfold goesD goesB; split <;> (try split) <;> simp_all
theorem BndD.goes {d : Dk} {M : Nat} (h : BndD d M) : BndD (goesD d) M := by unfold BndD; rw [goes_la, goes_re, goes_half]; exact h
theorem BndD.mono {d : Dk} {M N : Nat} (h : BndD d M) (hN : M ≤ N) : BndD d N := ⟨Nat.le_trans h.1 hN, Nat.le_trans h.2 hN⟩
theorem BndD.new (n : Int) : BndD (newD n) 0 := ⟨Nat.le_refl _, Nat.le_refl _⟩
theorem BndD.app {d : Dk} {M K : Nat} {l : List UInt8} (h : BndD d M) (hl : l.length ≤ K) : BndD (appD d l) (M + K) := by
  unfold appD
  split
  · exact h.mono (by omega)
  · split
    · exact h.mono (by omega)
    · refine ⟨?_, ?_⟩
      · simp only [goes_la, List.length_append]; have := h.1; omega
      · simp only [goes_half]; have := h.2; omega
theorem BndD.syn {d : Dk} {M : Nat} (h : BndD d M) : BndD (synD d) M := by
  unfold synD
  split
  · exact h
  · split
    · exact h.goes
    · exact ⟨by simp only [List.length_append, List.length_nil]; exact h.1, by simp only [goes_half]; exact h.2⟩
theorem BndD.rep {d : Dk} {M K : Nat} {l : List UInt8} (h : BndD d M) (hl : l.length ≤ K) : BndD (repD d l) (M + K) := by
  unfold repD
  split
  · exact h.mono (by omega)
  · split
    · exact h.mono (by omega)
    · split
      · exact ⟨by simp only [goes_la, goes_re]; have := h.1; omega, by show l.length ≤ _; omega⟩
      · exact ⟨by show l.length + 0 ≤ _; omega, by simp only [goes_half]; have := h.2; omega⟩
theorem BndD.fus {d : Dk} {M : Nat} (h : BndD d M) (n : Int) : BndD (fusD d n) M := h
theorem beh_len {d : Dk} {M : Nat} (h : BndD d M) (k : Int) : (behD d k).length ≤ M := by
  unfold behD
  split
  · split
    · exact h.2
    · have := h.1; omega
  · rw [List.length_append, List.length_take]; have := h.1; omega
theorem BndD.cut {d : Dk} {M : Nat} (h : BndD d M) (k : Int) : BndD (cutD d k) M := ⟨by show (behD d k).length + 0 ≤ M; have := beh_len h k; omega, by show 0 ≤ M; omega⟩
theorem beh_take (d : Dk) (k : Int) (h : d.torn = false) : behD d k = (d.la ++ d.re).take (d.la.length + min k.toNat d.re.length) := by
  unfold behD
  rw [h, List.take_append]
  simp
  rw [List.take_of_length_le (l := d.la) (by omega)]
  congr 1
  by_cases e : k.toNat ≤ d.re.length
  · rw [Nat.min_eq_left e]
  · rw [Nat.min_eq_right (by omega), List.take_of_length_le (by omega), List.take_of_length_le (Nat.le_refl _)]
theorem kept_eq (a b : Nat) (k : Int) (h : b ≤ a) : min (max k 0) ((a : Int) - b) = ((min k.toNat (a - b) : Nat) : Int) := by omega
end Go.Proofs.Ytclfgkeepmdmjaa
