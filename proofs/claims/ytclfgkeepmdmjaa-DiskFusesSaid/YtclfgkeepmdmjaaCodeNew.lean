/- New bytes, seen from an earlier world; one byte of a number. No condition. -/
import Derived.Test.YtclfgkeepmdmjaaCodePut

namespace Go.Proofs.Ytclfgkeepmdmjaa

open Go.RowKit

theorem NewB.on {w w1 w' : World} {l : List UInt8} {e : Ending} (h : NewB w1 l e w') (hb : Below w.heap.size w w1) : NewB w l e w' := by
  obtain ⟨a, n, c, rfl, ho, hb'⟩ := h
  exact ⟨a, n, c, rfl, own_base ho hb.size, hb.trans (hb'.mono hb.size)⟩
theorem NewB.cast {w w' : World} {l m : List UInt8} {e : Ending} (h : NewB w l e w') (hl : l = m) : NewB w m e w' := hl ▸ h
theorem PutIn.below {w wr w1 : World} {v : Value} {n : Nat} {l : List UInt8} (h : PutIn w wr v n l) (hb : Below wr.heap.size wr w1) : PutIn w w1 v n l := ⟨own_below h.1 hb, h.2.trans (hb.mono h.2.size)⟩
theorem PutIn.drew {w wr : World} {v : Value} {n : Nat} {l : List UInt8} (h : PutIn w wr v n l) : PutIn w wr.drew v n l := h.below (below_drewN 1 (Below.refl _ _))
/-- What a call answered, while a row was made. -/
theorem PutIn.call {w wr w1 : World} {a : Option Addr} {n c : Nat} {l : List UInt8} (hb : Below w.heap.size w wr) (ho : w1.ownsRow wr.heap.size 5 1 (.slice a n c) n (bcells l)) (hb1 : Below wr.heap.size wr w1) : PutIn w w1 (.slice a n c) n l := ⟨own_base ho hb.size, hb.trans (hb1.mono hb.size)⟩
theorem PutIn.bat {w wr : World} {a : Option Addr} {n c : Nat} {l : List UInt8} (h : PutIn w wr (.slice a n c) n l) : BAt wr wr.heap.size a n l := BAt.of_own h.1
theorem PutIn.bel {w wr : World} {v : Value} {n : Nat} {l : List UInt8} (h : PutIn w wr v n l) : Below w.heap.size w wr := h.2
theorem PutIn.own {w wr : World} {v : Value} {n : Nat} {l : List UInt8} (h : PutIn w wr v n l) : wr.ownsRow w.heap.size 5 1 v n (bcells l) := h.1
theorem PutIn.form {w wr : World} {v : Value} {n : Nat} {l : List UInt8} (h : PutIn w wr v n l) : ∃ a c, v = .slice a n c := by
  obtain ⟨a, c, h1, _⟩ := own_form h.1
  exact ⟨a, c, h1⟩
theorem byte_nat (n : Nat) (h : n < 256) : ((n : Nat) : Int) = ((UInt8.ofNat n).toNat : Int) := by
  have h8 : (UInt8.ofNat n).toNat = n % 256 := UInt8.toNat_ofNat'
  rw [h8]; omega
theorem byte_mod (n : Nat) : ((n : Nat) : Int) % 256 = ((UInt8.ofNat n).toNat : Int) := by
  have h8 : (UInt8.ofNat n).toNat = n % 256 := UInt8.toNat_ofNat'
  rw [h8]; omega
theorem put_one (n : Nat) : putB n 1 = [UInt8.ofNat n] := by simp [putB]
end Go.Proofs.Ytclfgkeepmdmjaa
