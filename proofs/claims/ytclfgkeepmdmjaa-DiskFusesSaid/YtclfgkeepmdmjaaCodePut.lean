/- Contracts of code.Put and code.PutText: the bytes that they put, as new memory. Conditions: what they are handed lies in memory and is not longer than 2^40. -/
import Derived.Test.YtclfgkeepmdmjaaChecked

import Derived.Test.YtclfgkeepmdmjaaCodeBytes

import Derived.Test.YtclfgkeepmdmjaaCodeMath

import Derived.WalkKit

import Derived.Tactics2

import Derived.Deep.DeepCutAuto

import Derived.Laws.MakeOwn

import Derived.Laws.BitsAllLaws

namespace Go.Proofs.Ytclfgkeepmdmjaa

open Go.RowKit

set_option linter.unusedVariables false

theorem Try.info5 : (Try.prog.info? 5).map (fun i => (i.zero, i.size, i.bytes)) = some (some (.int .u8 0), 1, 1) := by kernel_rfl
theorem info_parts {i? : Option TypeInfo} {z : Value} {n m : Nat} (h : i?.map (fun i => (i.zero, i.size, i.bytes)) = some (some z, n, m)) :
    ∃ i, i? = some i ∧ i.zero = some z ∧ i.size = n ∧ i.bytes = m := by
  cases i? with
  | none => cases h
  | some i => simp at h; exact ⟨i, rfl, h.1, h.2.1, h.2.2⟩

/-- New memory that holds the bytes l is answered. -/
def NewB (w : World) (l : List UInt8) (e : Ending) (w' : World) : Prop :=
  ∃ a n c, e = .returned (.slice a n c) ∧ w'.ownsRow w.heap.size 5 1 (.slice a n c) n (bcells l) ∧ Below w.heap.size w w'

theorem byte_eq (x j : Nat) : ((x : Int) / 2 ^ (8 * j) % 256) = ((UInt8.ofNat (x / 256 ^ j)).toNat : Int) := by
  have h8 : (UInt8.ofNat (x / 256 ^ j)).toNat = x / 256 ^ j % 256 := UInt8.toNat_ofNat'
  have h2 : (2 : Int) ^ (8 * j) = ((256 ^ j : Nat) : Int) := by
    have h3 : (2 : Int) ^ 8 = ((256 : Nat) : Int) := by decide
    rw [Int.pow_mul, h3, Int.natCast_pow]
  rw [h8, h2, Int.natCast_emod, Int.natCast_ediv]; rfl

/-- What Put's loop holds. -/
def PutIn (w wr : World) (v : Value) (n : Nat) (l : List UInt8) : Prop := wr.ownsRow w.heap.size 5 1 v n (bcells l) ∧ Below w.heap.size w wr

theorem PutIn.next {w wr w1 : World} {v v' : Value} {n m : Nat} {l l' : List UInt8} (h : PutIn w wr v n l) {o : Obj} (ho : w1.ownsRow w.heap.size 5 1 v' m (bcells l'))
    (hg : (wr.alloc o).grownBy w1 v.ownBlock) : PutIn w w1 v' m l' := by
  have hs := h.2.size
  exact ⟨ho, (h.2.alloc hs o).grown hg (by simp; omega) (own_block h.1)⟩
theorem PutIn.next0 {w wr w1 : World} {v v' : Value} {n m : Nat} {l l' : List UInt8} (h : PutIn w wr v n l) (ho : w1.ownsRow w.heap.size 5 1 v' m (bcells l'))
    (hg : wr.grownBy w1 v.ownBlock) : PutIn w w1 v' m l' := ⟨ho, h.2.grown hg h.2.size (own_block h.1)⟩
theorem PutIn.out {w wr : World} {v : Value} {n : Nat} {l : List UInt8} (h : PutIn w wr v n l) : NewB w l (.returned v) wr := by
  obtain ⟨a, c, rfl, _⟩ := own_form h.1
  exact ⟨a, n, c, rfl, h.1, h.2⟩
theorem PutIn.cast {w wr : World} {v : Value} {n : Nat} {l m : List UInt8} (h : PutIn w wr v n l) (e : l = m) : PutIn w wr v n m := e ▸ h
theorem PutIn.len {w wr : World} {v : Value} {n : Nat} {l : List UInt8} (h : PutIn w wr v n l) : l.length = n := own_len h.1

theorem run_make_bytes (m k : Nat) (h : m + k ≤ 281474976710656) (W : World) :
    (Instr.makeSlice 33 (.int .i64 0) (.int .i64 ((m : Int) + (k : Int)))).run Try.prog W = .ok (.slice (some ⟨W.heap.size, 0, none⟩) 0 (m + k)) (W.alloc (.cells (madeCells (Value.int .u8 0).cells (m + k)) 5)) := by
  obtain ⟨i0, hi, hz0, hz1, hz2⟩ := info_parts Try.info5
  have hr := run_make (P := Try.prog) W 33 5 i0 (.int .u8 0) Try.underlying33 hi hz0 .i64 .i64 0 ((m : Int) + (k : Int)) (by omega) (by omega) (by rw [hz2]; omega) (by omega)
  have e1 : ((m : Int) + (k : Int)).toNat = m + k := by omega
  rw [hr, hz1, e1, Nat.mul_one]; rfl
theorem own_made (w : World) (m k : Nat) (h : m + k ≤ 281474976710656) :
    (w.alloc (.cells (madeCells #[Value.int .u8 0] (m + k)) 5)).ownsRow w.heap.size 5 1 (.slice (some ⟨w.heap.size, 0, none⟩) 0 (m + k)) 0 (bcells []) := by
  refine ⟨rfl, .inr ⟨w.heap.size, m + k, _, rfl, Nat.le_refl _, heap_alloc_new w _, by simp, by unfold maxLen; omega, by rw [size_madeCells, Nat.mul_one], by simp [bcells]⟩⟩
theorem held_if (n : Int) : (if 8 < (if n < 0 then 0 else n) then (8 : Int) else if n < 0 then 0 else n) = ((held n : Nat) : Int) := by
  unfold held; by_cases h : n < 0 <;> simp [h] <;> (try split) <;> omega

end Go.Proofs.Ytclfgkeepmdmjaa
