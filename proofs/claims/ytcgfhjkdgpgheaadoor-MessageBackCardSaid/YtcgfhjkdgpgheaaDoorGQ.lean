/- Contracts of code.Put and code.PutText: the bytes that they put, as new memory. Conditions: what they are handed lies in memory and is not longer than 2^40. New bytes, seen from an earlier world; one byte of a number. No condition. -/
import Derived.Test.YtcgfhjkdgpgheaaDoorChecked
import Derived.Test.YtcgfhjkdgpgheaaDoorGR
import Derived.Test.YtcgfhjkdgpgheaaDoorCodeMath
import Derived.WalkKit
import Derived.Tactics2
import Derived.Deep.DeepCutAuto
import Derived.Laws.MakeOwn
import Derived.Laws.BitsAllLaws
/- CodePut -/
namespace Go.Proofs.YtcgfhjkdgpgheaaDoor

open Go.RowKit

set_option linter.unusedVariables false

theorem Tryd.info5 : (Tryd.prog.info? 5).map (fun i => (i.zero, i.size, i.bytes)) = some (some (.int .u8 0), 1, 1) := by kernel_rfl
theorem info_parts {i? : Option TypeInfo} {z : Value} {n m : Nat} (h : i?.map (fun i => (i.zero, i.size, i.bytes)) = some (some z, n, m)) :
    ∃ i, i? = some i ∧ i.zero = some z ∧ i.size = n ∧ i.bytes = m := by
  cases i? with
  | none => cases h
  | some i => simp at h; exact ⟨i, rfl, h.1, h.2.1, h.2.2⟩

/-- New memory that holds the bytes l is answered. -/
def NewB (w : World) (l : List UInt8) (e : Ending) (w' : World) : Prop :=
  ∃ a n c, e = .returned (.slice a n c) ∧ w'.ownsRow w.heap.size 5 1 (.slice a n c) n (bcells l) ∧ Below w.heap.size w w'

theorem byte_eq (x j : Nat) : ((x : Int) / 2 ^ (8 * j) % 256) = ((UInt8.ofNat (x / 256 ^ j)).toNat : Int) := by
  have h8 : (UInt8.ofNat (x / 256 ^ j)).toNat = x / 256 ^ j % 256 := UInt8.toNat_ofNat'
  have h2 : (2 : Int) ^ (8 * j) = ((256 ^ j : Nat) : Int) := by
    have h3 : (2 : Int) ^ 8 = ((256 : Nat) : Int) := by decide
    rw [Int.pow_mul, h3, Int.natCast_pow]
  rw [h8, h2, Int.natCast_emod, Int.natCast_ediv]; rfl

/-- What Put's loop holds. -/
def PutIn (w wr : World) (v : Value) (n : Nat) (l : List UInt8) : Prop := wr.ownsRow w.heap.size 5 1 v n (bcells l) ∧ Below w.heap.size w wr

theorem PutIn.next {w wr w1 : World} {v v' : Value} {n m : Nat} {l l' : List UInt8} (h : PutIn w wr v n l) {o : Obj} (ho : w1.ownsRow w.heap.size 5 1 v' m (bcells l'))
    (hg : (wr.alloc o).grownBy w1 v.ownBlock) : PutIn w w1 v' m l' := by
  have hs := h.2.size
  exact ⟨ho, (h.2.alloc hs o).grown hg (by simp; omega) (own_block h.1)⟩
theorem PutIn.next0 {w wr w1 : World} {v v' : Value} {n m : Nat} {l l' : List UInt8} (h : PutIn w wr v n l) (ho : w1.ownsRow w.heap.size 5 1 v' m (bcells l'))
    (hg : wr.grownBy w1 v.ownBlock) : PutIn w w1 v' m l' := ⟨ho, h.2.grown hg h.2.size (own_block h.1)⟩
theorem PutIn.out {w wr : World} {v : Value} {n : Nat} {l : List UInt8} (h : PutIn w wr v n l) : NewB w l (.returned v) wr := by
  obtain ⟨a, c, rfl, _⟩ := own_form h.1
  exact ⟨a, n, c, rfl, h.1, h.2⟩
theorem PutIn.cast {w wr : World} {v : Value} {n : Nat} {l m : List UInt8} (h : PutIn w wr v n l) (e : l = m) : PutIn w wr v n m := e ▸ h
theorem PutIn.len {w wr : World} {v : Value} {n : Nat} {l : List UInt8} (h : PutIn w wr v n l) : l.length = n := own_len h.1

theorem run_make_bytes (m k : Nat) (h : m + k ≤ 281474976710656) (W : World) :
    (Instr.makeSlice 37 (.int .i64 0) (.int .i64 ((m : Int) + (k : Int)))).run Tryd.prog W = .ok (.slice (some ⟨W.heap.size, 0, none⟩) 0 (m + k)) (W.alloc (.cells (madeCells (Value.int .u8 0).cells (m + k)) 5)) := by
  obtain ⟨i0, hi, hz0, hz1, hz2⟩ := info_parts Tryd.info5
  have hr := run_make (P := Tryd.prog) W 37 5 i0 (.int .u8 0) Tryd.underlying37 hi hz0 .i64 .i64 0 ((m : Int) + (k : Int)) (by omega) (by omega) (by rw [hz2]; omega) (by omega)
  have e1 : ((m : Int) + (k : Int)).toNat = m + k := by omega
  rw [hr, hz1, e1, Nat.mul_one]; rfl
theorem own_made (w : World) (m k : Nat) (h : m + k ≤ 281474976710656) :
    (w.alloc (.cells (madeCells #[Value.int .u8 0] (m + k)) 5)).ownsRow w.heap.size 5 1 (.slice (some ⟨w.heap.size, 0, none⟩) 0 (m + k)) 0 (bcells []) := by
  refine ⟨rfl, .inr ⟨w.heap.size, m + k, _, rfl, Nat.le_refl _, heap_alloc_new w _, by simp, by unfold maxLen; omega, by rw [size_madeCells, Nat.mul_one], by simp [bcells]⟩⟩
theorem held_if (n : Int) : (if 8 < (if n < 0 then 0 else n) then (8 : Int) else if n < 0 then 0 else n) = ((held n : Nat) : Int) := by
  unfold held; by_cases h : n < 0 <;> simp [h] <;> (try split) <;> omega

set_option maxHeartbeats 1000000 in
theorem put_any (a : Option Addr) (m c x : Nat) (n : Int) (l : List UInt8) (w : World) (hl : BAt w w.heap.size a m l) (hlen : m ≤ 1099511627776) (hx : x < 18446744073709551616) :
    Calls Tryd.prog 37 #[.slice a m c, .int .u64 x, .int .i64 n] w (NewB w (l ++ putB x (held n))) := by
  obtain ⟨i0, hi, hz0, hz1, hz2⟩ := info_parts Tryd.info5
  have hk8 := held_le n
  go_enter Tryd.func37, Tryd.ntmps37
  go_upto_region 2 with (fail)
  rw [held_if]
  generalize held n = k at *
  generalize (if n < 0 then (0 : Int) else n) = z
  have hmk := run_make_bytes m k (by omega)
  go_wp2_with (at_builtin; (refine wpList_append_bytes _ rfl _ _ 37 rfl w.heap.size 5 i0 Tryd.underlying37 hi hz0 hz1 hz2 _ 0 [] rfl (own_made w m k (by omega)) w.heap.size a m l c rfl (hl.alloc (Nat.le_refl _) _) (by omega) (by simp) ?_; intro v' w1 hown hg; have hin : PutIn w w1 v' (0 + m) ([] ++ l) := ⟨hown, ((Below.refl _ _).alloc (Nat.le_refl _) _).grown hg (by simp) (own_block (own_made w m k (by omega)))⟩; clear hown hg))
  have hml := hl.len
  go_loopw [7, 8] (fun v i wr => ∃ (r : Nat) (d : List UInt8) (q : Nat), r ≤ k ∧ i = .int .i64 ((r : Int) - 1) ∧ d ++ putB x r = putB x k ∧ PutIn w wr v q (l ++ d)) (fun _ i _ => (intOf i + 1).toNat)
  case atStart => exact ⟨k, [], _, Nat.le_refl _, rfl, rfl, hin.cast (by simp)⟩
  case round =>
    obtain ⟨r, d, q, hr, rfl, hd, hM⟩ := hrel
    clear hin
    rcases r with _ | j
    · have HR : PutIn w wr u7 q (l ++ putB x k) := hM.cast (by rw [← hd]; simp [putB])
      clear hd hM hml
      go_wp2
      go_ret
      exact HR.out
    · have ej : ((j + 1 : Nat) : Int) - 1 = (j : Int) := by omega
      rw [ej]
      clear ej
      have hdl : q ≤ 1099511627800 := by have h1 := congrArg List.length hd; have h2 := hM.len; simp [putB_len] at h1 h2; omega
      have HD := Lib.hid hd; clear hd hml
      have hown := hM.1
      have hsz := hM.2.size
      go_wp2_with (at_builtin; (refine wpList_append_bytes _ rfl _ _ 37 rfl w.heap.size 5 i0 Tryd.underlying37 hi hz0 hz1 hz2 _ q (l ++ d) rfl (hown.alloc _) (wr.heap.size + 1) (some ⟨wr.heap.size, 0, none⟩) 1 [UInt8.ofNat (x / 256 ^ j)] 1 rfl (BAt.one _ _ _ _ (byte_eq x j)) (by omega) (by simp; omega) ?_; intro v2 w2 ho2 hg2; have R := hM.next ho2 hg2; clear ho2 hg2))
      go_roundw
      case rel => exact ⟨j, d ++ [UInt8.ofNat (x / 256 ^ j)], _, by omega, rfl, by rw [← HD.out]; simp [putB], R.cast (by simp)⟩
      case measure => simp [intOf]

set_option maxHeartbeats 1000000 in
theorem putText_any (a : Option Addr) (m c : Nat) (s : ByteArray) (l : List UInt8) (w : World) (hl : BAt w w.heap.size a m l) (hlen : m ≤ 1099511627000) (hs : s.size ≤ maxLen) :
    Calls Tryd.prog 75 #[.slice a m c, .string s] w (NewB w (l ++ textB s.data.toList)) := by
  obtain ⟨i0, hi, hz0, hz1, hz2⟩ := info_parts Tryd.info5
  unfold maxLen at hs
  by_cases h : s.size ≤ 65535
  · have hd : decide ((65535 : Int) < (s.size : Int)) = false := by simp; omega
    go_enter Tryd.func75, Tryd.ntmps75
    go_wp2_with (first | (go_at_call 37; ((with_reducible refine (put_any _ _ _ _ _ _ _ hl (by omega) (by omega)).mono ?_); rintro e w1 ⟨a1, n1, c1, rfl, ho, hb⟩)) | (at_builtin; (refine wpList_append_text _ rfl _ _ 37 9 rfl w.heap.size 5 i0 Tryd.underlying37 Tryd.underlying9 hi hz0 hz1 hz2 _ n1 _ rfl ho s rfl (by have := own_len ho; simp [putB_len, held] at this; have := hl.len; omega) hb.size ?_; intro v2 w2 ho2 hg2; have R : PutIn w w2 v2 _ _ := PutIn.next0 ⟨ho, hb⟩ ho2 hg2; clear ho2 hg2)))
    go_ret
    refine (R.cast ?_).out
    have ht : s.data.toList.take 65535 = s.data.toList := List.take_of_length_le (by rw [Array.length_toList]; exact h)
    have hz : min s.data.toList.length 65535 = s.size := by rw [Array.length_toList]; show min s.size 65535 = _; omega
    rw [textB, ht, hz, List.append_assoc]; rfl
  · have hd : decide ((65535 : Int) < (s.size : Int)) = true := by simp; omega
    have ht : s.data.toList.take 65535 = (s.extract 0 65535).data.toList := by simp
    have hz : min s.data.toList.length 65535 = (s.extract 0 65535).size := by rw [ByteArray.size_extract, Array.length_toList]; show min s.size 65535 = _; omega
    have hsz : (s.extract 0 65535).size ≤ 65535 := by rw [← hz]; omega
    have hT : textB s.data.toList = putB (s.extract 0 65535).size 2 ++ (s.extract 0 65535).data.toList := by rw [textB, ht, hz]
    rw [hT]
    clear ht hz hT
    go_enter Tryd.func75, Tryd.ntmps75
    go_upto_region 2 with (fail)
    generalize s.extract 0 65535 = t at *
    go_wp2_with (first | (go_at_call 37; ((with_reducible refine (put_any _ _ _ _ _ _ _ hl (by omega) (by omega)).mono ?_); rintro e w1 ⟨a1, n1, c1, rfl, ho, hb⟩)) | (at_builtin; (refine wpList_append_text _ rfl _ _ 37 9 rfl w.heap.size 5 i0 Tryd.underlying37 Tryd.underlying9 hi hz0 hz1 hz2 _ n1 _ rfl ho t rfl (by have := own_len ho; simp [putB_len, held] at this; have := hl.len; omega) hb.size ?_; intro v2 w2 ho2 hg2; have R : PutIn w w2 v2 _ _ := PutIn.next0 ⟨ho, hb⟩ ho2 hg2; clear ho2 hg2)))
    go_ret
    refine (R.cast ?_).out
    rw [List.append_assoc]; rfl
end Go.Proofs.YtcgfhjkdgpgheaaDoor

/- CodeNew -/
namespace Go.Proofs.YtcgfhjkdgpgheaaDoor

open Go.RowKit

theorem NewB.on {w w1 w' : World} {l : List UInt8} {e : Ending} (h : NewB w1 l e w') (hb : Below w.heap.size w w1) : NewB w l e w' := by
  obtain ⟨a, n, c, rfl, ho, hb'⟩ := h
  exact ⟨a, n, c, rfl, own_base ho hb.size, hb.trans (hb'.mono hb.size)⟩
theorem NewB.cast {w w' : World} {l m : List UInt8} {e : Ending} (h : NewB w l e w') (hl : l = m) : NewB w m e w' := hl ▸ h
theorem PutIn.below {w wr w1 : World} {v : Value} {n : Nat} {l : List UInt8} (h : PutIn w wr v n l) (hb : Below wr.heap.size wr w1) : PutIn w w1 v n l := ⟨own_below h.1 hb, h.2.trans (hb.mono h.2.size)⟩
theorem PutIn.drew {w wr : World} {v : Value} {n : Nat} {l : List UInt8} (h : PutIn w wr v n l) : PutIn w wr.drew v n l := h.below (below_drewN 1 (Below.refl _ _))
/-- What a call answered, while a row was made. -/
theorem PutIn.call {w wr w1 : World} {a : Option Addr} {n c : Nat} {l : List UInt8} (hb : Below w.heap.size w wr) (ho : w1.ownsRow wr.heap.size 5 1 (.slice a n c) n (bcells l)) (hb1 : Below wr.heap.size wr w1) : PutIn w w1 (.slice a n c) n l := ⟨own_base ho hb.size, hb.trans (hb1.mono hb.size)⟩
theorem PutIn.bat {w wr : World} {a : Option Addr} {n c : Nat} {l : List UInt8} (h : PutIn w wr (.slice a n c) n l) : BAt wr wr.heap.size a n l := BAt.of_own h.1
theorem PutIn.bel {w wr : World} {v : Value} {n : Nat} {l : List UInt8} (h : PutIn w wr v n l) : Below w.heap.size w wr := h.2
theorem PutIn.own {w wr : World} {v : Value} {n : Nat} {l : List UInt8} (h : PutIn w wr v n l) : wr.ownsRow w.heap.size 5 1 v n (bcells l) := h.1
theorem PutIn.form {w wr : World} {v : Value} {n : Nat} {l : List UInt8} (h : PutIn w wr v n l) : ∃ a c, v = .slice a n c := by
  obtain ⟨a, c, h1, _⟩ := own_form h.1
  exact ⟨a, c, h1⟩
theorem byte_nat (n : Nat) (h : n < 256) : ((n : Nat) : Int) = ((UInt8.ofNat n).toNat : Int) := by
  have h8 : (UInt8.ofNat n).toNat = n % 256 := UInt8.toNat_ofNat'
  rw [h8]; omega
theorem byte_mod (n : Nat) : ((n : Nat) : Int) % 256 = ((UInt8.ofNat n).toNat : Int) := by
  have h8 : (UInt8.ofNat n).toNat = n % 256 := UInt8.toNat_ofNat'
  rw [h8]; omega
theorem put_one (n : Nat) : putB n 1 = [UInt8.ofNat n] := by simp [putB]
end Go.Proofs.YtcgfhjkdgpgheaaDoor
