
/- Plain mathematics of layer config: bounds that rise and whose a key is, the groups of many keys, replicas and their places. No condition. Contracts of the document's own Same, Put and PutText. Conditions: what they are handed lies in memory; the numbers are small. What came in as a slice of bytes reads as a list of bytes. No condition. -/
import Derived.WalkKit
import Derived.Sort.Walk0
import Derived.Test.YtcfmifongbapkaaGreatDoorQA
import Derived.Deep.QuietTactic
import Derived.BigQuiet
/- ConfigMath -/
namespace Go.Proofs.YtcfmifongbapkaaGreatDoor

/-- Whether the bound b isn't above the key k. -/
def leB (b k : List UInt8) : Bool := !Op.bytesLess k b
theorem leB_eq (b k : List UInt8) : (Op.bytesLess b k || b == k) = leB b k := by
  have h1 := bytesLess_eq b k
  have h2 := bytesLess_eq k b
  unfold leB
  rw [h1, h2, Bool.eq_iff_iff]
  simp only [Bool.or_eq_true, decide_eq_true_eq, beq_iff_eq, Bool.not_eq_true', decide_eq_false_iff_not]
  constructor
  · rintro (h | rfl)
    · exact fun h' => List.lt_irrefl _ (List.lt_trans h h')
    · exact List.lt_irrefl _
  · intro h
    by_cases hb : b < k
    · exact .inl hb
    · exact .inr (List.le_antisymm (List.not_lt.1 h) (List.not_lt.1 hb))
/-- The same of texts, as the model compares them. -/
theorem leS (z s : ByteArray) : (Op.bytesLess z.toList s.toList || z.toList == s.toList) = leB z.data.toList s.data.toList := by
  rw [ByteArray.toList_eq, ByteArray.toList_eq]; exact leB_eq _ _
theorem ltS (z s : ByteArray) : Op.bytesLess z.toList s.toList = !leB s.data.toList z.data.toList := by
  rw [ByteArray.toList_eq, ByteArray.toList_eq]; unfold leB; rw [Bool.not_not]
/-- How many bounds aren't above k. -/
def homeC (Bs : List (List UInt8)) (k : List UInt8) : Nat := (Bs.filter fun b => leB b k).length
/-- Each bound lies behind the ones ahead of it. -/
def risesB (Bs : List (List UInt8)) : Prop := Bs.Pairwise (· < ·)
/-- The groups that are among hs, rising. -/
def groupsC (n : Nat) (hs : List Nat) : List Nat := (List.range n).filter fun g => decide (g ∈ hs)
/-- The replica of a place; the place of a replica. -/
def atL : List Nat → Nat → Option (Nat × Nat)
  | [], _ => none
  | r :: R, p => if p < r then some (0, p) else (atL R (p - r)).map fun x => (x.1 + 1, x.2)
def placeL : List Nat → Nat → Nat → Option Nat
  | [], _, _ => none
  | r :: _, 0, k => if k < r then some k else none
  | r :: R, g + 1, k => (placeL R g k).map (· + r)
end Go.Proofs.YtcfmifongbapkaaGreatDoor

/- CodeRef -/
namespace Go.Proofs.YtcfmifongbapkaaGreatDoor

open Go.RowKit

set_option linter.unusedVariables false

/-- b is answered, and nothing but the draws has gone on. -/
def Reads1 (w : World) (v : Value) (e : Ending) (w' : World) : Prop := e = .returned v ∧ ∃ k, w' = w.drewN k

set_option maxHeartbeats 1000000 in
set_option maxRecDepth 100000 in
theorem refPut_any (a : Option Addr) (m c x : Nat) (n : Int) (l : List UInt8) (w : World) (hl : BAt w w.heap.size a m l) (hlen : m ≤ 1099511627776) (hx : x < 18446744073709551616) (hn1 : -1000 ≤ n) (hn2 : n ≤ 1000) :
    Calls Tryz.prog 40 #[.slice a m c, .int .u64 x, .int .i64 n] w (NewB w (l ++ putB x (held n))) := by
  obtain ⟨i0, hi, hz0, hz1, hz2⟩ := info_parts Tryz.info5
  have hml := hl.len
  have hk8 := held_le n
  obtain ⟨k, hk⟩ : ∃ k, k = held n := ⟨_, rfl⟩
  have hkn : (k : Int) = min (max n 0) 8 := by rw [hk]; unfold held; omega
  rw [← hk] at hk8 ⊢
  clear hk
  go_enter Tryz.func40, Tryz.ntmps40
  go_wp2_with (at_builtin; (refine wpList_append_bytes _ rfl _ _ 34 rfl w.heap.size 5 i0 Tryz.underlying34 hi hz0 hz1 hz2 _ 0 [] rfl (World.ownsRow_nil _ _ _ _) w.heap.size a m l c rfl hl (by omega) (Nat.le_refl _) ?_; intro v' w1 hown hg; have hin : PutIn w w1 v' (0 + m) ([] ++ l) := ⟨hown, (Below.refl _ _).grown hg (Nat.le_refl _) (by intro j hj; cases hj)⟩; clear hown hg))
  go_loopw [7, 8] (fun v i wr => ∃ (j : Nat) (d : List UInt8) (q : Nat), j ≤ 8 ∧ i = .int .i64 j ∧ d ++ putB x (min k (8 - j)) = putB x k ∧ PutIn w wr v q (l ++ d)) (fun _ i _ => 8 - (intOf i).toNat)
  case atStart => exact ⟨0, [], _, by omega, rfl, by rw [Nat.min_eq_left (by omega)]; rfl, hin.cast (by simp)⟩
  case round =>
    obtain ⟨j, d, q, hj, rfl, hd, hM⟩ := hrel
    clear hin
    by_cases h8 : j < 8
    · have hdl : q ≤ 1099511627800 := by have h1 := congrArg List.length hd; have h2 := hM.len; simp [putB_len] at h1 h2; omega
      by_cases hge : 8 - n ≤ (j : Int)
      · have e1 : min k (8 - j) = (7 - j) + 1 := by omega
        rw [e1] at hd
        have HD := Lib.hid hd; clear hd hml e1
        obtain ⟨t, ht⟩ : ∃ t : Nat, t = 7 - j := ⟨_, rfl⟩
        have ht' : (7 : Int) - (j : Int) = (t : Int) := by omega
        have htn : min k (8 - (j + 1)) = t := by omega
        rw [← ht] at HD
        have hown := hM.1
        have hsz := hM.2.size
        clear ht hkn
        have HTN := Lib.hid htn
        clear htn
        go_upto_region 7 with (fail)
        go_wp2_with (at_builtin; (refine wpList_append_bytes _ rfl _ _ 34 rfl w.heap.size 5 i0 Tryz.underlying34 hi hz0 hz1 hz2 _ q (l ++ d) rfl (hown.alloc _) (wr.heap.size + 1) (some ⟨wr.heap.size, 0, none⟩) 1 [UInt8.ofNat (x / 256 ^ t)] 1 rfl (BAt.one _ _ _ _ (byte_eq x t)) (by omega) (by simp; omega) ?_; intro v2 w2 ho2 hg2; have R := hM.next ho2 hg2; clear ho2 hg2))
        go_roundw
        case rel => exact ⟨j + 1, d ++ [UInt8.ofNat (x / 256 ^ t)], _, by omega, by go_num, by rw [HTN.out, ← HD.out]; simp [putB], R.cast (by simp)⟩
        case measure => simp [intOf]; omega
      · have e1 : min k (8 - j) = k := by omega
        have e2 : min k (8 - (j + 1)) = k := by omega
        rw [e1] at hd
        have HD := Lib.hid hd; have E2 := Lib.hid e2; clear hd hml e1 e2 hkn
        go_wp2
        go_roundw
        case rel => exact ⟨j + 1, d, _, by omega, by go_num, by rw [E2.out]; exact HD.out, hM⟩
        case measure => simp [intOf]; omega
    · have e1 : min k (8 - j) = 0 := by omega
      rw [e1] at hd
      have HR : PutIn w wr u7 q (l ++ putB x k) := hM.cast (by rw [← hd]; simp [putB])
      clear hd hM hml hkn e1
      go_wp2
      go_ret
      exact HR.out

set_option maxHeartbeats 1000000 in
theorem refPutText_any (a : Option Addr) (m c : Nat) (s : ByteArray) (l : List UInt8) (w : World) (hl : BAt w w.heap.size a m l) (hlen : m ≤ 1099511627000) (hs : s.size ≤ maxLen) :
    Calls Tryz.prog 107 #[.slice a m c, .string s] w (NewB w (l ++ textB s.data.toList)) := by
  obtain ⟨i0, hi, hz0, hz1, hz2⟩ := info_parts Tryz.info5
  unfold maxLen at hs
  by_cases h : s.size ≤ 65535
  · have hd : decide ((65535 : Int) < (s.size : Int)) = false := by simp; omega
    go_enter Tryz.func107, Tryz.ntmps107
    go_wp2_with (first | (go_at_call 40; ((with_reducible refine (refPut_any _ _ _ _ _ _ _ hl (by omega) (by omega) (by omega) (by omega)).mono ?_); rintro e w1 ⟨a1, n1, c1, rfl, ho, hb⟩)) | (at_builtin; (refine wpList_append_text _ rfl _ _ 34 9 rfl w.heap.size 5 i0 Tryz.underlying34 Tryz.underlying9 hi hz0 hz1 hz2 _ n1 _ rfl ho s rfl (by have := own_len ho; simp [putB_len, held] at this; have := hl.len; omega) hb.size ?_; intro v2 w2 ho2 hg2; have R : PutIn w w2 v2 _ _ := PutIn.next0 ⟨ho, hb⟩ ho2 hg2; clear ho2 hg2)))
    go_ret
    refine (R.cast ?_).out
    have ht : s.data.toList.take 65535 = s.data.toList := List.take_of_length_le (by rw [Array.length_toList]; exact h)
    have hz : min s.data.toList.length 65535 = s.size := by rw [Array.length_toList]; show min s.size 65535 = _; omega
    rw [textB, ht, hz, List.append_assoc]; rfl
  · have hd : decide ((65535 : Int) < (s.size : Int)) = true := by simp; omega
    have ht : s.data.toList.take 65535 = (s.extract 0 65535).data.toList := by simp
    have hz : min s.data.toList.length 65535 = 65535 := by rw [Array.length_toList]; show min s.size 65535 = _; omega
    have hsz : (s.extract 0 65535).size ≤ 65535 := by rw [ByteArray.size_extract]; omega
    have hT : textB s.data.toList = putB 65535 2 ++ (s.extract 0 65535).data.toList := by rw [textB, ht, hz]
    rw [hT]
    clear ht hz hT
    have hp : Calls Tryz.prog 40 #[.slice a m c, .int .u64 65535, .int .i64 2] w (NewB w (l ++ putB 65535 2)) := refPut_any a m c 65535 2 l w hl (by omega) (by omega) (by omega) (by omega)
    go_enter Tryz.func107, Tryz.ntmps107
    go_wp2_with (first | (go_at_call 40; ((with_reducible refine hp.mono ?_); rintro e w1 ⟨a1, n1, c1, rfl, ho, hb⟩)) | (at_builtin; (refine wpList_append_text _ rfl _ _ 34 9 rfl w.heap.size 5 i0 Tryz.underlying34 Tryz.underlying9 hi hz0 hz1 hz2 _ n1 _ rfl ho (s.extract 0 65535) rfl (by have := own_len ho; simp [putB_len] at this; have := hl.len; omega) hb.size ?_; intro v2 w2 ho2 hg2; have R : PutIn w w2 v2 _ _ := PutIn.next0 ⟨ho, hb⟩ ho2 hg2; clear ho2 hg2)))
    go_ret
    refine (R.cast ?_).out
    rw [List.append_assoc]
end Go.Proofs.YtcfmifongbapkaaGreatDoor

/- CodeIn -/
namespace Go.Proofs.YtcfmifongbapkaaGreatDoor

open Go.RowKit

theorem block_lt {w : World} {p : Addr} {v : Value} (h : w.cell? p = some v) : p.block < w.heap.size := by
  rcases Nat.lt_or_ge p.block w.heap.size with h1 | h1
  · exact h1
  · exfalso
    unfold World.cell? at h
    rw [Array.getElem?_eq_none h1] at h
    simp at h

theorem bat_in {w : World} {x : Addr} {len : Nat} {zs : List Int} (hl : len ≤ zs.length) (hc : ∀ i, i < zs.length → w.cell? (x.add i) = some (.int .u8 (zs.getD i 0))) (hw : ∀ n ∈ zs, (Lit.int .u8 n).wf = true) :
    ∃ l, BAt w w.heap.size (some x) len l := by
  refine ⟨(zs.take len).map fun n => UInt8.ofNat n.toNat, by simp; omega, ?_⟩
  by_cases h0 : len = 0
  · exact .inl h0
  · obtain ⟨b, off, spot⟩ := x
    have hc0 := hc 0 (by omega)
    have hspot : spot = none := by simpa [Addr.add] using World.cell?_spot hc0
    subst hspot
    refine .inr ⟨b, off, rfl, by simpa [Addr.add] using block_lt hc0, fun i hi => ?_⟩
    have hi' : i < zs.length := by simp at hi; omega
    have h1 := hc i hi'
    rw [add_plain] at h1
    rw [h1]
    have hg : zs.getD i 0 = zs[i] := by simp [List.getD, List.getElem?_eq_getElem hi']
    have hm := hw zs[i] (List.getElem_mem hi')
    have hr : 0 ≤ zs[i] ∧ zs[i] < 256 := by simp [Lit.wf, IntKind.min, IntKind.max, IntKind.bits, IntKind.signed] at hm; omega
    rw [hg]
    have e1 : ((zs.take len).map fun n => UInt8.ofNat n.toNat)[i]'hi = UInt8.ofNat (zs[i]).toNat := by simp
    have e2 : (UInt8.ofNat (zs[i]).toNat).toNat = (zs[i]).toNat % 256 := UInt8.toNat_ofNat'
    rw [e1, e2]
    congr 2
    omega
end Go.Proofs.YtcfmifongbapkaaGreatDoor
