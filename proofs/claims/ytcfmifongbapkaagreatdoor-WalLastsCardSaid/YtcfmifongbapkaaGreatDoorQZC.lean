/- Contracts of ballot.Put and of the document's own. Conditions: what they are handed lies in memory; the round fits its kind. -/
import Derived.Test.YtcfmifongbapkaaGreatDoorQS
import Derived.Test.YtcfmifongbapkaaGreatDoorQZA
import Derived.Deep.RegionHeld3
/- BallotPut -/
namespace Go.Proofs.YtcfmifongbapkaaGreatDoor

open Go.RowKit

set_option linter.unusedVariables false

theorem node_byte (n : Int) : n % 256 = ((UInt8.ofNat (n % 256).toNat).toNat : Int) := by
  have h8 : (UInt8.ofNat (n % 256).toNat).toNat = (n % 256).toNat % 256 := UInt8.toNat_ofNat'
  rw [h8]; omega
theorem node_put (n : Int) : putB (n % 18446744073709551616).toNat 1 = [UInt8.ofNat (n % 256).toNat] := by
  have e : UInt8.ofNat (n % 18446744073709551616).toNat = UInt8.ofNat (n % 256).toNat := by
    apply UInt8.toNat_inj.1
    rw [UInt8.toNat_ofNat', UInt8.toNat_ofNat']; omega
  simp [putB, e]
theorem put4_any (a : Option Addr) (m c r : Nat) (l : List UInt8) (w : World) (hl : BAt w w.heap.size a m l) (hlen : m ≤ 1099511627776) (hr : r < 4294967296) :
    Calls Tryz.prog 34 #[.slice a m c, .int .u64 (IntKind.u64.wrap (r : Int)), .int .i64 4] w (NewB w (l ++ putB r 4)) := by
  have e : IntKind.u64.wrap (r : Int) = r := by rw [IntKind.wrap_u64]; omega
  rw [e]
  exact put_any a m c r 4 l w hl hlen (by omega)
theorem put1_any (a : Option Addr) (m c : Nat) (n : Int) (l : List UInt8) (w : World) (hl : BAt w w.heap.size a m l) (hlen : m ≤ 1099511627776) :
    Calls Tryz.prog 34 #[.slice a m c, .int .u64 (IntKind.u64.wrap n), .int .i64 1] w (NewB w (l ++ [UInt8.ofNat (n % 256).toNat])) := by
  have h := put_any a m c (n % 18446744073709551616).toNat 1 l w hl hlen (by omega)
  have e : (((n % 18446744073709551616).toNat : Nat) : Int) = IntKind.u64.wrap n := by rw [IntKind.wrap_u64]; omega
  rw [e] at h
  exact h.mono fun _ _ h => h.cast (by rw [show held 1 = 1 from rfl, node_put])

set_option maxHeartbeats 1000000 in
theorem bPut_any (a : Option Addr) (m c r : Nat) (n : Int) (l : List UInt8) (w : World) (hl : BAt w w.heap.size a m l) (hlen : m ≤ 1099511627000) (hr : r < 4294967296) :
    Calls Tryz.prog 35 #[.slice a m c, .agg #[.int .u32 r, .int .i64 n]] w (NewB w (l ++ balB r n)) := by
  have H0 := Lib.hid ((Boxs.start w).more #[.int .u32 r, .int .i64 n] 24)
  have HD := Lib.hid H0.out.drew
  have HL : Hid (BAt (w.alloc (.cells #[.int .u32 r, .int .i64 n] 24)).drew (w.alloc (.cells #[.int .u32 r, .int .i64 n] 24)).drew.heap.size a m l) := (hl.below HD.out.bel (Nat.le_refl _)).more HD.out.bel.size
  have HLL := Lib.hid hl.len
  have e64 : (r : Int) % 18446744073709551616 = r := by omega
  have HM1 : Hid (m ≤ 1099511627776) := by unfold Hid; omega
  have HM2 : Hid (∀ q : Nat, (l ++ putB r 4).length = q → q ≤ 1099511627776) := fun q hq => by have := HLL.out; simp [putB_len] at hq; omega
  have HR := Lib.hid hr
  have s0 := (H0.out.get 0 _ _ _ rfl).two
  clear hl
  go_enter Tryz.func35, Tryz.ntmps35
  go_upto_region 1 with (fail)
  go_region_held3 (fun w' => w'.cell? ⟨w.heap.size, 0, none⟩ = some (.int .u32 r) ∧ w'.cell? ⟨w.heap.size, 1, none⟩ = some (.int .i64 n)) (first | exact s0 | exact s1 | exact s2)
    (first | (go_at_call 34; ((with_reducible refine (put4_any a m c r l _ HL.out HM1.out HR.out).mono ?_); rintro e w1 ⟨a1, n1, c1, rfl, ho1, hb1⟩; have X1 := Lib.hid (HD.out.below hb1); have s1 := (X1.out.get 0 _ _ _ rfl).two; have L1 := Lib.hid (BAt.of_own ho1); have L2 := Lib.hid (HM2.out _ (own_len ho1)))) | (go_at_call 34; ((with_reducible refine (put1_any a1 n1 c1 n _ _ L1.out L2.out).mono ?_); intro e w2 h2; have N2 := Lib.hid (NewB.on h2 X1.out.bel); obtain ⟨a2, n2, c2, rfl, ho2, hb2⟩ := h2; have X2 := Lib.hid (X1.out.below hb2); have s2 := (X2.out.get 0 _ _ _ rfl).two)))
  go_wp2
  go_ret
  exact N2.out.cast (by rw [balB, List.append_assoc])

set_option maxHeartbeats 1000000 in
theorem rPut_any (a : Option Addr) (m c r : Nat) (n : Int) (l : List UInt8) (w : World) (hl : BAt w w.heap.size a m l) (hlen : m ≤ 1099511627000) (hr : r < 4294967296) :
    Calls Tryz.prog 39 #[.slice a m c, .agg #[.int .u32 r, .int .i64 n]] w (NewB w (l ++ balB r n)) := by
  obtain ⟨i0, hi, hz0, hz1, hz2⟩ := info_parts Tryz.info5
  have H0 := Lib.hid ((Boxs.start w).more #[.int .u32 r, .int .i64 n] 44)
  have HL : Hid (BAt (w.alloc (.cells #[.int .u32 r, .int .i64 n] 44)) (w.alloc (.cells #[.int .u32 r, .int .i64 n] 44)).heap.size a m l) := (hl.below H0.out.bel (Nat.le_refl _)).more H0.out.bel.size
  have HLL := Lib.hid hl.len
  have cP : ∀ W, BAt W W.heap.size a m l → Calls Tryz.prog 40 #[.slice a m c, .int .u64 r, .int .i64 4] W (NewB W (l ++ putB r 4)) := fun W h => refPut_any a m c r 4 l W h (by omega) (by omega) (by omega) (by omega)
  have e64 : (r : Int) % 18446744073709551616 = r := by omega
  clear hl
  go_enter Tryz.func39, Tryz.ntmps39
  go_upto_region 2 with (go_at_call 40; ((with_reducible refine (cP _ HL.out).mono ?_); rintro e w1 ⟨a1, n1, c1, rfl, ho1, hb1⟩; have X1 := Lib.hid (H0.out.below hb1)))
  obtain ⟨s0, s1⟩ := (X1.out.get 0 _ _ _ rfl).two
  have hn1 : n1 = m + 4 := by have := own_len ho1; simp [putB_len, HLL.out] at this; omega
  have ho1' := own_base ho1 H0.out.bel.size
  have PI : PutIn w w1 (.slice a1 n1 c1) n1 (l ++ putB r 4) := ⟨ho1', X1.out.bel⟩
  have hsz := X1.out.bel.size
  go_wp2_with (at_builtin; (refine wpList_append_bytes _ rfl _ _ 34 rfl w.heap.size 5 i0 Tryz.underlying34 hi hz0 hz1 hz2 _ n1 (l ++ putB r 4) rfl (ho1'.alloc _) (w1.heap.size + 1) (some ⟨w1.heap.size, 0, none⟩) 1 [UInt8.ofNat (n % 256).toNat] 1 rfl (BAt.one _ _ _ _ (node_byte n)) (by omega) (by simp; omega) ?_; intro v2 w2 ho2 hg2; have R := PI.next ho2 hg2; clear ho2 hg2))
  go_ret
  exact (R.cast (by rw [balB, List.append_assoc])).out
end Go.Proofs.YtcfmifongbapkaaGreatDoor
