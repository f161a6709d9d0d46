/- Contracts of ballot.Formed, Less and Next, of the document's own, and of the statements' awake. No condition. Contracts of ballot.Put and of the document's own. Conditions: what they are handed lies in memory; the round fits its kind. -/
import Derived.Test.YtigimmbdlhginaaGreatDoorGS
import Derived.Test.YtigimmbdlhginaaGreatDoorGB
import Derived.Test.YtigimmbdlhginaaGreatDoorGQ
import Derived.Deep.RegionHeld3
namespace Go.Proofs.YtigimmbdlhginaaGreatDoor
open Go.RowKit
set_option linter.unusedVariables false
theorem bFormed_any (r n : Int) (w : World) : Calls Tryz.prog 56 #[.agg #[.int .u32 r,.int .i64 n]] w (Says w (formB n)):=by
 have hB:=one_box w #[.int .u32 r,.int .i64 n] 26
 unfold formB
 by_cases h : 0≤n
 ·have q : decide (n < 0) = false:=by simp;omega
  rw [decide_eq_true h,Bool.true_and]
  go_enter Tryz.func56,Tryz.ntmps56
  go_wp2
  go_ret
  exact ⟨rfl,hB⟩
 ·have q : decide (n < 0) = true:=by simp;omega
  rw [decide_eq_false h,Bool.false_and]
  go_enter Tryz.func56,Tryz.ntmps56
  go_wp2
  go_ret
  exact ⟨rfl,hB⟩
theorem rFormed_any (r n : Int) (w : World) : Calls Tryz.prog 75 #[.agg #[.int .u32 r,.int .i64 n]] w (Says w (formB n)):=by
 have hB:=one_box w #[.int .u32 r,.int .i64 n] 43
 unfold formB
 by_cases h : 0≤n
 ·have e : decide (n < 5) = decide (n≤4):=by simp;omega
  rw [e,decide_eq_true h,Bool.true_and]
  go_enter Tryz.func75,Tryz.ntmps75
  go_wp2
  go_ret
  exact ⟨rfl,hB⟩
 ·rw [decide_eq_false h,Bool.false_and]
  go_enter Tryz.func75,Tryz.ntmps75
  go_wp2
  go_ret
  exact ⟨rfl,hB⟩
theorem node_byte (n : Int) : n % 256 = ((UInt8.ofNat (n % 256).toNat).toNat : Int):=by
 have h8 : (UInt8.ofNat (n % 256).toNat).toNat = (n % 256).toNat % 256:=UInt8.toNat_ofNat'
 rw [h8];omega
set_option maxHeartbeats 1000000 in
theorem rPut_any (a : Option Addr) (m c r : Nat) (n : Int) (l : List UInt8) (w : World) (hl : BAt w w.heap.size a m l) (hlen : m≤1099511627000) (hr : r < 4294967296) :
  Calls Tryz.prog 48 #[.slice a m c,.agg #[.int .u32 r,.int .i64 n]] w (NewB w (l ++ balB r n)):=by
 obtain ⟨i0,hi,hz0,hz1,hz2⟩:=info_parts Tryz.info5
 have H0:=Lib.hid ((Boxs.start w).more #[.int .u32 r,.int .i64 n] 43)
 have HL : Hid (BAt (w.alloc (.cells #[.int .u32 r,.int .i64 n] 43)) (w.alloc (.cells #[.int .u32 r,.int .i64 n] 43)).heap.size a m l):=(hl.below H0.out.bel (Nat.le_refl _)).more H0.out.bel.size
 have HLL:=Lib.hid hl.len
 have cP : ∀ W,BAt W W.heap.size a m l→Calls Tryz.prog 49 #[.slice a m c,.int .u64 r,.int .i64 4] W (NewB W (l ++ putB r 4)):=fun W h=>refPut_any a m c r 4 l W h (by omega) (by omega) (by omega) (by omega)
 have e64 : (r : Int) % 18446744073709551616 = r:=by omega
 clear hl
 go_enter Tryz.func48,Tryz.ntmps48
 go_upto_region 2 with (go_at_call 49;((with_reducible refine (cP _ HL.out).mono ?_);rintro e w1 ⟨a1,n1,c1,rfl,ho1,hb1⟩;have X1:=Lib.hid (H0.out.below hb1)))
 obtain ⟨s0,s1⟩:=(X1.g 0 rfl).two
 have hn1 : n1 = m + 4:=by have:=own_len ho1;simp [putB_len,HLL.out] at this;omega
 have ho1':=own_base ho1 H0.out.bel.size
 have PI : PutIn w w1 (.slice a1 n1 c1) n1 (l ++ putB r 4):=⟨ho1',X1.out.bel⟩
 have hsz:=X1.out.bel.size
 go_wp2_with (at_builtin;(refine wpList_append_bytes _ rfl _ _ 22 rfl w.heap.size 5 i0 Tryz.underlying22 hi hz0 hz1 hz2 _ n1 (l ++ putB r 4) rfl (ho1'.alloc _) (w1.heap.size + 1) (some ⟨w1.heap.size,0,none⟩) 1 [UInt8.ofNat (n % 256).toNat] 1 rfl (BAt.one _ _ _ _ (node_byte n)) (by omega) (by simp;omega) ?_;intro v2 w2 ho2 hg2;have R:=PI.next ho2 hg2;clear ho2 hg2))
 go_ret
 exact (R.cast (by rw [balB,List.append_assoc])).out
end Go.Proofs.YtigimmbdlhginaaGreatDoor
