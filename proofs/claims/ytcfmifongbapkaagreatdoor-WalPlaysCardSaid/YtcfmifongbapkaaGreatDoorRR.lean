/- Contract of wal.Formed. Conditions: the record's lists lie in memory, and are no longer than a million; the tables of utf8 lie there. New bytes, seen from an earlier world; one byte of a number. No condition. Contracts of ballot.Put and of the document's own. Conditions: what they are handed lies in memory; the round fits its kind. Contracts of slices.Grow of no slice, and of slices.Concat of two slices. Conditions: the slices lie in memory, and are no longer than 2^40. Contract of bytes.Clone; a row of the call's own is appended to at a step of a drawn region. Conditions: what it is handed lies in memory and is not longer than 2^40. What the program's Take and Put of values are to do, in words. -/
import Derived.Test.YtcfmifongbapkaaGreatDoorRM
import Derived.Test.YtcfmifongbapkaaGreatDoorWalNamed
import Derived.Test.YtcfmifongbapkaaGreatDoorRQ
import Derived.Test.YtcfmifongbapkaaGreatDoorRO
import Derived.Deep.RegionHeld3
import Derived.Test.YtcfmifongbapkaaGreatDoorRA
import Derived.Lib.AppendZerosOnto
import Derived.Lib.AppendZeros
import Derived.Test.YtcfmifongbapkaaGreatDoorRC
import Derived.Test.YtcfmifongbapkaaGreatDoorRH
namespace Go.Proofs.YtcfmifongbapkaaGreatDoor
set_option maxRecDepth 100000
set_option maxHeartbeats 4000000
open Go.RowKit
open Go.Lib (hid)
set_option linter.unusedVariables false
set_option linter.unusedSimpArgs false
theorem BoxC.sK {w : World} {g : Nat} {x : RcM} (h : BoxC w g (rcV x) 36) : w.cell? ⟨g,0,none⟩ = some (.int .i64 x.k)∧(Go.Proofs.YtcfmifongbapkaaGreatDoor.ldK (.pointer (some ⟨g,0,none⟩))).run Tryz.prog w = .ok (.agg (rcV x)) w:=⟨h.cell 0 _ rfl,h.ldK⟩
theorem RcF.named {x : RcM} (h : RcF x) : RcF (namedR x):=by
 unfold namedR
 split
 ·exact ⟨Nat.zero_le _,Nat.zero_le _,Nat.zero_le _⟩
 ·split
  ·exact ⟨h.n,h.m,Nat.zero_le _⟩
  ·split
   ·exact ⟨h.n,h.m,Nat.zero_le _⟩
   ·split
    ·exact ⟨Nat.zero_le _,Nat.zero_le _,h.dn⟩
    ·exact RcF.zero
theorem wFormed_any (x : RcM) (L : RcL) (w : World) (h : RcAt w x L) (hf : RcF x) (hU : Tabs w) :
  Calls Tryz.prog 15 #[.agg (rcV x)] w (Says w (formR (rcT x L))):=by
 rw [form_rec h]
 have H0:=hid ((Boxs.start w).more (rcV x) 36)
 have cN:=fun W=>wNamed_any x W
 have cS : ∀ W,Below w.heap.size w W→Calls Tryz.prog 17 #[.agg (rcV x),.agg (rcV (namedR x))] W (Says W (cleanR x L)):=fun W hW=>wSame_any x (namedR x) L (namedRL x L) W (h.later hW) (h.named.later hW) hf hf.named
 have cB:=fun W=>bFormed_any ((x.br : Nat) : Int) x.bn W
 have cF : ∀ W,Below w.heap.size w W→Calls Tryz.prog 50 #[.agg (cmV x.cm)] W (Says W (formCm (cmT x.cm L.rs L.ws))):=fun W hW=>kFormed_any x.cm L.rs L.ws W (h.cm.later hW) hf.n hf.m (hU.below hW)
 have ldX:=hid (H0.out.get 0 _ _ _ rfl).ldK
 have x0:=(H0.out.get 0 _ _ _ rfl).cell 0 _ rfl
 clear h hf hU
 unfold chainR
 generalize cleanR x L = CB at *
 generalize namedR x = y at *
 generalize formCm (cmT x.cm L.rs L.ws) = FB at *
 cases q0 : (x.k == 0)
 rotate_left
 ·obtain ⟨k,br,bn,sl,cm,da,dn,dc⟩:=x
  obtain rfl : k = 0:=by simpa using q0
  clear cN cS cB cF q0
  go_enter Tryz.func15,Tryz.ntmps15
  go_upto_region 1 with (fail)
  have X0:=hid H0.out.drew
  have s0:=(X0.out.get 0 _ _ _ rfl).cell 0 (.int .i64 0) rfl
  clear x0 ldX
  go_region_with (fail)
  all_goals (go_wp2;go_ret;exact ⟨rfl,X0.out.bel⟩)
 have HB:=H0.out.get 0 _ _ _ rfl
 clear x0 ldX
 cases CB
 ·clear cB cF
  go_enter Tryz.func15,Tryz.ntmps15
  go_upto_region 1 with (fail)
  have X0:=hid H0.out.drew
  have s0:=(X0.out.get 0 _ _ _ rfl).sK
  clear HB
  go_region_held3 (fun W=>(W.cell? ⟨w.heap.size,0,none⟩ = some (.int .i64 x.k)∧(Go.Proofs.YtcfmifongbapkaaGreatDoor.ldK (.pointer (some ⟨w.heap.size,0,none⟩))).run Tryz.prog W = .ok (.agg (rcV x)) W)) (first | (with_reducible exact s0) | (with_reducible exact s1) | (with_reducible exact s2))
   (first | (go_at_call 48;((with_reducible refine (cN _).mono ?_);rintro e v1 ⟨rfl,hb1⟩;have X1:=hid (X0.out.below hb1);have s1:=(X1.out.get 0 _ _ _ rfl).sK)) | (go_at_call 17;((with_reducible refine (cS _ X1.out.bel).mono ?_);rintro e v2 ⟨rfl,hb2⟩;have X2:=hid (X1.out.below hb2);have s2:=(X2.out.get 0 _ _ _ rfl).sK)))
  clear s0 s1 s2 X0 X1 H0
  go_wp2
  go_ret
  exact ⟨by first | rfl | simp [*],X2.out.bel⟩
 cases hB : formB x.bn
 ·rw [hB] at cB
  clear cF
  go_enter Tryz.func15,Tryz.ntmps15
  go_upto_region 1 with (fail)
  have X0:=hid H0.out.drew
  have s0:=(X0.out.get 0 _ _ _ rfl).sK
  clear HB
  go_region_held3 (fun W=>(W.cell? ⟨w.heap.size,0,none⟩ = some (.int .i64 x.k)∧(Go.Proofs.YtcfmifongbapkaaGreatDoor.ldK (.pointer (some ⟨w.heap.size,0,none⟩))).run Tryz.prog W = .ok (.agg (rcV x)) W)) (first | (with_reducible exact s0) | (with_reducible exact s1) | (with_reducible exact s2))
   (first | (go_at_call 48;((with_reducible refine (cN _).mono ?_);rintro e v1 ⟨rfl,hb1⟩;have X1:=hid (X0.out.below hb1);have s1:=(X1.out.get 0 _ _ _ rfl).sK)) | (go_at_call 17;((with_reducible refine (cS _ X1.out.bel).mono ?_);rintro e v2 ⟨rfl,hb2⟩;have X2:=hid (X1.out.below hb2);have s2:=(X2.out.get 0 _ _ _ rfl).sK)))
  clear s0 s1 s2 X0 X1 H0
  have x0:=(X2.out.get 0 _ _ _ rfl).cell 0 _ rfl;have x1:=(X2.out.get 0 _ _ _ rfl).cell 1 _ rfl;have x2:=(X2.out.get 0 _ _ _ rfl).cell 2 _ rfl;have x3:=(X2.out.get 0 _ _ _ rfl).cell 3 _ rfl;have x4:=(X2.out.get 0 _ _ _ rfl).cell 4 _ rfl;have x5:=(X2.out.get 0 _ _ _ rfl).cell 5 _ rfl;have x6:=(X2.out.get 0 _ _ _ rfl).cell 6 _ rfl;have x7:=(X2.out.get 0 _ _ _ rfl).cell 7 _ rfl;have x8:=(X2.out.get 0 _ _ _ rfl).cell 8 _ rfl;have x9:=(X2.out.get 0 _ _ _ rfl).cell 9 _ rfl;have x10:=(X2.out.get 0 _ _ _ rfl).cell 10 _ rfl;have x11:=(X2.out.get 0 _ _ _ rfl).cell 11 _ rfl;have x12:=(X2.out.get 0 _ _ _ rfl).cell 12 _ rfl;have x13:=(X2.out.get 0 _ _ _ rfl).cell 13 _ rfl;have x14:=(X2.out.get 0 _ _ _ rfl).cell 14 _ rfl
  go_wp2_with (go_at_call 49;((with_reducible refine (cB _).mono ?_);rintro e w3 ⟨rfl,hb3⟩;have X3:=hid (X2.out.below hb3);(clear x0 x1 x2 x3 x4 x5 x6 x7 x8 x9 x10 x11 x12 x13 x14);have x0:=(X3.out.get 0 _ _ _ rfl).cell 0 _ rfl;have x1:=(X3.out.get 0 _ _ _ rfl).cell 1 _ rfl;have x2:=(X3.out.get 0 _ _ _ rfl).cell 2 _ rfl;have x3:=(X3.out.get 0 _ _ _ rfl).cell 3 _ rfl;have x4:=(X3.out.get 0 _ _ _ rfl).cell 4 _ rfl;have x5:=(X3.out.get 0 _ _ _ rfl).cell 5 _ rfl;have x6:=(X3.out.get 0 _ _ _ rfl).cell 6 _ rfl;have x7:=(X3.out.get 0 _ _ _ rfl).cell 7 _ rfl;have x8:=(X3.out.get 0 _ _ _ rfl).cell 8 _ rfl;have x9:=(X3.out.get 0 _ _ _ rfl).cell 9 _ rfl;have x10:=(X3.out.get 0 _ _ _ rfl).cell 10 _ rfl;have x11:=(X3.out.get 0 _ _ _ rfl).cell 11 _ rfl;have x12:=(X3.out.get 0 _ _ _ rfl).cell 12 _ rfl;have x13:=(X3.out.get 0 _ _ _ rfl).cell 13 _ rfl;have x14:=(X3.out.get 0 _ _ _ rfl).cell 14 _ rfl))
  go_ret
  exact ⟨by first | rfl | simp [*],X3.out.bel⟩
 rw [hB] at cB
 by_cases h1 : 0≤x.sl
 rotate_left
 ·have d1 : decide (0≤x.sl) = false:=decide_eq_false h1
  rw [d1]
  clear cF
  go_enter Tryz.func15,Tryz.ntmps15
  go_upto_region 1 with (fail)
  have X0:=hid H0.out.drew
  have s0:=(X0.out.get 0 _ _ _ rfl).sK
  clear HB
  go_region_held3 (fun W=>(W.cell? ⟨w.heap.size,0,none⟩ = some (.int .i64 x.k)∧(Go.Proofs.YtcfmifongbapkaaGreatDoor.ldK (.pointer (some ⟨w.heap.size,0,none⟩))).run Tryz.prog W = .ok (.agg (rcV x)) W)) (first | (with_reducible exact s0) | (with_reducible exact s1) | (with_reducible exact s2))
   (first | (go_at_call 48;((with_reducible refine (cN _).mono ?_);rintro e v1 ⟨rfl,hb1⟩;have X1:=hid (X0.out.below hb1);have s1:=(X1.out.get 0 _ _ _ rfl).sK)) | (go_at_call 17;((with_reducible refine (cS _ X1.out.bel).mono ?_);rintro e v2 ⟨rfl,hb2⟩;have X2:=hid (X1.out.below hb2);have s2:=(X2.out.get 0 _ _ _ rfl).sK)))
  clear s0 s1 s2 X0 X1 H0
  have x0:=(X2.out.get 0 _ _ _ rfl).cell 0 _ rfl;have x1:=(X2.out.get 0 _ _ _ rfl).cell 1 _ rfl;have x2:=(X2.out.get 0 _ _ _ rfl).cell 2 _ rfl;have x3:=(X2.out.get 0 _ _ _ rfl).cell 3 _ rfl;have x4:=(X2.out.get 0 _ _ _ rfl).cell 4 _ rfl;have x5:=(X2.out.get 0 _ _ _ rfl).cell 5 _ rfl;have x6:=(X2.out.get 0 _ _ _ rfl).cell 6 _ rfl;have x7:=(X2.out.get 0 _ _ _ rfl).cell 7 _ rfl;have x8:=(X2.out.get 0 _ _ _ rfl).cell 8 _ rfl;have x9:=(X2.out.get 0 _ _ _ rfl).cell 9 _ rfl;have x10:=(X2.out.get 0 _ _ _ rfl).cell 10 _ rfl;have x11:=(X2.out.get 0 _ _ _ rfl).cell 11 _ rfl;have x12:=(X2.out.get 0 _ _ _ rfl).cell 12 _ rfl;have x13:=(X2.out.get 0 _ _ _ rfl).cell 13 _ rfl;have x14:=(X2.out.get 0 _ _ _ rfl).cell 14 _ rfl
  go_wp2_with (go_at_call 49;((with_reducible refine (cB _).mono ?_);rintro e w3 ⟨rfl,hb3⟩;have X3:=hid (X2.out.below hb3);(clear x0 x1 x2 x3 x4 x5 x6 x7 x8 x9 x10 x11 x12 x13 x14);have x0:=(X3.out.get 0 _ _ _ rfl).cell 0 _ rfl;have x1:=(X3.out.get 0 _ _ _ rfl).cell 1 _ rfl;have x2:=(X3.out.get 0 _ _ _ rfl).cell 2 _ rfl;have x3:=(X3.out.get 0 _ _ _ rfl).cell 3 _ rfl;have x4:=(X3.out.get 0 _ _ _ rfl).cell 4 _ rfl;have x5:=(X3.out.get 0 _ _ _ rfl).cell 5 _ rfl;have x6:=(X3.out.get 0 _ _ _ rfl).cell 6 _ rfl;have x7:=(X3.out.get 0 _ _ _ rfl).cell 7 _ rfl;have x8:=(X3.out.get 0 _ _ _ rfl).cell 8 _ rfl;have x9:=(X3.out.get 0 _ _ _ rfl).cell 9 _ rfl;have x10:=(X3.out.get 0 _ _ _ rfl).cell 10 _ rfl;have x11:=(X3.out.get 0 _ _ _ rfl).cell 11 _ rfl;have x12:=(X3.out.get 0 _ _ _ rfl).cell 12 _ rfl;have x13:=(X3.out.get 0 _ _ _ rfl).cell 13 _ rfl;have x14:=(X3.out.get 0 _ _ _ rfl).cell 14 _ rfl))
  go_ret
  exact ⟨by first | rfl | simp [*],X3.out.bel⟩
 have d1 : decide (0≤x.sl) = true:=decide_eq_true h1
 rw [d1]
 by_cases h2 : x.sl≤1000000
 rotate_left
 ·have d2 : decide (x.sl≤1000000) = false:=decide_eq_false h2
  rw [d2]
  clear cF
  go_enter Tryz.func15,Tryz.ntmps15
  go_upto_region 1 with (fail)
  have X0:=hid H0.out.drew
  have s0:=(X0.out.get 0 _ _ _ rfl).sK
  clear HB
  go_region_held3 (fun W=>(W.cell? ⟨w.heap.size,0,none⟩ = some (.int .i64 x.k)∧(Go.Proofs.YtcfmifongbapkaaGreatDoor.ldK (.pointer (some ⟨w.heap.size,0,none⟩))).run Tryz.prog W = .ok (.agg (rcV x)) W)) (first | (with_reducible exact s0) | (with_reducible exact s1) | (with_reducible exact s2))
   (first | (go_at_call 48;((with_reducible refine (cN _).mono ?_);rintro e v1 ⟨rfl,hb1⟩;have X1:=hid (X0.out.below hb1);have s1:=(X1.out.get 0 _ _ _ rfl).sK)) | (go_at_call 17;((with_reducible refine (cS _ X1.out.bel).mono ?_);rintro e v2 ⟨rfl,hb2⟩;have X2:=hid (X1.out.below hb2);have s2:=(X2.out.get 0 _ _ _ rfl).sK)))
  clear s0 s1 s2 X0 X1 H0
  have x0:=(X2.out.get 0 _ _ _ rfl).cell 0 _ rfl;have x1:=(X2.out.get 0 _ _ _ rfl).cell 1 _ rfl;have x2:=(X2.out.get 0 _ _ _ rfl).cell 2 _ rfl;have x3:=(X2.out.get 0 _ _ _ rfl).cell 3 _ rfl;have x4:=(X2.out.get 0 _ _ _ rfl).cell 4 _ rfl;have x5:=(X2.out.get 0 _ _ _ rfl).cell 5 _ rfl;have x6:=(X2.out.get 0 _ _ _ rfl).cell 6 _ rfl;have x7:=(X2.out.get 0 _ _ _ rfl).cell 7 _ rfl;have x8:=(X2.out.get 0 _ _ _ rfl).cell 8 _ rfl;have x9:=(X2.out.get 0 _ _ _ rfl).cell 9 _ rfl;have x10:=(X2.out.get 0 _ _ _ rfl).cell 10 _ rfl;have x11:=(X2.out.get 0 _ _ _ rfl).cell 11 _ rfl;have x12:=(X2.out.get 0 _ _ _ rfl).cell 12 _ rfl;have x13:=(X2.out.get 0 _ _ _ rfl).cell 13 _ rfl;have x14:=(X2.out.get 0 _ _ _ rfl).cell 14 _ rfl
  go_wp2_with (go_at_call 49;((with_reducible refine (cB _).mono ?_);rintro e w3 ⟨rfl,hb3⟩;have X3:=hid (X2.out.below hb3);(clear x0 x1 x2 x3 x4 x5 x6 x7 x8 x9 x10 x11 x12 x13 x14);have x0:=(X3.out.get 0 _ _ _ rfl).cell 0 _ rfl;have x1:=(X3.out.get 0 _ _ _ rfl).cell 1 _ rfl;have x2:=(X3.out.get 0 _ _ _ rfl).cell 2 _ rfl;have x3:=(X3.out.get 0 _ _ _ rfl).cell 3 _ rfl;have x4:=(X3.out.get 0 _ _ _ rfl).cell 4 _ rfl;have x5:=(X3.out.get 0 _ _ _ rfl).cell 5 _ rfl;have x6:=(X3.out.get 0 _ _ _ rfl).cell 6 _ rfl;have x7:=(X3.out.get 0 _ _ _ rfl).cell 7 _ rfl;have x8:=(X3.out.get 0 _ _ _ rfl).cell 8 _ rfl;have x9:=(X3.out.get 0 _ _ _ rfl).cell 9 _ rfl;have x10:=(X3.out.get 0 _ _ _ rfl).cell 10 _ rfl;have x11:=(X3.out.get 0 _ _ _ rfl).cell 11 _ rfl;have x12:=(X3.out.get 0 _ _ _ rfl).cell 12 _ rfl;have x13:=(X3.out.get 0 _ _ _ rfl).cell 13 _ rfl;have x14:=(X3.out.get 0 _ _ _ rfl).cell 14 _ rfl))
  go_ret
  exact ⟨by first | rfl | simp [*],X3.out.bel⟩
 have d2 : decide (x.sl≤1000000) = true:=decide_eq_true h2
 rw [d2]
 cases FB
 ·
  go_enter Tryz.func15,Tryz.ntmps15
  go_upto_region 1 with (fail)
  have X0:=hid H0.out.drew
  have s0:=(X0.out.get 0 _ _ _ rfl).sK
  clear HB
  go_region_held3 (fun W=>(W.cell? ⟨w.heap.size,0,none⟩ = some (.int .i64 x.k)∧(Go.Proofs.YtcfmifongbapkaaGreatDoor.ldK (.pointer (some ⟨w.heap.size,0,none⟩))).run Tryz.prog W = .ok (.agg (rcV x)) W)) (first | (with_reducible exact s0) | (with_reducible exact s1) | (with_reducible exact s2))
   (first | (go_at_call 48;((with_reducible refine (cN _).mono ?_);rintro e v1 ⟨rfl,hb1⟩;have X1:=hid (X0.out.below hb1);have s1:=(X1.out.get 0 _ _ _ rfl).sK)) | (go_at_call 17;((with_reducible refine (cS _ X1.out.bel).mono ?_);rintro e v2 ⟨rfl,hb2⟩;have X2:=hid (X1.out.below hb2);have s2:=(X2.out.get 0 _ _ _ rfl).sK)))
  clear s0 s1 s2 X0 X1 H0
  have x0:=(X2.out.get 0 _ _ _ rfl).cell 0 _ rfl;have x1:=(X2.out.get 0 _ _ _ rfl).cell 1 _ rfl;have x2:=(X2.out.get 0 _ _ _ rfl).cell 2 _ rfl;have x3:=(X2.out.get 0 _ _ _ rfl).cell 3 _ rfl;have x4:=(X2.out.get 0 _ _ _ rfl).cell 4 _ rfl;have x5:=(X2.out.get 0 _ _ _ rfl).cell 5 _ rfl;have x6:=(X2.out.get 0 _ _ _ rfl).cell 6 _ rfl;have x7:=(X2.out.get 0 _ _ _ rfl).cell 7 _ rfl;have x8:=(X2.out.get 0 _ _ _ rfl).cell 8 _ rfl;have x9:=(X2.out.get 0 _ _ _ rfl).cell 9 _ rfl;have x10:=(X2.out.get 0 _ _ _ rfl).cell 10 _ rfl;have x11:=(X2.out.get 0 _ _ _ rfl).cell 11 _ rfl;have x12:=(X2.out.get 0 _ _ _ rfl).cell 12 _ rfl;have x13:=(X2.out.get 0 _ _ _ rfl).cell 13 _ rfl;have x14:=(X2.out.get 0 _ _ _ rfl).cell 14 _ rfl
  go_wp2_with (first | (go_at_call 49;((with_reducible refine (cB _).mono ?_);rintro e w3 ⟨rfl,hb3⟩;have X3:=hid (X2.out.below hb3);(clear x0 x1 x2 x3 x4 x5 x6 x7 x8 x9 x10 x11 x12 x13 x14);have x0:=(X3.out.get 0 _ _ _ rfl).cell 0 _ rfl;have x1:=(X3.out.get 0 _ _ _ rfl).cell 1 _ rfl;have x2:=(X3.out.get 0 _ _ _ rfl).cell 2 _ rfl;have x3:=(X3.out.get 0 _ _ _ rfl).cell 3 _ rfl;have x4:=(X3.out.get 0 _ _ _ rfl).cell 4 _ rfl;have x5:=(X3.out.get 0 _ _ _ rfl).cell 5 _ rfl;have x6:=(X3.out.get 0 _ _ _ rfl).cell 6 _ rfl;have x7:=(X3.out.get 0 _ _ _ rfl).cell 7 _ rfl;have x8:=(X3.out.get 0 _ _ _ rfl).cell 8 _ rfl;have x9:=(X3.out.get 0 _ _ _ rfl).cell 9 _ rfl;have x10:=(X3.out.get 0 _ _ _ rfl).cell 10 _ rfl;have x11:=(X3.out.get 0 _ _ _ rfl).cell 11 _ rfl;have x12:=(X3.out.get 0 _ _ _ rfl).cell 12 _ rfl;have x13:=(X3.out.get 0 _ _ _ rfl).cell 13 _ rfl;have x14:=(X3.out.get 0 _ _ _ rfl).cell 14 _ rfl)) | (go_at_call 50;((with_reducible refine (cF _ X3.out.bel).mono ?_);rintro e w4 ⟨rfl,hb4⟩;have X4:=hid (X3.out.below hb4);(clear x0 x1 x2 x3 x4 x5 x6 x7 x8 x9 x10 x11 x12 x13 x14);have x0:=(X4.out.get 0 _ _ _ rfl).cell 0 _ rfl;have x1:=(X4.out.get 0 _ _ _ rfl).cell 1 _ rfl;have x2:=(X4.out.get 0 _ _ _ rfl).cell 2 _ rfl;have x3:=(X4.out.get 0 _ _ _ rfl).cell 3 _ rfl;have x4:=(X4.out.get 0 _ _ _ rfl).cell 4 _ rfl;have x5:=(X4.out.get 0 _ _ _ rfl).cell 5 _ rfl;have x6:=(X4.out.get 0 _ _ _ rfl).cell 6 _ rfl;have x7:=(X4.out.get 0 _ _ _ rfl).cell 7 _ rfl;have x8:=(X4.out.get 0 _ _ _ rfl).cell 8 _ rfl;have x9:=(X4.out.get 0 _ _ _ rfl).cell 9 _ rfl;have x10:=(X4.out.get 0 _ _ _ rfl).cell 10 _ rfl;have x11:=(X4.out.get 0 _ _ _ rfl).cell 11 _ rfl;have x12:=(X4.out.get 0 _ _ _ rfl).cell 12 _ rfl;have x13:=(X4.out.get 0 _ _ _ rfl).cell 13 _ rfl;have x14:=(X4.out.get 0 _ _ _ rfl).cell 14 _ rfl)))
  go_ret
  exact ⟨by first | rfl | simp [*],X4.out.bel⟩
 by_cases h3 : x.dn≤59900
 ·have d3 : decide (x.dn≤59900) = true:=decide_eq_true h3
  have i3 : ((x.dn : Nat) : Int)≤59900:=by omega
  rw [d3]
  go_enter Tryz.func15,Tryz.ntmps15
  go_upto_region 1 with (fail)
  have X0:=hid H0.out.drew
  have s0:=(X0.out.get 0 _ _ _ rfl).sK
  clear HB
  go_region_held3 (fun W=>(W.cell? ⟨w.heap.size,0,none⟩ = some (.int .i64 x.k)∧(Go.Proofs.YtcfmifongbapkaaGreatDoor.ldK (.pointer (some ⟨w.heap.size,0,none⟩))).run Tryz.prog W = .ok (.agg (rcV x)) W)) (first | (with_reducible exact s0) | (with_reducible exact s1) | (with_reducible exact s2))
   (first | (go_at_call 48;((with_reducible refine (cN _).mono ?_);rintro e v1 ⟨rfl,hb1⟩;have X1:=hid (X0.out.below hb1);have s1:=(X1.out.get 0 _ _ _ rfl).sK)) | (go_at_call 17;((with_reducible refine (cS _ X1.out.bel).mono ?_);rintro e v2 ⟨rfl,hb2⟩;have X2:=hid (X1.out.below hb2);have s2:=(X2.out.get 0 _ _ _ rfl).sK)))
  clear s0 s1 s2 X0 X1 H0
  have x0:=(X2.out.get 0 _ _ _ rfl).cell 0 _ rfl;have x1:=(X2.out.get 0 _ _ _ rfl).cell 1 _ rfl;have x2:=(X2.out.get 0 _ _ _ rfl).cell 2 _ rfl;have x3:=(X2.out.get 0 _ _ _ rfl).cell 3 _ rfl;have x4:=(X2.out.get 0 _ _ _ rfl).cell 4 _ rfl;have x5:=(X2.out.get 0 _ _ _ rfl).cell 5 _ rfl;have x6:=(X2.out.get 0 _ _ _ rfl).cell 6 _ rfl;have x7:=(X2.out.get 0 _ _ _ rfl).cell 7 _ rfl;have x8:=(X2.out.get 0 _ _ _ rfl).cell 8 _ rfl;have x9:=(X2.out.get 0 _ _ _ rfl).cell 9 _ rfl;have x10:=(X2.out.get 0 _ _ _ rfl).cell 10 _ rfl;have x11:=(X2.out.get 0 _ _ _ rfl).cell 11 _ rfl;have x12:=(X2.out.get 0 _ _ _ rfl).cell 12 _ rfl;have x13:=(X2.out.get 0 _ _ _ rfl).cell 13 _ rfl;have x14:=(X2.out.get 0 _ _ _ rfl).cell 14 _ rfl
  go_wp2_with (first | (go_at_call 49;((with_reducible refine (cB _).mono ?_);rintro e w3 ⟨rfl,hb3⟩;have X3:=hid (X2.out.below hb3);(clear x0 x1 x2 x3 x4 x5 x6 x7 x8 x9 x10 x11 x12 x13 x14);have x0:=(X3.out.get 0 _ _ _ rfl).cell 0 _ rfl;have x1:=(X3.out.get 0 _ _ _ rfl).cell 1 _ rfl;have x2:=(X3.out.get 0 _ _ _ rfl).cell 2 _ rfl;have x3:=(X3.out.get 0 _ _ _ rfl).cell 3 _ rfl;have x4:=(X3.out.get 0 _ _ _ rfl).cell 4 _ rfl;have x5:=(X3.out.get 0 _ _ _ rfl).cell 5 _ rfl;have x6:=(X3.out.get 0 _ _ _ rfl).cell 6 _ rfl;have x7:=(X3.out.get 0 _ _ _ rfl).cell 7 _ rfl;have x8:=(X3.out.get 0 _ _ _ rfl).cell 8 _ rfl;have x9:=(X3.out.get 0 _ _ _ rfl).cell 9 _ rfl;have x10:=(X3.out.get 0 _ _ _ rfl).cell 10 _ rfl;have x11:=(X3.out.get 0 _ _ _ rfl).cell 11 _ rfl;have x12:=(X3.out.get 0 _ _ _ rfl).cell 12 _ rfl;have x13:=(X3.out.get 0 _ _ _ rfl).cell 13 _ rfl;have x14:=(X3.out.get 0 _ _ _ rfl).cell 14 _ rfl)) | (go_at_call 50;((with_reducible refine (cF _ X3.out.bel).mono ?_);rintro e w4 ⟨rfl,hb4⟩;have X4:=hid (X3.out.below hb4);(clear x0 x1 x2 x3 x4 x5 x6 x7 x8 x9 x10 x11 x12 x13 x14);have x0:=(X4.out.get 0 _ _ _ rfl).cell 0 _ rfl;have x1:=(X4.out.get 0 _ _ _ rfl).cell 1 _ rfl;have x2:=(X4.out.get 0 _ _ _ rfl).cell 2 _ rfl;have x3:=(X4.out.get 0 _ _ _ rfl).cell 3 _ rfl;have x4:=(X4.out.get 0 _ _ _ rfl).cell 4 _ rfl;have x5:=(X4.out.get 0 _ _ _ rfl).cell 5 _ rfl;have x6:=(X4.out.get 0 _ _ _ rfl).cell 6 _ rfl;have x7:=(X4.out.get 0 _ _ _ rfl).cell 7 _ rfl;have x8:=(X4.out.get 0 _ _ _ rfl).cell 8 _ rfl;have x9:=(X4.out.get 0 _ _ _ rfl).cell 9 _ rfl;have x10:=(X4.out.get 0 _ _ _ rfl).cell 10 _ rfl;have x11:=(X4.out.get 0 _ _ _ rfl).cell 11 _ rfl;have x12:=(X4.out.get 0 _ _ _ rfl).cell 12 _ rfl;have x13:=(X4.out.get 0 _ _ _ rfl).cell 13 _ rfl;have x14:=(X4.out.get 0 _ _ _ rfl).cell 14 _ rfl)))
  go_ret
  exact ⟨by first | rfl | simp [*],X4.out.bel⟩
 ·have d3 : decide (x.dn≤59900) = false:=decide_eq_false h3
  have i3 : ¬ ((x.dn : Nat) : Int)≤59900:=by omega
  rw [d3]
  go_enter Tryz.func15,Tryz.ntmps15
  go_upto_region 1 with (fail)
  have X0:=hid H0.out.drew
  have s0:=(X0.out.get 0 _ _ _ rfl).sK
  clear HB
  go_region_held3 (fun W=>(W.cell? ⟨w.heap.size,0,none⟩ = some (.int .i64 x.k)∧(Go.Proofs.YtcfmifongbapkaaGreatDoor.ldK (.pointer (some ⟨w.heap.size,0,none⟩))).run Tryz.prog W = .ok (.agg (rcV x)) W)) (first | (with_reducible exact s0) | (with_reducible exact s1) | (with_reducible exact s2))
   (first | (go_at_call 48;((with_reducible refine (cN _).mono ?_);rintro e v1 ⟨rfl,hb1⟩;have X1:=hid (X0.out.below hb1);have s1:=(X1.out.get 0 _ _ _ rfl).sK)) | (go_at_call 17;((with_reducible refine (cS _ X1.out.bel).mono ?_);rintro e v2 ⟨rfl,hb2⟩;have X2:=hid (X1.out.below hb2);have s2:=(X2.out.get 0 _ _ _ rfl).sK)))
  clear s0 s1 s2 X0 X1 H0
  have x0:=(X2.out.get 0 _ _ _ rfl).cell 0 _ rfl;have x1:=(X2.out.get 0 _ _ _ rfl).cell 1 _ rfl;have x2:=(X2.out.get 0 _ _ _ rfl).cell 2 _ rfl;have x3:=(X2.out.get 0 _ _ _ rfl).cell 3 _ rfl;have x4:=(X2.out.get 0 _ _ _ rfl).cell 4 _ rfl;have x5:=(X2.out.get 0 _ _ _ rfl).cell 5 _ rfl;have x6:=(X2.out.get 0 _ _ _ rfl).cell 6 _ rfl;have x7:=(X2.out.get 0 _ _ _ rfl).cell 7 _ rfl;have x8:=(X2.out.get 0 _ _ _ rfl).cell 8 _ rfl;have x9:=(X2.out.get 0 _ _ _ rfl).cell 9 _ rfl;have x10:=(X2.out.get 0 _ _ _ rfl).cell 10 _ rfl;have x11:=(X2.out.get 0 _ _ _ rfl).cell 11 _ rfl;have x12:=(X2.out.get 0 _ _ _ rfl).cell 12 _ rfl;have x13:=(X2.out.get 0 _ _ _ rfl).cell 13 _ rfl;have x14:=(X2.out.get 0 _ _ _ rfl).cell 14 _ rfl
  go_wp2_with (first | (go_at_call 49;((with_reducible refine (cB _).mono ?_);rintro e w3 ⟨rfl,hb3⟩;have X3:=hid (X2.out.below hb3);(clear x0 x1 x2 x3 x4 x5 x6 x7 x8 x9 x10 x11 x12 x13 x14);have x0:=(X3.out.get 0 _ _ _ rfl).cell 0 _ rfl;have x1:=(X3.out.get 0 _ _ _ rfl).cell 1 _ rfl;have x2:=(X3.out.get 0 _ _ _ rfl).cell 2 _ rfl;have x3:=(X3.out.get 0 _ _ _ rfl).cell 3 _ rfl;have x4:=(X3.out.get 0 _ _ _ rfl).cell 4 _ rfl;have x5:=(X3.out.get 0 _ _ _ rfl).cell 5 _ rfl;have x6:=(X3.out.get 0 _ _ _ rfl).cell 6 _ rfl;have x7:=(X3.out.get 0 _ _ _ rfl).cell 7 _ rfl;have x8:=(X3.out.get 0 _ _ _ rfl).cell 8 _ rfl;have x9:=(X3.out.get 0 _ _ _ rfl).cell 9 _ rfl;have x10:=(X3.out.get 0 _ _ _ rfl).cell 10 _ rfl;have x11:=(X3.out.get 0 _ _ _ rfl).cell 11 _ rfl;have x12:=(X3.out.get 0 _ _ _ rfl).cell 12 _ rfl;have x13:=(X3.out.get 0 _ _ _ rfl).cell 13 _ rfl;have x14:=(X3.out.get 0 _ _ _ rfl).cell 14 _ rfl)) | (go_at_call 50;((with_reducible refine (cF _ X3.out.bel).mono ?_);rintro e w4 ⟨rfl,hb4⟩;have X4:=hid (X3.out.below hb4);(clear x0 x1 x2 x3 x4 x5 x6 x7 x8 x9 x10 x11 x12 x13 x14);have x0:=(X4.out.get 0 _ _ _ rfl).cell 0 _ rfl;have x1:=(X4.out.get 0 _ _ _ rfl).cell 1 _ rfl;have x2:=(X4.out.get 0 _ _ _ rfl).cell 2 _ rfl;have x3:=(X4.out.get 0 _ _ _ rfl).cell 3 _ rfl;have x4:=(X4.out.get 0 _ _ _ rfl).cell 4 _ rfl;have x5:=(X4.out.get 0 _ _ _ rfl).cell 5 _ rfl;have x6:=(X4.out.get 0 _ _ _ rfl).cell 6 _ rfl;have x7:=(X4.out.get 0 _ _ _ rfl).cell 7 _ rfl;have x8:=(X4.out.get 0 _ _ _ rfl).cell 8 _ rfl;have x9:=(X4.out.get 0 _ _ _ rfl).cell 9 _ rfl;have x10:=(X4.out.get 0 _ _ _ rfl).cell 10 _ rfl;have x11:=(X4.out.get 0 _ _ _ rfl).cell 11 _ rfl;have x12:=(X4.out.get 0 _ _ _ rfl).cell 12 _ rfl;have x13:=(X4.out.get 0 _ _ _ rfl).cell 13 _ rfl;have x14:=(X4.out.get 0 _ _ _ rfl).cell 14 _ rfl)))
  go_ret
  exact ⟨by first | rfl | simp [*],X4.out.bel⟩
theorem NewB.on {w w1 w' : World} {l : List UInt8} {e : Ending} (h : NewB w1 l e w') (hb : Below w.heap.size w w1) : NewB w l e w':=by
 obtain ⟨a,n,c,rfl,ho,hb'⟩:=h
 exact ⟨a,n,c,rfl,own_base ho hb.size,hb.trans (hb'.mono hb.size)⟩
theorem NewB.cast {w w' : World} {l m : List UInt8} {e : Ending} (h : NewB w l e w') (hl : l = m) : NewB w m e w':=hl ▸ h
theorem PutIn.below {w wr w1 : World} {v : Value} {n : Nat} {l : List UInt8} (h : PutIn w wr v n l) (hb : Below wr.heap.size wr w1) : PutIn w w1 v n l:=⟨own_below h.1 hb,h.2.trans (hb.mono h.2.size)⟩
/-- What a call answered, while a row was made. -/
theorem PutIn.call {w wr w1 : World} {a : Option Addr} {n c : Nat} {l : List UInt8} (hb : Below w.heap.size w wr) (ho : w1.ownsRow wr.heap.size 5 1 (.slice a n c) n (bcells l)) (hb1 : Below wr.heap.size wr w1) : PutIn w w1 (.slice a n c) n l:=⟨own_base ho hb.size,hb.trans (hb1.mono hb.size)⟩
theorem PutIn.bat {w wr : World} {a : Option Addr} {n c : Nat} {l : List UInt8} (h : PutIn w wr (.slice a n c) n l) : BAt wr wr.heap.size a n l:=BAt.of_own h.1
theorem PutIn.bel {w wr : World} {v : Value} {n : Nat} {l : List UInt8} (h : PutIn w wr v n l) : Below w.heap.size w wr:=h.2
theorem PutIn.own {w wr : World} {v : Value} {n : Nat} {l : List UInt8} (h : PutIn w wr v n l) : wr.ownsRow w.heap.size 5 1 v n (bcells l):=h.1
theorem PutIn.form {w wr : World} {v : Value} {n : Nat} {l : List UInt8} (h : PutIn w wr v n l) : ∃ a c,v = .slice a n c:=by
 obtain ⟨a,c,h1,_⟩:=own_form h.1
 exact ⟨a,c,h1⟩
theorem byte_nat (n : Nat) (h : n < 256) : ((n : Nat) : Int) = ((UInt8.ofNat n).toNat : Int):=by
 have h8 : (UInt8.ofNat n).toNat = n % 256:=UInt8.toNat_ofNat'
 rw [h8];omega
theorem byte_mod (n : Nat) : ((n : Nat) : Int) % 256 = ((UInt8.ofNat n).toNat : Int):=by
 have h8 : (UInt8.ofNat n).toNat = n % 256:=UInt8.toNat_ofNat'
 rw [h8];omega
theorem put_one (n : Nat) : putB n 1 = [UInt8.ofNat n]:=by simp [putB]
theorem node_byte (n : Int) : n % 256 = ((UInt8.ofNat (n % 256).toNat).toNat : Int):=by
 have h8 : (UInt8.ofNat (n % 256).toNat).toNat = (n % 256).toNat % 256:=UInt8.toNat_ofNat'
 rw [h8];omega
theorem node_put (n : Int) : putB (n % 18446744073709551616).toNat 1 = [UInt8.ofNat (n % 256).toNat]:=by
 have e : UInt8.ofNat (n % 18446744073709551616).toNat = UInt8.ofNat (n % 256).toNat:=by
  apply UInt8.toNat_inj.1
  rw [UInt8.toNat_ofNat',UInt8.toNat_ofNat'];omega
 simp [putB,e]
theorem put4_any (a : Option Addr) (m c r : Nat) (l : List UInt8) (w : World) (hl : BAt w w.heap.size a m l) (hlen : m≤1099511627776) (hr : r < 4294967296) :
  Calls Tryz.prog 34 #[.slice a m c,.int .u64 (IntKind.u64.wrap (r : Int)),.int .i64 4] w (NewB w (l ++ putB r 4)):=by
 have e : IntKind.u64.wrap (r : Int) = r:=by rw [IntKind.wrap_u64];omega
 rw [e]
 exact put_any a m c r 4 l w hl hlen (by omega)
theorem put1_any (a : Option Addr) (m c : Nat) (n : Int) (l : List UInt8) (w : World) (hl : BAt w w.heap.size a m l) (hlen : m≤1099511627776) :
  Calls Tryz.prog 34 #[.slice a m c,.int .u64 (IntKind.u64.wrap n),.int .i64 1] w (NewB w (l ++ [UInt8.ofNat (n % 256).toNat])):=by
 have h:=put_any a m c (n % 18446744073709551616).toNat 1 l w hl hlen (by omega)
 have e : (((n % 18446744073709551616).toNat : Nat) : Int) = IntKind.u64.wrap n:=by rw [IntKind.wrap_u64];omega
 rw [e] at h
 exact h.mono fun _ _ h=>h.cast (by rw [show held 1 = 1 from rfl,node_put])
theorem bPut_any (a : Option Addr) (m c r : Nat) (n : Int) (l : List UInt8) (w : World) (hl : BAt w w.heap.size a m l) (hlen : m≤1099511627000) (hr : r < 4294967296) :
  Calls Tryz.prog 35 #[.slice a m c,.agg #[.int .u32 r,.int .i64 n]] w (NewB w (l ++ balB r n)):=by
 have H0:=hid ((Boxs.start w).more #[.int .u32 r,.int .i64 n] 24)
 have HD:=hid H0.out.drew
 have HL : Hid (BAt (w.alloc (.cells #[.int .u32 r,.int .i64 n] 24)).drew (w.alloc (.cells #[.int .u32 r,.int .i64 n] 24)).drew.heap.size a m l):=(hl.below HD.out.bel (Nat.le_refl _)).more HD.out.bel.size
 have HLL:=hid hl.len
 have e64 : (r : Int) % 18446744073709551616 = r:=by omega
 have HM1 : Hid (m≤1099511627776):=by unfold Hid;omega
 have HM2 : Hid (∀ q : Nat,(l ++ putB r 4).length = q→q≤1099511627776):=fun q hq=>by have:=HLL.out;simp [putB_len] at hq;omega
 have HR:=hid hr
 have s0:=(H0.out.get 0 _ _ _ rfl).two
 clear hl
 go_enter Tryz.func35,Tryz.ntmps35
 go_upto_region 1 with (fail)
 go_region_held3 (fun w'=>w'.cell? ⟨w.heap.size,0,none⟩ = some (.int .u32 r)∧w'.cell? ⟨w.heap.size,1,none⟩ = some (.int .i64 n)) (first | exact s0 | exact s1 | exact s2)
  (first | (go_at_call 34;((with_reducible refine (put4_any a m c r l _ HL.out HM1.out HR.out).mono ?_);rintro e w1 ⟨a1,n1,c1,rfl,ho1,hb1⟩;have X1:=hid (HD.out.below hb1);have s1:=(X1.out.get 0 _ _ _ rfl).two;have L1:=hid (BAt.of_own ho1);have L2:=hid (HM2.out _ (own_len ho1)))) | (go_at_call 34;((with_reducible refine (put1_any a1 n1 c1 n _ _ L1.out L2.out).mono ?_);intro e w2 h2;have N2:=hid (NewB.on h2 X1.out.bel);obtain ⟨a2,n2,c2,rfl,ho2,hb2⟩:=h2;have X2:=hid (X1.out.below hb2);have s2:=(X2.out.get 0 _ _ _ rfl).two)))
 go_wp2
 go_ret
 exact N2.out.cast (by rw [balB,List.append_assoc])
theorem rPut_any (a : Option Addr) (m c r : Nat) (n : Int) (l : List UInt8) (w : World) (hl : BAt w w.heap.size a m l) (hlen : m≤1099511627000) (hr : r < 4294967296) :
  Calls Tryz.prog 39 #[.slice a m c,.agg #[.int .u32 r,.int .i64 n]] w (NewB w (l ++ balB r n)):=by
 obtain ⟨i0,hi,hz0,hz1,hz2⟩:=info_parts Tryz.info5
 have H0:=hid ((Boxs.start w).more #[.int .u32 r,.int .i64 n] 44)
 have HL : Hid (BAt (w.alloc (.cells #[.int .u32 r,.int .i64 n] 44)) (w.alloc (.cells #[.int .u32 r,.int .i64 n] 44)).heap.size a m l):=(hl.below H0.out.bel (Nat.le_refl _)).more H0.out.bel.size
 have HLL:=hid hl.len
 have cP : ∀ W,BAt W W.heap.size a m l→Calls Tryz.prog 40 #[.slice a m c,.int .u64 r,.int .i64 4] W (NewB W (l ++ putB r 4)):=fun W h=>refPut_any a m c r 4 l W h (by omega) (by omega) (by omega) (by omega)
 have e64 : (r : Int) % 18446744073709551616 = r:=by omega
 clear hl
 go_enter Tryz.func39,Tryz.ntmps39
 go_upto_region 2 with (go_at_call 40;((with_reducible refine (cP _ HL.out).mono ?_);rintro e w1 ⟨a1,n1,c1,rfl,ho1,hb1⟩;have X1:=hid (H0.out.below hb1)))
 obtain ⟨s0,s1⟩:=(X1.out.get 0 _ _ _ rfl).two
 have hn1 : n1 = m + 4:=by have:=own_len ho1;simp [putB_len,HLL.out] at this;omega
 have ho1':=own_base ho1 H0.out.bel.size
 have PI : PutIn w w1 (.slice a1 n1 c1) n1 (l ++ putB r 4):=⟨ho1',X1.out.bel⟩
 have hsz:=X1.out.bel.size
 go_wp2_with (at_builtin;(refine wpList_append_bytes _ rfl _ _ 34 rfl w.heap.size 5 i0 Tryz.underlying34 hi hz0 hz1 hz2 _ n1 (l ++ putB r 4) rfl (ho1'.alloc _) (w1.heap.size + 1) (some ⟨w1.heap.size,0,none⟩) 1 [UInt8.ofNat (n % 256).toNat] 1 rfl (BAt.one _ _ _ _ (node_byte n)) (by omega) (by simp;omega) ?_;intro v2 w2 ho2 hg2;have R:=PI.next ho2 hg2;clear ho2 hg2))
 go_ret
 exact (R.cast (by rw [balB,List.append_assoc])).out
/-- A new row of one-cell elements is answered. -/
def NewX (e : TypeId) (w : World) (xs : List Value) (en : Ending) (w' : World) : Prop :=
 ∃ a c,en = .returned (.slice a xs.length c)∧w'.ownsRow w.heap.size e 1 (.slice a xs.length c) xs.length xs∧Below w.heap.size w w'
theorem own_grow {w : World} {e : TypeId} {z : Value} {n G : Nat} (hz : z.cells.size = 1) (hG : n≤G) (hM : G≤maxLen) :
  (w.drew.alloc (.cells (([] : List Value).toArray ++ Builtin.zeroCells z.cells n ++ Builtin.zeroCells z.cells (G - n)) e)).ownsRow w.heap.size e 1 (.slice (some ⟨w.heap.size,0,none⟩) 0 G) 0 []:=by
 refine ⟨rfl,.inr ⟨w.heap.size,G,_,rfl,Nat.le_refl _,heap_alloc_new w.drew _,Nat.zero_le _,hM,?_,by simp⟩⟩
 rw [Array.size_append,Array.size_append,size_zeroCells,size_zeroCells,hz]
 simp;omega
/-- What is there of two slices, when k of them have come. -/
def totN (n1 n2 k : Nat) : Nat:=if k = 0 then 0 else if k = 1 then n1 else n1 + n2
def totX (x1 x2 : List Value) (k : Nat) : List Value:=if k = 0 then [] else if k = 1 then x1 else x1 ++ x2
theorem growB_any (n : Nat) (w : World) (hn : n≤2199023255552) :
  Calls Tryz.prog 106 #[.slice none 0 0,.int .i64 ((n : Nat) : Int)] w fun en w' => ∃ v,en = .returned v∧w'.ownsRow w.heap.size 5 1 v 0 []∧Below w.heap.size w w':=by
 obtain ⟨i0,hi,hz0,hz1,hz2⟩:=info_parts Tryz.info5
 by_cases h0 : n = 0
 ·subst h0
  go_enter Tryz.func106,Tryz.ntmps106
  go_wp2
  go_ret
  exact ⟨_,rfl,World.ownsRow_nil _ _ _ _,Below.refl _ _⟩
 ·have hrz : ∀ ty,(Builtin.append_ #[34,3] ty #[.slice none 0 0,.int .i64 ((n : Nat) : Int)]).run Tryz.prog w = _:=fun ty =>
   Lib.run_append_grow_zeros w 34 3 ty 5 i0 (.int .u8 0) .i64 .i64 Tryz.underlying34 Tryz.underlying3 hi hz0 none 0 0 [] (run_firstCells_none w.drew i0.size 0 0 0) n (by omega) (by omega) (by omega) (by omega) (by rw [hz2];omega)
    (by rw [hz2];exact growslice_fits (by omega) (by omega))
  have hG:=grownCap_ge w (0 + n) 0 5
  have hG2:=grownCap_le_maxLen w (0 + n) 0 5 (by unfold maxLen;omega)
  simp only [Nat.zero_add] at hrz hG hG2
  have hO:=hid (own_grow (w:=w) (e:=5) (z:=.int .u8 0) rfl hG hG2)
  have hB : Hid (Below w.heap.size w (w.drew.alloc (.cells (([] : List Value).toArray ++ Builtin.zeroCells (.int .u8 0 : Value).cells n ++ Builtin.zeroCells (.int .u8 0 : Value).cells (grownCap w n 0 5 - n)) 5))):=(below_drewN 1 (Below.refl _ _)).alloc (Nat.le_refl _) _
  have hG3 : grownCap w n 0 5≤9223372036854775807:=by unfold maxLen at hG2;omega
  have q1 : decide ((0 : Int) < (n : Int)) = true:=by simp;omega
  clear hG2
  generalize grownCap w n 0 5 = G at *
  generalize w.drew.alloc (.cells (([] : List Value).toArray ++ Builtin.zeroCells (.int .u8 0 : Value).cells n ++ Builtin.zeroCells (.int .u8 0 : Value).cells (G - n)) 5) = W1 at *
  go_enter Tryz.func106,Tryz.ntmps106
  go_wp2_with (at_builtin;refine Lib.wpList_append_run _ rfl _ _ _ _ rfl _ _ rfl rfl _ _ (hrz _) ?_)
  go_ret
  exact ⟨_,rfl,hO.out,hB.out⟩
theorem concatB_any (B0 off c0 : Nat) (a1 : Option Addr) (n1 c1 : Nat) (x1 : List Value) (a2 : Option Addr) (n2 c2 : Nat) (x2 : List Value) (w : World)
  (hc1 : w.cell? ⟨B0,off,none⟩ = some (.slice a1 n1 c1)) (hc2 : w.cell? ⟨B0,off + 1,none⟩ = some (.slice a2 n2 c2)) (hB0 : B0 < w.heap.size)
  (h1 : RowAt w w.heap.size a1 n1 1 x1) (h2 : RowAt w w.heap.size a2 n2 1 x2) (ho1 : ∀ u ∈ x1,u.oneCell' = true) (ho2 : ∀ u ∈ x2,u.oneCell' = true) (hn1 : n1≤1099511627776) (hn2 : n2≤1099511627776) :
  Calls Tryz.prog 76 #[.slice (some ⟨B0,off,none⟩) 2 c0] w (NewX 5 w (x1 ++ x2)):=by
 obtain ⟨i0,hi,hz0,hz1,hz2⟩:=info_parts Tryz.info5
 have hl1 : x1.length = n1:=by have:=h1.1;omega
 have hl2 : x2.length = n2:=by have:=h2.1;omega
 have R1:=hid h1
 have R2:=hid h2
 have O1:=hid ho1
 have O2:=hid ho2
 clear h1 h2 ho1 ho2
 go_enter Tryz.func76,Tryz.ntmps76
 go_wp2
 go_loop [3,11] (fun z i => ∃ k : Nat,k≤2∧i = .int .i64 k∧z = .int .i64 (totN n1 n2 k : Nat)) (fun _ i=>2 - (intOf i).toNat)
 case atStart=>exact ⟨0,by omega,rfl,rfl⟩
 case round =>
  obtain ⟨k,hk,rfl,rfl⟩:=hrel
  rcases (show k = 0∨k = 1∨k = 2 by omega) with rfl | rfl | rfl
  ·rw [show totN n1 n2 0 = 0 from rfl]
   go_wp2
   go_round
   case rel=>exact ⟨1,by omega,by go_num,by rw [show totN n1 n2 1 = n1 from rfl]⟩
   case measure=>simp [intOf]
  ·rw [show totN n1 n2 1 = n1 from rfl]
   go_wp2
   go_round
   case rel=>exact ⟨2,by omega,by go_num,by rw [show totN n1 n2 2 = n1 + n2 from rfl];go_num⟩
   case measure=>simp [intOf]
  ·rw [show totN n1 n2 2 = n1 + n2 from rfl]
   have cG:=growB_any (n1 + n2) w (by omega)
   have cG2:=cG
   rw [show ((n1 + n2 : Nat) : Int) = (n1 : Int) + (n2 : Int) by omega] at cG2
   go_wp2_with (go_at_call 106;(first | (with_reducible refine cG.mono ?_) | (with_reducible refine cG2.mono ?_));rintro en w1 ⟨v1,rfl,hO,hb1⟩;have HO:=hid hO;have HB:=hid hb1;clear hO hb1)
   go_loopw [6,27] (fun v i wr => ∃ k : Nat,k≤2∧i = .int .i64 k∧wr.ownsRow w.heap.size 5 1 v (totN n1 n2 k) (totX x1 x2 k)∧Below w.heap.size w wr) (fun _ i _=>2 - (intOf i).toNat)
   case atStart=>exact ⟨0,by omega,rfl,HO.out,HB.out⟩
   case round =>
    obtain ⟨k,hk,rfl,hO,hb⟩:=hrel
    have HO2:=hid hO
    have HB2:=hid hb
    clear hO hb HO HB cG cG2
    have hsz:=HB2.out.size
    rcases (show k = 0∨k = 1∨k = 2 by omega) with rfl | rfl | rfl
    ·have y1:=(HB2.out.cell (p:=⟨B0,off,none⟩) hB0).trans hc1
     go_wp2_with (at_builtin;(refine wpList_append_rowk _ rfl _ _ 34 rfl w.heap.size 5 i0 _ 1 1 Tryz.underlying34 hi hz0 hz1 hz2 rfl (by omega) _ 0 [] rfl HO2.out w.heap.size a1 n1 c1 x1 rfl (R1.out.below HB2.out (Nat.le_refl _)) O1.out (by unfold maxLen;omega) (by omega) (by omega) ?_;intro v3 w3 ho3 hg3 hat3;have HB3:=hid (HB2.out.grown hg3 hsz (fun j hj=>(HO2.out.lt j hj).1));have HO3:=hid ho3;clear ho3 hg3 hat3))
     go_roundw
     case rel=>exact ⟨1,by omega,by go_num,by rw [show totN n1 n2 1 = n1 from rfl,show totX x1 x2 1 = x1 from rfl];simpa using HO3.out,HB3.out⟩
     case measure=>simp [intOf]
    ·have y1:=(HB2.out.cell (p:=⟨B0,off + 1,none⟩) hB0).trans hc2
     go_wp2_with (at_builtin;(refine wpList_append_rowk _ rfl _ _ 34 rfl w.heap.size 5 i0 _ 1 1 Tryz.underlying34 hi hz0 hz1 hz2 rfl (by omega) _ n1 x1 rfl HO2.out w.heap.size a2 n2 c2 x2 rfl (R2.out.below HB2.out (Nat.le_refl _)) O2.out (by unfold maxLen;omega) (by omega) (by omega) ?_;intro v3 w3 ho3 hg3 hat3;have HB3:=hid (HB2.out.grown hg3 hsz (fun j hj=>(HO2.out.lt j hj).1));have HO3:=hid ho3;clear ho3 hg3 hat3))
     go_roundw
     case rel=>exact ⟨2,by omega,by go_num,by rw [show totN n1 n2 2 = n1 + n2 from rfl,show totX x1 x2 2 = x1 ++ x2 from rfl];exact HO3.out,HB3.out⟩
     case measure=>simp [intOf]
    ·have hO4:=HO2.out
     rw [show totN n1 n2 2 = n1 + n2 from rfl,show totX x1 x2 2 = x1 ++ x2 from rfl] at hO4
     have el : n1 + n2 = (x1 ++ x2).length:=by rw [List.length_append];omega
     rw [el] at hO4
     obtain ⟨a4,c4,rfl,_,_⟩:=ownk_form hO4
     have HO4:=hid hO4
     clear hO4 HO2
     go_wp2
     go_ret
     exact ⟨a4,c4,rfl,HO4.out,HB2.out⟩
theorem bclone_any (a : Option Addr) (m c : Nat) (l : List UInt8) (w : World) (hl : BAt w w.heap.size a m l) (hlen : m≤1099511627776) :
  Calls Tryz.prog 65 #[.slice a m c] w (NewB w l):=by
 obtain ⟨i0,hi,hz0,hz1,hz2⟩:=info_parts Tryz.info5
 rcases a with _ | ad
 ·have hm : m = 0:=by
   rcases hl with ⟨_,h | ⟨b,off,h,_⟩⟩
   ·exact h
   ·cases h
  obtain rfl : l = []:=List.eq_nil_of_length_eq_zero (by rw [hl.len,hm])
  have heq : ∀ W : World,(binOp .eql 34 (.slice none m c) (.slice none 0 0)).run Tryz.prog W = .ok (.bool true) W:=fun W=>Lib.run_eql_slice_nil W 34 5 _ _ _ _ _ Tryz.underlying34
  clear hm
  go_enter Tryz.func65,Tryz.ntmps65
  go_wp2
  go_ret
  exact ⟨none,0,0,rfl,World.ownsRow_nil _ _ _ _,Below.refl _ _⟩
 ·have heq : ∀ W : World,(binOp .eql 34 (.slice (some ad) m c) (.slice none 0 0)).run Tryz.prog W = .ok (.bool false) W:=fun W=>Lib.run_eql_slice_nil W 34 5 _ _ _ _ _ Tryz.underlying34
  go_enter Tryz.func65,Tryz.ntmps65
  go_wp2_with (at_builtin;(refine wpList_append_bytes _ rfl _ _ 34 rfl w.heap.size 5 i0 Tryz.underlying34 hi hz0 hz1 hz2 _ 0 [] rfl (own_empty w) w.heap.size (some ad) m l c rfl (hl.alloc (Nat.le_refl _) _) (by omega) (by simp) ?_;intro v' w1 hown hg;have R : PutIn w w1 v' (0 + m) ([] ++ l):=⟨hown,((Below.refl _ _).alloc (Nat.le_refl _) _).grown hg (by simp) (own_block (own_empty w))⟩;clear hown hg))
  go_ret
  exact R.out
theorem step_append_row1 {P : Program} (w : World) {ops : Array Oper} {o : Oper} {a' : Act} {K : Act→World→Prop} {Q : Exit→Act→World→Prop} {E : Prop} (hgd : o.guard = none) (s x : Operand) (t : TypeId)
  (ho : o.op = .call { callee:=.builtin .append,args:=#[s,x],argTypes:=#[t,t] })
  (base : Nat) (e : TypeId) (i : TypeInfo) (z : Value) (bytes : Nat) (ht : P.underlying t = some (.slice e)) (hi : P.info? e = some i) (hz : i.zero = some z)
  (hsize : i.size = 1) (hby : i.bytes = bytes) (hzs : z.cells.size = 1) (v : Value) (n : Nat) (xs : List Value) (hs : a'.eval s = v) (hown : w.ownsRow base e 1 v n xs)
  (a : Option Addr) (m c : Nat) (news : List Value) (hx : a'.eval x = .slice a m c) (hr : CellsAt w a m news) (h1 : ∀ u ∈ news,u.oneCell' = true)
  (h63 : n + m≤maxLen) (hlen : (n + m) * bytes≤140737488355328) (hbase : base≤w.heap.size)
  (h : ∀ v' w',w'.ownsRow base e 1 v' (n + m) (xs ++ news)→w.grownBy w' v.ownBlock→(v'.ownBlock = v.ownBlock∨v'.ownBlock = some w.heap.size)→K (a'.put o.dst v') w') :
  if Region.wanted o (yielded ops a'.tmps) = true then Oper.wp P o a' w K Q else E:=by
 have hw : Region.wanted o (yielded ops a'.tmps) = true:=by simp [Region.wanted,hgd]
 rw [if_pos hw]
 obtain ⟨v',w',hrun,h2,h3,h4⟩:=run_append_row (P:=P) w base t o.type e i z bytes ht hi hz hsize hby hzs v n xs hown a m c news hr h1 h63 hlen hbase
 unfold Oper.wp execOp
 simp only [ho,resolve,invoke,builtin,Sem.run_bind,Sem.run_pure,Result.andThen_ok,List.map_toArray,List.map_cons,List.map_nil,hs,hx,hrun]
 exact h v' w' h2 h3 h4
/-- The program's Take of values: what it is to do. -/
def TakesV (f : FuncId) : Prop :=
 (∀ (g : Nat) (l : List UInt8) (W : World),RdAt W g l true→tkOk l→Tabs W→Calls Tryz.prog f #[.pointer (some ⟨g,0,none⟩)] W fun e w'=>e = .returned (.agg #[.int .i64 (tkV l).k,.int .u64 ((tkV l).b : Nat),.string ⟨(tkV l).t.toArray⟩])∧RdAt w' g (l.drop (tkN l)) true∧Only g W w') ∧
 (∀ (g : Nat) (l : List UInt8) (ok : Bool) (W : World),RdAt W g l ok→¬ (ok = true∧tkOk l)→Tabs W→Calls Tryz.prog f #[.pointer (some ⟨g,0,none⟩)] W fun e w'=>e = .returned (.agg #[.int .i64 0,.int .u64 0,.string ⟨#[]⟩])∧RdAt w' g [] false∧Only g W w')
/-- The program's Put of values: what it is to do. -/
def PutsV (f : FuncId) : Prop := ∀ (a : Option Addr) (m c : Nat) (l : List UInt8) (k : Int) (b : Nat) (t : ByteArray) (W : World),BAt W W.heap.size a m l→m≤1099511600000→b < 18446744073709551616→t.size≤maxLen→Tabs W →
 Calls Tryz.prog f #[.slice a m c,.agg #[.int .i64 k,.int .u64 b,.string t]] W (NewB W (putV l ⟨k,b,t.data.toList⟩))
end Go.Proofs.YtcfmifongbapkaaGreatDoor
