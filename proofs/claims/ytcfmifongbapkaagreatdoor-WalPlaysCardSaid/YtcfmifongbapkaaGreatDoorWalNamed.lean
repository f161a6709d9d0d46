/- Contract of wal.named. No condition. -/
import Derived.Test.YtcfmifongbapkaaGreatDoorRK
import Derived.Laws.ResultCell
namespace Go.Proofs.YtcfmifongbapkaaGreatDoor
open Go.RowKit
set_option linter.unusedVariables false
set_option linter.unusedSimpArgs false
set_option maxRecDepth 100000 in
set_option maxHeartbeats 4000000 in
theorem wNamed_any (x : RcM) (w : World) : Calls Tryz.prog 48 #[.agg (rcV x)] w fun e w'=>e = .returned (.agg (rcV (namedR x)))∧Below w.heap.size w w':=by
 have H0:=Lib.hid (((Boxs.start w).more (rcV x) 36).more (rcV zeroR) 36)
 have hs : (w.alloc (.cells (rcV x) 36)).heap.size = w.heap.size + 1:=by simp
 rw [hs] at H0
 clear hs
 have hl : ∀ b ∈ [(w.heap.size,rcV x,36)],b.1≠w.heap.size + 1:=by simp
 unfold namedR
 by_cases h1 : x.k = 1
 ·rw [if_pos h1]
  have q1 : (x.k == 1) = true:=by simp;omega
  clear h1
  go_enter Tryz.func48,Tryz.ntmps48
  go_upto_region 1 with (fail)
  generalize (w.alloc (.cells (rcV x) 36)).alloc (.cells (rcV zeroR) 36) = W0 at *
  have x0:=(H0.out.get 1 _ _ _ rfl).cell 0 _ rfl;have x1:=(H0.out.get 1 _ _ _ rfl).cell 1 _ rfl;have x2:=(H0.out.get 1 _ _ _ rfl).cell 2 _ rfl;have x3:=(H0.out.get 1 _ _ _ rfl).cell 3 _ rfl;have x4:=(H0.out.get 1 _ _ _ rfl).cell 4 _ rfl;have x5:=(H0.out.get 1 _ _ _ rfl).cell 5 _ rfl;have x6:=(H0.out.get 1 _ _ _ rfl).cell 6 _ rfl;have x7:=(H0.out.get 1 _ _ _ rfl).cell 7 _ rfl;have x8:=(H0.out.get 1 _ _ _ rfl).cell 8 _ rfl;have x9:=(H0.out.get 1 _ _ _ rfl).cell 9 _ rfl;have x10:=(H0.out.get 1 _ _ _ rfl).cell 10 _ rfl;have x11:=(H0.out.get 1 _ _ _ rfl).cell 11 _ rfl;have x12:=(H0.out.get 1 _ _ _ rfl).cell 12 _ rfl;have x13:=(H0.out.get 1 _ _ _ rfl).cell 13 _ rfl;have x14:=(H0.out.get 1 _ _ _ rfl).cell 14 _ rfl
  have HZ:=H0.out.get 0 _ _ _ rfl
  go_wp2_with (refine wpList_store_k rfl _ _ rfl (w.heap.size + 1) ⟨1,x.br,x.bn,0,zeroM,none,0,0⟩ rfl rfl zeroR HZ ?_)
  have F:=H0.out.fillK (by omega) hl (rcV ⟨1,x.br,x.bn,0,zeroM,none,0,0⟩)
  have z0:=(F.get 0 _ _ _ rfl).cell 0 _ rfl;have z1:=(F.get 0 _ _ _ rfl).cell 1 _ rfl;have z2:=(F.get 0 _ _ _ rfl).cell 2 _ rfl;have z3:=(F.get 0 _ _ _ rfl).cell 3 _ rfl;have z4:=(F.get 0 _ _ _ rfl).cell 4 _ rfl;have z5:=(F.get 0 _ _ _ rfl).cell 5 _ rfl;have z6:=(F.get 0 _ _ _ rfl).cell 6 _ rfl;have z7:=(F.get 0 _ _ _ rfl).cell 7 _ rfl;have z8:=(F.get 0 _ _ _ rfl).cell 8 _ rfl;have z9:=(F.get 0 _ _ _ rfl).cell 9 _ rfl;have z10:=(F.get 0 _ _ _ rfl).cell 10 _ rfl;have z11:=(F.get 0 _ _ _ rfl).cell 11 _ rfl;have z12:=(F.get 0 _ _ _ rfl).cell 12 _ rfl;have z13:=(F.get 0 _ _ _ rfl).cell 13 _ rfl;have z14:=(F.get 0 _ _ _ rfl).cell 14 _ rfl
  exact bodyPost_ret (v:=.agg (rcV ⟨1,x.br,x.bn,0,zeroM,none,0,0⟩)) (by simp [results,Tryz.results48,go_sem,z0,z1,z2,z3,z4,z5,z6,z7,z8,z9,z10,z11,z12,z13,z14]) rfl ⟨rfl,F.bel⟩
 by_cases h2 : x.k = 2
 ·rw [if_neg h1,if_pos h2]
  have q1 : (x.k == 1) = false:=by simp;omega
  have q2 : (x.k == 2) = true:=by simp;omega
  clear h1 h2
  go_enter Tryz.func48,Tryz.ntmps48
  go_upto_region 1 with (fail)
  generalize (w.alloc (.cells (rcV x) 36)).alloc (.cells (rcV zeroR) 36) = W0 at *
  have x0:=(H0.out.get 1 _ _ _ rfl).cell 0 _ rfl;have x1:=(H0.out.get 1 _ _ _ rfl).cell 1 _ rfl;have x2:=(H0.out.get 1 _ _ _ rfl).cell 2 _ rfl;have x3:=(H0.out.get 1 _ _ _ rfl).cell 3 _ rfl;have x4:=(H0.out.get 1 _ _ _ rfl).cell 4 _ rfl;have x5:=(H0.out.get 1 _ _ _ rfl).cell 5 _ rfl;have x6:=(H0.out.get 1 _ _ _ rfl).cell 6 _ rfl;have x7:=(H0.out.get 1 _ _ _ rfl).cell 7 _ rfl;have x8:=(H0.out.get 1 _ _ _ rfl).cell 8 _ rfl;have x9:=(H0.out.get 1 _ _ _ rfl).cell 9 _ rfl;have x10:=(H0.out.get 1 _ _ _ rfl).cell 10 _ rfl;have x11:=(H0.out.get 1 _ _ _ rfl).cell 11 _ rfl;have x12:=(H0.out.get 1 _ _ _ rfl).cell 12 _ rfl;have x13:=(H0.out.get 1 _ _ _ rfl).cell 13 _ rfl;have x14:=(H0.out.get 1 _ _ _ rfl).cell 14 _ rfl
  have HZ:=H0.out.get 0 _ _ _ rfl
  go_wp2_with (refine wpList_store_k rfl _ _ rfl (w.heap.size + 1) ⟨2,x.br,x.bn,x.sl,x.cm,none,0,0⟩ rfl rfl zeroR HZ ?_)
  have F:=H0.out.fillK (by omega) hl (rcV ⟨2,x.br,x.bn,x.sl,x.cm,none,0,0⟩)
  have z0:=(F.get 0 _ _ _ rfl).cell 0 _ rfl;have z1:=(F.get 0 _ _ _ rfl).cell 1 _ rfl;have z2:=(F.get 0 _ _ _ rfl).cell 2 _ rfl;have z3:=(F.get 0 _ _ _ rfl).cell 3 _ rfl;have z4:=(F.get 0 _ _ _ rfl).cell 4 _ rfl;have z5:=(F.get 0 _ _ _ rfl).cell 5 _ rfl;have z6:=(F.get 0 _ _ _ rfl).cell 6 _ rfl;have z7:=(F.get 0 _ _ _ rfl).cell 7 _ rfl;have z8:=(F.get 0 _ _ _ rfl).cell 8 _ rfl;have z9:=(F.get 0 _ _ _ rfl).cell 9 _ rfl;have z10:=(F.get 0 _ _ _ rfl).cell 10 _ rfl;have z11:=(F.get 0 _ _ _ rfl).cell 11 _ rfl;have z12:=(F.get 0 _ _ _ rfl).cell 12 _ rfl;have z13:=(F.get 0 _ _ _ rfl).cell 13 _ rfl;have z14:=(F.get 0 _ _ _ rfl).cell 14 _ rfl
  exact bodyPost_ret (v:=.agg (rcV ⟨2,x.br,x.bn,x.sl,x.cm,none,0,0⟩)) (by simp [results,Tryz.results48,go_sem,z0,z1,z2,z3,z4,z5,z6,z7,z8,z9,z10,z11,z12,z13,z14]) rfl ⟨rfl,F.bel⟩
 by_cases h3 : x.k = 3
 ·rw [if_neg h1,if_neg h2,if_pos h3]
  have q1 : (x.k == 1) = false:=by simp;omega
  have q2 : (x.k == 2) = false:=by simp;omega
  have q3 : (x.k == 3) = true:=by simp;omega
  clear h1 h2 h3
  go_enter Tryz.func48,Tryz.ntmps48
  go_upto_region 1 with (fail)
  generalize (w.alloc (.cells (rcV x) 36)).alloc (.cells (rcV zeroR) 36) = W0 at *
  have x0:=(H0.out.get 1 _ _ _ rfl).cell 0 _ rfl;have x1:=(H0.out.get 1 _ _ _ rfl).cell 1 _ rfl;have x2:=(H0.out.get 1 _ _ _ rfl).cell 2 _ rfl;have x3:=(H0.out.get 1 _ _ _ rfl).cell 3 _ rfl;have x4:=(H0.out.get 1 _ _ _ rfl).cell 4 _ rfl;have x5:=(H0.out.get 1 _ _ _ rfl).cell 5 _ rfl;have x6:=(H0.out.get 1 _ _ _ rfl).cell 6 _ rfl;have x7:=(H0.out.get 1 _ _ _ rfl).cell 7 _ rfl;have x8:=(H0.out.get 1 _ _ _ rfl).cell 8 _ rfl;have x9:=(H0.out.get 1 _ _ _ rfl).cell 9 _ rfl;have x10:=(H0.out.get 1 _ _ _ rfl).cell 10 _ rfl;have x11:=(H0.out.get 1 _ _ _ rfl).cell 11 _ rfl;have x12:=(H0.out.get 1 _ _ _ rfl).cell 12 _ rfl;have x13:=(H0.out.get 1 _ _ _ rfl).cell 13 _ rfl;have x14:=(H0.out.get 1 _ _ _ rfl).cell 14 _ rfl
  have HZ:=H0.out.get 0 _ _ _ rfl
  go_wp2_with (refine wpList_store_k rfl _ _ rfl (w.heap.size + 1) ⟨3,0,0,x.sl,x.cm,none,0,0⟩ rfl rfl zeroR HZ ?_)
  have F:=H0.out.fillK (by omega) hl (rcV ⟨3,0,0,x.sl,x.cm,none,0,0⟩)
  have z0:=(F.get 0 _ _ _ rfl).cell 0 _ rfl;have z1:=(F.get 0 _ _ _ rfl).cell 1 _ rfl;have z2:=(F.get 0 _ _ _ rfl).cell 2 _ rfl;have z3:=(F.get 0 _ _ _ rfl).cell 3 _ rfl;have z4:=(F.get 0 _ _ _ rfl).cell 4 _ rfl;have z5:=(F.get 0 _ _ _ rfl).cell 5 _ rfl;have z6:=(F.get 0 _ _ _ rfl).cell 6 _ rfl;have z7:=(F.get 0 _ _ _ rfl).cell 7 _ rfl;have z8:=(F.get 0 _ _ _ rfl).cell 8 _ rfl;have z9:=(F.get 0 _ _ _ rfl).cell 9 _ rfl;have z10:=(F.get 0 _ _ _ rfl).cell 10 _ rfl;have z11:=(F.get 0 _ _ _ rfl).cell 11 _ rfl;have z12:=(F.get 0 _ _ _ rfl).cell 12 _ rfl;have z13:=(F.get 0 _ _ _ rfl).cell 13 _ rfl;have z14:=(F.get 0 _ _ _ rfl).cell 14 _ rfl
  exact bodyPost_ret (v:=.agg (rcV ⟨3,0,0,x.sl,x.cm,none,0,0⟩)) (by simp [results,Tryz.results48,go_sem,z0,z1,z2,z3,z4,z5,z6,z7,z8,z9,z10,z11,z12,z13,z14]) rfl ⟨rfl,F.bel⟩
 by_cases h4 : x.k = 4
 ·rw [if_neg h1,if_neg h2,if_neg h3,if_pos h4]
  have q1 : (x.k == 1) = false:=by simp;omega
  have q2 : (x.k == 2) = false:=by simp;omega
  have q3 : (x.k == 3) = false:=by simp;omega
  have q4 : (x.k == 4) = true:=by simp;omega
  clear h1 h2 h3 h4
  go_enter Tryz.func48,Tryz.ntmps48
  go_upto_region 1 with (fail)
  generalize (w.alloc (.cells (rcV x) 36)).alloc (.cells (rcV zeroR) 36) = W0 at *
  have x0:=(H0.out.get 1 _ _ _ rfl).cell 0 _ rfl;have x1:=(H0.out.get 1 _ _ _ rfl).cell 1 _ rfl;have x2:=(H0.out.get 1 _ _ _ rfl).cell 2 _ rfl;have x3:=(H0.out.get 1 _ _ _ rfl).cell 3 _ rfl;have x4:=(H0.out.get 1 _ _ _ rfl).cell 4 _ rfl;have x5:=(H0.out.get 1 _ _ _ rfl).cell 5 _ rfl;have x6:=(H0.out.get 1 _ _ _ rfl).cell 6 _ rfl;have x7:=(H0.out.get 1 _ _ _ rfl).cell 7 _ rfl;have x8:=(H0.out.get 1 _ _ _ rfl).cell 8 _ rfl;have x9:=(H0.out.get 1 _ _ _ rfl).cell 9 _ rfl;have x10:=(H0.out.get 1 _ _ _ rfl).cell 10 _ rfl;have x11:=(H0.out.get 1 _ _ _ rfl).cell 11 _ rfl;have x12:=(H0.out.get 1 _ _ _ rfl).cell 12 _ rfl;have x13:=(H0.out.get 1 _ _ _ rfl).cell 13 _ rfl;have x14:=(H0.out.get 1 _ _ _ rfl).cell 14 _ rfl
  have HZ:=H0.out.get 0 _ _ _ rfl
  go_wp2_with (refine wpList_store_k rfl _ _ rfl (w.heap.size + 1) ⟨4,0,0,x.sl,zeroM,x.da,x.dn,x.dc⟩ rfl rfl zeroR HZ ?_)
  have F:=H0.out.fillK (by omega) hl (rcV ⟨4,0,0,x.sl,zeroM,x.da,x.dn,x.dc⟩)
  have z0:=(F.get 0 _ _ _ rfl).cell 0 _ rfl;have z1:=(F.get 0 _ _ _ rfl).cell 1 _ rfl;have z2:=(F.get 0 _ _ _ rfl).cell 2 _ rfl;have z3:=(F.get 0 _ _ _ rfl).cell 3 _ rfl;have z4:=(F.get 0 _ _ _ rfl).cell 4 _ rfl;have z5:=(F.get 0 _ _ _ rfl).cell 5 _ rfl;have z6:=(F.get 0 _ _ _ rfl).cell 6 _ rfl;have z7:=(F.get 0 _ _ _ rfl).cell 7 _ rfl;have z8:=(F.get 0 _ _ _ rfl).cell 8 _ rfl;have z9:=(F.get 0 _ _ _ rfl).cell 9 _ rfl;have z10:=(F.get 0 _ _ _ rfl).cell 10 _ rfl;have z11:=(F.get 0 _ _ _ rfl).cell 11 _ rfl;have z12:=(F.get 0 _ _ _ rfl).cell 12 _ rfl;have z13:=(F.get 0 _ _ _ rfl).cell 13 _ rfl;have z14:=(F.get 0 _ _ _ rfl).cell 14 _ rfl
  exact bodyPost_ret (v:=.agg (rcV ⟨4,0,0,x.sl,zeroM,x.da,x.dn,x.dc⟩)) (by simp [results,Tryz.results48,go_sem,z0,z1,z2,z3,z4,z5,z6,z7,z8,z9,z10,z11,z12,z13,z14]) rfl ⟨rfl,F.bel⟩
 rw [if_neg h1,if_neg h2,if_neg h3,if_neg h4]
 have q1 : (x.k == 1) = false:=by simp;omega
 have q2 : (x.k == 2) = false:=by simp;omega
 have q3 : (x.k == 3) = false:=by simp;omega
 have q4 : (x.k == 4) = false:=by simp;omega
 clear h1 h2 h3 h4
 go_enter Tryz.func48,Tryz.ntmps48
 go_upto_region 1 with (fail)
 generalize (w.alloc (.cells (rcV x) 36)).alloc (.cells (rcV zeroR) 36) = W0 at *
 have x0:=(H0.out.get 1 _ _ _ rfl).cell 0 _ rfl;have x1:=(H0.out.get 1 _ _ _ rfl).cell 1 _ rfl;have x2:=(H0.out.get 1 _ _ _ rfl).cell 2 _ rfl;have x3:=(H0.out.get 1 _ _ _ rfl).cell 3 _ rfl;have x4:=(H0.out.get 1 _ _ _ rfl).cell 4 _ rfl;have x5:=(H0.out.get 1 _ _ _ rfl).cell 5 _ rfl;have x6:=(H0.out.get 1 _ _ _ rfl).cell 6 _ rfl;have x7:=(H0.out.get 1 _ _ _ rfl).cell 7 _ rfl;have x8:=(H0.out.get 1 _ _ _ rfl).cell 8 _ rfl;have x9:=(H0.out.get 1 _ _ _ rfl).cell 9 _ rfl;have x10:=(H0.out.get 1 _ _ _ rfl).cell 10 _ rfl;have x11:=(H0.out.get 1 _ _ _ rfl).cell 11 _ rfl;have x12:=(H0.out.get 1 _ _ _ rfl).cell 12 _ rfl;have x13:=(H0.out.get 1 _ _ _ rfl).cell 13 _ rfl;have x14:=(H0.out.get 1 _ _ _ rfl).cell 14 _ rfl
 have HZ:=H0.out.get 0 _ _ _ rfl
 go_wp2_with (refine wpList_store_k rfl _ _ rfl (w.heap.size + 1) zeroR rfl rfl zeroR HZ ?_)
 have F:=H0.out.fillK (by omega) hl (rcV zeroR)
 have z0:=(F.get 0 _ _ _ rfl).cell 0 _ rfl;have z1:=(F.get 0 _ _ _ rfl).cell 1 _ rfl;have z2:=(F.get 0 _ _ _ rfl).cell 2 _ rfl;have z3:=(F.get 0 _ _ _ rfl).cell 3 _ rfl;have z4:=(F.get 0 _ _ _ rfl).cell 4 _ rfl;have z5:=(F.get 0 _ _ _ rfl).cell 5 _ rfl;have z6:=(F.get 0 _ _ _ rfl).cell 6 _ rfl;have z7:=(F.get 0 _ _ _ rfl).cell 7 _ rfl;have z8:=(F.get 0 _ _ _ rfl).cell 8 _ rfl;have z9:=(F.get 0 _ _ _ rfl).cell 9 _ rfl;have z10:=(F.get 0 _ _ _ rfl).cell 10 _ rfl;have z11:=(F.get 0 _ _ _ rfl).cell 11 _ rfl;have z12:=(F.get 0 _ _ _ rfl).cell 12 _ rfl;have z13:=(F.get 0 _ _ _ rfl).cell 13 _ rfl;have z14:=(F.get 0 _ _ _ rfl).cell 14 _ rfl
 exact bodyPost_ret (v:=.agg (rcV zeroR)) (by simp [results,Tryz.results48,go_sem,z0,z1,z2,z3,z4,z5,z6,z7,z8,z9,z10,z11,z12,z13,z14]) rfl ⟨rfl,F.bel⟩
end Go.Proofs.YtcfmifongbapkaaGreatDoor
