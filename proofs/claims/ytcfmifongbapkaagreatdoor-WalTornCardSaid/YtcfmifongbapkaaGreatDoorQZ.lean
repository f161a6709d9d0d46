/- Contract of wal.named. No condition. Contract of wal.Formed. Conditions: the record's lists lie in memory, and are no longer than a million; the tables of utf8 lie there. -/
import Derived.Test.YtcfmifongbapkaaGreatDoorQO
import Derived.Laws.ResultCell
import Derived.Test.YtcfmifongbapkaaGreatDoorQY
import Derived.Test.YtcfmifongbapkaaGreatDoorQV
import Derived.Test.YtcfmifongbapkaaGreatDoorQS
import Derived.Deep.RegionHeld3
/- WalNamed -/
namespace Go.Proofs.YtcfmifongbapkaaGreatDoor

open Go.RowKit

set_option linter.unusedVariables false
set_option linter.unusedSimpArgs false

set_option maxRecDepth 100000 in
set_option maxHeartbeats 4000000 in
theorem wNamed_any (x : RcM) (w : World) : Calls Tryz.prog 48 #[.agg (rcV x)] w fun e w' => e = .returned (.agg (rcV (namedR x))) ∧ Below w.heap.size w w' := by
  have H0 := Lib.hid (((Boxs.start w).more (rcV x) 36).more (rcV zeroR) 36)
  have hs : (w.alloc (.cells (rcV x) 36)).heap.size = w.heap.size + 1 := by simp
  rw [hs] at H0
  clear hs
  have hl : ∀ b ∈ [(w.heap.size, rcV x, 36)], b.1 ≠ w.heap.size + 1 := by simp
  unfold namedR
  by_cases h1 : x.k = 1
  · rw [if_pos h1]
    have q1 : (x.k == 1) = true := by simp; omega
    clear h1
    go_enter Tryz.func48, Tryz.ntmps48
    go_upto_region 1 with (fail)
    generalize (w.alloc (.cells (rcV x) 36)).alloc (.cells (rcV zeroR) 36) = W0 at *
    have x0 := (H0.out.get 1 _ _ _ rfl).cell 0 _ rfl; have x1 := (H0.out.get 1 _ _ _ rfl).cell 1 _ rfl; have x2 := (H0.out.get 1 _ _ _ rfl).cell 2 _ rfl; have x3 := (H0.out.get 1 _ _ _ rfl).cell 3 _ rfl; have x4 := (H0.out.get 1 _ _ _ rfl).cell 4 _ rfl; have x5 := (H0.out.get 1 _ _ _ rfl).cell 5 _ rfl; have x6 := (H0.out.get 1 _ _ _ rfl).cell 6 _ rfl; have x7 := (H0.out.get 1 _ _ _ rfl).cell 7 _ rfl; have x8 := (H0.out.get 1 _ _ _ rfl).cell 8 _ rfl; have x9 := (H0.out.get 1 _ _ _ rfl).cell 9 _ rfl; have x10 := (H0.out.get 1 _ _ _ rfl).cell 10 _ rfl; have x11 := (H0.out.get 1 _ _ _ rfl).cell 11 _ rfl; have x12 := (H0.out.get 1 _ _ _ rfl).cell 12 _ rfl; have x13 := (H0.out.get 1 _ _ _ rfl).cell 13 _ rfl; have x14 := (H0.out.get 1 _ _ _ rfl).cell 14 _ rfl
    have HZ := H0.out.get 0 _ _ _ rfl
    go_wp2_with (refine wpList_store_k rfl _ _ rfl (w.heap.size + 1) ⟨1, x.br, x.bn, 0, zeroM, none, 0, 0⟩ rfl rfl zeroR HZ ?_)
    have F := H0.out.fillK (by omega) hl (rcV ⟨1, x.br, x.bn, 0, zeroM, none, 0, 0⟩)
    have z0 := (F.get 0 _ _ _ rfl).cell 0 _ rfl; have z1 := (F.get 0 _ _ _ rfl).cell 1 _ rfl; have z2 := (F.get 0 _ _ _ rfl).cell 2 _ rfl; have z3 := (F.get 0 _ _ _ rfl).cell 3 _ rfl; have z4 := (F.get 0 _ _ _ rfl).cell 4 _ rfl; have z5 := (F.get 0 _ _ _ rfl).cell 5 _ rfl; have z6 := (F.get 0 _ _ _ rfl).cell 6 _ rfl; have z7 := (F.get 0 _ _ _ rfl).cell 7 _ rfl; have z8 := (F.get 0 _ _ _ rfl).cell 8 _ rfl; have z9 := (F.get 0 _ _ _ rfl).cell 9 _ rfl; have z10 := (F.get 0 _ _ _ rfl).cell 10 _ rfl; have z11 := (F.get 0 _ _ _ rfl).cell 11 _ rfl; have z12 := (F.get 0 _ _ _ rfl).cell 12 _ rfl; have z13 := (F.get 0 _ _ _ rfl).cell 13 _ rfl; have z14 := (F.get 0 _ _ _ rfl).cell 14 _ rfl
    exact bodyPost_ret (v := .agg (rcV ⟨1, x.br, x.bn, 0, zeroM, none, 0, 0⟩)) (by simp [results, Tryz.results48, go_sem, z0, z1, z2, z3, z4, z5, z6, z7, z8, z9, z10, z11, z12, z13, z14]) rfl ⟨rfl, F.bel⟩
  by_cases h2 : x.k = 2
  · rw [if_neg h1, if_pos h2]
    have q1 : (x.k == 1) = false := by simp; omega
    have q2 : (x.k == 2) = true := by simp; omega
    clear h1 h2
    go_enter Tryz.func48, Tryz.ntmps48
    go_upto_region 1 with (fail)
    generalize (w.alloc (.cells (rcV x) 36)).alloc (.cells (rcV zeroR) 36) = W0 at *
    have x0 := (H0.out.get 1 _ _ _ rfl).cell 0 _ rfl; have x1 := (H0.out.get 1 _ _ _ rfl).cell 1 _ rfl; have x2 := (H0.out.get 1 _ _ _ rfl).cell 2 _ rfl; have x3 := (H0.out.get 1 _ _ _ rfl).cell 3 _ rfl; have x4 := (H0.out.get 1 _ _ _ rfl).cell 4 _ rfl; have x5 := (H0.out.get 1 _ _ _ rfl).cell 5 _ rfl; have x6 := (H0.out.get 1 _ _ _ rfl).cell 6 _ rfl; have x7 := (H0.out.get 1 _ _ _ rfl).cell 7 _ rfl; have x8 := (H0.out.get 1 _ _ _ rfl).cell 8 _ rfl; have x9 := (H0.out.get 1 _ _ _ rfl).cell 9 _ rfl; have x10 := (H0.out.get 1 _ _ _ rfl).cell 10 _ rfl; have x11 := (H0.out.get 1 _ _ _ rfl).cell 11 _ rfl; have x12 := (H0.out.get 1 _ _ _ rfl).cell 12 _ rfl; have x13 := (H0.out.get 1 _ _ _ rfl).cell 13 _ rfl; have x14 := (H0.out.get 1 _ _ _ rfl).cell 14 _ rfl
    have HZ := H0.out.get 0 _ _ _ rfl
    go_wp2_with (refine wpList_store_k rfl _ _ rfl (w.heap.size + 1) ⟨2, x.br, x.bn, x.sl, x.cm, none, 0, 0⟩ rfl rfl zeroR HZ ?_)
    have F := H0.out.fillK (by omega) hl (rcV ⟨2, x.br, x.bn, x.sl, x.cm, none, 0, 0⟩)
    have z0 := (F.get 0 _ _ _ rfl).cell 0 _ rfl; have z1 := (F.get 0 _ _ _ rfl).cell 1 _ rfl; have z2 := (F.get 0 _ _ _ rfl).cell 2 _ rfl; have z3 := (F.get 0 _ _ _ rfl).cell 3 _ rfl; have z4 := (F.get 0 _ _ _ rfl).cell 4 _ rfl; have z5 := (F.get 0 _ _ _ rfl).cell 5 _ rfl; have z6 := (F.get 0 _ _ _ rfl).cell 6 _ rfl; have z7 := (F.get 0 _ _ _ rfl).cell 7 _ rfl; have z8 := (F.get 0 _ _ _ rfl).cell 8 _ rfl; have z9 := (F.get 0 _ _ _ rfl).cell 9 _ rfl; have z10 := (F.get 0 _ _ _ rfl).cell 10 _ rfl; have z11 := (F.get 0 _ _ _ rfl).cell 11 _ rfl; have z12 := (F.get 0 _ _ _ rfl).cell 12 _ rfl; have z13 := (F.get 0 _ _ _ rfl).cell 13 _ rfl; have z14 := (F.get 0 _ _ _ rfl).cell 14 _ rfl
    exact bodyPost_ret (v := .agg (rcV ⟨2, x.br, x.bn, x.sl, x.cm, none, 0, 0⟩)) (by simp [results, Tryz.results48, go_sem, z0, z1, z2, z3, z4, z5, z6, z7, z8, z9, z10, z11, z12, z13, z14]) rfl ⟨rfl, F.bel⟩
  by_cases h3 : x.k = 3
  · rw [if_neg h1, if_neg h2, if_pos h3]
    have q1 : (x.k == 1) = false := by simp; omega
    have q2 : (x.k == 2) = false := by simp; omega
    have q3 : (x.k == 3) = true := by simp; omega
    clear h1 h2 h3
    go_enter Tryz.func48, Tryz.ntmps48
    go_upto_region 1 with (fail)
    generalize (w.alloc (.cells (rcV x) 36)).alloc (.cells (rcV zeroR) 36) = W0 at *
    have x0 := (H0.out.get 1 _ _ _ rfl).cell 0 _ rfl; have x1 := (H0.out.get 1 _ _ _ rfl).cell 1 _ rfl; have x2 := (H0.out.get 1 _ _ _ rfl).cell 2 _ rfl; have x3 := (H0.out.get 1 _ _ _ rfl).cell 3 _ rfl; have x4 := (H0.out.get 1 _ _ _ rfl).cell 4 _ rfl; have x5 := (H0.out.get 1 _ _ _ rfl).cell 5 _ rfl; have x6 := (H0.out.get 1 _ _ _ rfl).cell 6 _ rfl; have x7 := (H0.out.get 1 _ _ _ rfl).cell 7 _ rfl; have x8 := (H0.out.get 1 _ _ _ rfl).cell 8 _ rfl; have x9 := (H0.out.get 1 _ _ _ rfl).cell 9 _ rfl; have x10 := (H0.out.get 1 _ _ _ rfl).cell 10 _ rfl; have x11 := (H0.out.get 1 _ _ _ rfl).cell 11 _ rfl; have x12 := (H0.out.get 1 _ _ _ rfl).cell 12 _ rfl; have x13 := (H0.out.get 1 _ _ _ rfl).cell 13 _ rfl; have x14 := (H0.out.get 1 _ _ _ rfl).cell 14 _ rfl
    have HZ := H0.out.get 0 _ _ _ rfl
    go_wp2_with (refine wpList_store_k rfl _ _ rfl (w.heap.size + 1) ⟨3, 0, 0, x.sl, x.cm, none, 0, 0⟩ rfl rfl zeroR HZ ?_)
    have F := H0.out.fillK (by omega) hl (rcV ⟨3, 0, 0, x.sl, x.cm, none, 0, 0⟩)
    have z0 := (F.get 0 _ _ _ rfl).cell 0 _ rfl; have z1 := (F.get 0 _ _ _ rfl).cell 1 _ rfl; have z2 := (F.get 0 _ _ _ rfl).cell 2 _ rfl; have z3 := (F.get 0 _ _ _ rfl).cell 3 _ rfl; have z4 := (F.get 0 _ _ _ rfl).cell 4 _ rfl; have z5 := (F.get 0 _ _ _ rfl).cell 5 _ rfl; have z6 := (F.get 0 _ _ _ rfl).cell 6 _ rfl; have z7 := (F.get 0 _ _ _ rfl).cell 7 _ rfl; have z8 := (F.get 0 _ _ _ rfl).cell 8 _ rfl; have z9 := (F.get 0 _ _ _ rfl).cell 9 _ rfl; have z10 := (F.get 0 _ _ _ rfl).cell 10 _ rfl; have z11 := (F.get 0 _ _ _ rfl).cell 11 _ rfl; have z12 := (F.get 0 _ _ _ rfl).cell 12 _ rfl; have z13 := (F.get 0 _ _ _ rfl).cell 13 _ rfl; have z14 := (F.get 0 _ _ _ rfl).cell 14 _ rfl
    exact bodyPost_ret (v := .agg (rcV ⟨3, 0, 0, x.sl, x.cm, none, 0, 0⟩)) (by simp [results, Tryz.results48, go_sem, z0, z1, z2, z3, z4, z5, z6, z7, z8, z9, z10, z11, z12, z13, z14]) rfl ⟨rfl, F.bel⟩
  by_cases h4 : x.k = 4
  · rw [if_neg h1, if_neg h2, if_neg h3, if_pos h4]
    have q1 : (x.k == 1) = false := by simp; omega
    have q2 : (x.k == 2) = false := by simp; omega
    have q3 : (x.k == 3) = false := by simp; omega
    have q4 : (x.k == 4) = true := by simp; omega
    clear h1 h2 h3 h4
    go_enter Tryz.func48, Tryz.ntmps48
    go_upto_region 1 with (fail)
    generalize (w.alloc (.cells (rcV x) 36)).alloc (.cells (rcV zeroR) 36) = W0 at *
    have x0 := (H0.out.get 1 _ _ _ rfl).cell 0 _ rfl; have x1 := (H0.out.get 1 _ _ _ rfl).cell 1 _ rfl; have x2 := (H0.out.get 1 _ _ _ rfl).cell 2 _ rfl; have x3 := (H0.out.get 1 _ _ _ rfl).cell 3 _ rfl; have x4 := (H0.out.get 1 _ _ _ rfl).cell 4 _ rfl; have x5 := (H0.out.get 1 _ _ _ rfl).cell 5 _ rfl; have x6 := (H0.out.get 1 _ _ _ rfl).cell 6 _ rfl; have x7 := (H0.out.get 1 _ _ _ rfl).cell 7 _ rfl; have x8 := (H0.out.get 1 _ _ _ rfl).cell 8 _ rfl; have x9 := (H0.out.get 1 _ _ _ rfl).cell 9 _ rfl; have x10 := (H0.out.get 1 _ _ _ rfl).cell 10 _ rfl; have x11 := (H0.out.get 1 _ _ _ rfl).cell 11 _ rfl; have x12 := (H0.out.get 1 _ _ _ rfl).cell 12 _ rfl; have x13 := (H0.out.get 1 _ _ _ rfl).cell 13 _ rfl; have x14 := (H0.out.get 1 _ _ _ rfl).cell 14 _ rfl
    have HZ := H0.out.get 0 _ _ _ rfl
    go_wp2_with (refine wpList_store_k rfl _ _ rfl (w.heap.size + 1) ⟨4, 0, 0, x.sl, zeroM, x.da, x.dn, x.dc⟩ rfl rfl zeroR HZ ?_)
    have F := H0.out.fillK (by omega) hl (rcV ⟨4, 0, 0, x.sl, zeroM, x.da, x.dn, x.dc⟩)
    have z0 := (F.get 0 _ _ _ rfl).cell 0 _ rfl; have z1 := (F.get 0 _ _ _ rfl).cell 1 _ rfl; have z2 := (F.get 0 _ _ _ rfl).cell 2 _ rfl; have z3 := (F.get 0 _ _ _ rfl).cell 3 _ rfl; have z4 := (F.get 0 _ _ _ rfl).cell 4 _ rfl; have z5 := (F.get 0 _ _ _ rfl).cell 5 _ rfl; have z6 := (F.get 0 _ _ _ rfl).cell 6 _ rfl; have z7 := (F.get 0 _ _ _ rfl).cell 7 _ rfl; have z8 := (F.get 0 _ _ _ rfl).cell 8 _ rfl; have z9 := (F.get 0 _ _ _ rfl).cell 9 _ rfl; have z10 := (F.get 0 _ _ _ rfl).cell 10 _ rfl; have z11 := (F.get 0 _ _ _ rfl).cell 11 _ rfl; have z12 := (F.get 0 _ _ _ rfl).cell 12 _ rfl; have z13 := (F.get 0 _ _ _ rfl).cell 13 _ rfl; have z14 := (F.get 0 _ _ _ rfl).cell 14 _ rfl
    exact bodyPost_ret (v := .agg (rcV ⟨4, 0, 0, x.sl, zeroM, x.da, x.dn, x.dc⟩)) (by simp [results, Tryz.results48, go_sem, z0, z1, z2, z3, z4, z5, z6, z7, z8, z9, z10, z11, z12, z13, z14]) rfl ⟨rfl, F.bel⟩
  rw [if_neg h1, if_neg h2, if_neg h3, if_neg h4]
  have q1 : (x.k == 1) = false := by simp; omega
  have q2 : (x.k == 2) = false := by simp; omega
  have q3 : (x.k == 3) = false := by simp; omega
  have q4 : (x.k == 4) = false := by simp; omega
  clear h1 h2 h3 h4
  go_enter Tryz.func48, Tryz.ntmps48
  go_upto_region 1 with (fail)
  generalize (w.alloc (.cells (rcV x) 36)).alloc (.cells (rcV zeroR) 36) = W0 at *
  have x0 := (H0.out.get 1 _ _ _ rfl).cell 0 _ rfl; have x1 := (H0.out.get 1 _ _ _ rfl).cell 1 _ rfl; have x2 := (H0.out.get 1 _ _ _ rfl).cell 2 _ rfl; have x3 := (H0.out.get 1 _ _ _ rfl).cell 3 _ rfl; have x4 := (H0.out.get 1 _ _ _ rfl).cell 4 _ rfl; have x5 := (H0.out.get 1 _ _ _ rfl).cell 5 _ rfl; have x6 := (H0.out.get 1 _ _ _ rfl).cell 6 _ rfl; have x7 := (H0.out.get 1 _ _ _ rfl).cell 7 _ rfl; have x8 := (H0.out.get 1 _ _ _ rfl).cell 8 _ rfl; have x9 := (H0.out.get 1 _ _ _ rfl).cell 9 _ rfl; have x10 := (H0.out.get 1 _ _ _ rfl).cell 10 _ rfl; have x11 := (H0.out.get 1 _ _ _ rfl).cell 11 _ rfl; have x12 := (H0.out.get 1 _ _ _ rfl).cell 12 _ rfl; have x13 := (H0.out.get 1 _ _ _ rfl).cell 13 _ rfl; have x14 := (H0.out.get 1 _ _ _ rfl).cell 14 _ rfl
  have HZ := H0.out.get 0 _ _ _ rfl
  go_wp2_with (refine wpList_store_k rfl _ _ rfl (w.heap.size + 1) zeroR rfl rfl zeroR HZ ?_)
  have F := H0.out.fillK (by omega) hl (rcV zeroR)
  have z0 := (F.get 0 _ _ _ rfl).cell 0 _ rfl; have z1 := (F.get 0 _ _ _ rfl).cell 1 _ rfl; have z2 := (F.get 0 _ _ _ rfl).cell 2 _ rfl; have z3 := (F.get 0 _ _ _ rfl).cell 3 _ rfl; have z4 := (F.get 0 _ _ _ rfl).cell 4 _ rfl; have z5 := (F.get 0 _ _ _ rfl).cell 5 _ rfl; have z6 := (F.get 0 _ _ _ rfl).cell 6 _ rfl; have z7 := (F.get 0 _ _ _ rfl).cell 7 _ rfl; have z8 := (F.get 0 _ _ _ rfl).cell 8 _ rfl; have z9 := (F.get 0 _ _ _ rfl).cell 9 _ rfl; have z10 := (F.get 0 _ _ _ rfl).cell 10 _ rfl; have z11 := (F.get 0 _ _ _ rfl).cell 11 _ rfl; have z12 := (F.get 0 _ _ _ rfl).cell 12 _ rfl; have z13 := (F.get 0 _ _ _ rfl).cell 13 _ rfl; have z14 := (F.get 0 _ _ _ rfl).cell 14 _ rfl
  exact bodyPost_ret (v := .agg (rcV zeroR)) (by simp [results, Tryz.results48, go_sem, z0, z1, z2, z3, z4, z5, z6, z7, z8, z9, z10, z11, z12, z13, z14]) rfl ⟨rfl, F.bel⟩
end Go.Proofs.YtcfmifongbapkaaGreatDoor

/- WalFormed -/
namespace Go.Proofs.YtcfmifongbapkaaGreatDoor

open Go.RowKit

set_option linter.unusedVariables false
set_option linter.unusedSimpArgs false

theorem BoxC.sK {w : World} {g : Nat} {x : RcM} (h : BoxC w g (rcV x) 36) : w.cell? ⟨g, 0, none⟩ = some (.int .i64 x.k) ∧ (Go.Proofs.YtcfmifongbapkaaGreatDoor.ldK (.pointer (some ⟨g, 0, none⟩))).run Tryz.prog w = .ok (.agg (rcV x)) w := ⟨h.cell 0 _ rfl, h.ldK⟩
theorem RcF.named {x : RcM} (h : RcF x) : RcF (namedR x) := by
  unfold namedR
  split
  · exact ⟨Nat.zero_le _, Nat.zero_le _, Nat.zero_le _⟩
  · split
    · exact ⟨h.n, h.m, Nat.zero_le _⟩
    · split
      · exact ⟨h.n, h.m, Nat.zero_le _⟩
      · split
        · exact ⟨Nat.zero_le _, Nat.zero_le _, h.dn⟩
        · exact RcF.zero
set_option maxRecDepth 100000 in
set_option maxHeartbeats 4000000 in
theorem wFormed_any (x : RcM) (L : RcL) (w : World) (h : RcAt w x L) (hf : RcF x) (hU : Tabs w) :
    Calls Tryz.prog 15 #[.agg (rcV x)] w (Says w (formR (rcT x L))) := by
  rw [form_rec h]
  have H0 := Lib.hid ((Boxs.start w).more (rcV x) 36)
  have cN := fun W => wNamed_any x W
  have cS : ∀ W, Below w.heap.size w W → Calls Tryz.prog 17 #[.agg (rcV x), .agg (rcV (namedR x))] W (Says W (cleanR x L)) := fun W hW => wSame_any x (namedR x) L (namedRL x L) W (h.later hW) (h.named.later hW) hf hf.named
  have cB := fun W => bFormed_any ((x.br : Nat) : Int) x.bn W
  have cF : ∀ W, Below w.heap.size w W → Calls Tryz.prog 50 #[.agg (cmV x.cm)] W (Says W (formCm (cmT x.cm L.rs L.ws))) := fun W hW => kFormed_any x.cm L.rs L.ws W (h.cm.later hW) hf.n hf.m (hU.below hW)
  have ldX := Lib.hid (H0.out.get 0 _ _ _ rfl).ldK
  have x0 := (H0.out.get 0 _ _ _ rfl).cell 0 _ rfl
  clear h hf hU
  unfold chainR
  generalize cleanR x L = CB at *
  generalize namedR x = y at *
  generalize formCm (cmT x.cm L.rs L.ws) = FB at *
  cases q0 : (x.k == 0)
  rotate_left
  · obtain ⟨k, br, bn, sl, cm, da, dn, dc⟩ := x
    obtain rfl : k = 0 := by simpa using q0
    clear cN cS cB cF q0
    go_enter Tryz.func15, Tryz.ntmps15
    go_upto_region 1 with (fail)
    have X0 := Lib.hid H0.out.drew
    have s0 := (X0.out.get 0 _ _ _ rfl).cell 0 (.int .i64 0) rfl
    clear x0 ldX
    go_region_with (fail)
    all_goals (go_wp2; go_ret; exact ⟨rfl, X0.out.bel⟩)
  have HB := H0.out.get 0 _ _ _ rfl
  clear x0 ldX
  cases CB
  · clear cB cF
    go_enter Tryz.func15, Tryz.ntmps15
    go_upto_region 1 with (fail)
    have X0 := Lib.hid H0.out.drew
    have s0 := (X0.out.get 0 _ _ _ rfl).sK
    clear HB
    go_region_held3 (fun W => (W.cell? ⟨w.heap.size, 0, none⟩ = some (.int .i64 x.k) ∧ (Go.Proofs.YtcfmifongbapkaaGreatDoor.ldK (.pointer (some ⟨w.heap.size, 0, none⟩))).run Tryz.prog W = .ok (.agg (rcV x)) W)) (first | (with_reducible exact s0) | (with_reducible exact s1) | (with_reducible exact s2))
      (first | (go_at_call 48; ((with_reducible refine (cN _).mono ?_); rintro e v1 ⟨rfl, hb1⟩; have X1 := Lib.hid (X0.out.below hb1); have s1 := (X1.out.get 0 _ _ _ rfl).sK)) | (go_at_call 17; ((with_reducible refine (cS _ X1.out.bel).mono ?_); rintro e v2 ⟨rfl, hb2⟩; have X2 := Lib.hid (X1.out.below hb2); have s2 := (X2.out.get 0 _ _ _ rfl).sK)))
    clear s0 s1 s2 X0 X1 H0
    go_wp2
    go_ret
    exact ⟨by first | rfl | simp [*], X2.out.bel⟩
  cases hB : formB x.bn
  · rw [hB] at cB
    clear cF
    go_enter Tryz.func15, Tryz.ntmps15
    go_upto_region 1 with (fail)
    have X0 := Lib.hid H0.out.drew
    have s0 := (X0.out.get 0 _ _ _ rfl).sK
    clear HB
    go_region_held3 (fun W => (W.cell? ⟨w.heap.size, 0, none⟩ = some (.int .i64 x.k) ∧ (Go.Proofs.YtcfmifongbapkaaGreatDoor.ldK (.pointer (some ⟨w.heap.size, 0, none⟩))).run Tryz.prog W = .ok (.agg (rcV x)) W)) (first | (with_reducible exact s0) | (with_reducible exact s1) | (with_reducible exact s2))
      (first | (go_at_call 48; ((with_reducible refine (cN _).mono ?_); rintro e v1 ⟨rfl, hb1⟩; have X1 := Lib.hid (X0.out.below hb1); have s1 := (X1.out.get 0 _ _ _ rfl).sK)) | (go_at_call 17; ((with_reducible refine (cS _ X1.out.bel).mono ?_); rintro e v2 ⟨rfl, hb2⟩; have X2 := Lib.hid (X1.out.below hb2); have s2 := (X2.out.get 0 _ _ _ rfl).sK)))
    clear s0 s1 s2 X0 X1 H0
    have x0 := (X2.out.get 0 _ _ _ rfl).cell 0 _ rfl; have x1 := (X2.out.get 0 _ _ _ rfl).cell 1 _ rfl; have x2 := (X2.out.get 0 _ _ _ rfl).cell 2 _ rfl; have x3 := (X2.out.get 0 _ _ _ rfl).cell 3 _ rfl; have x4 := (X2.out.get 0 _ _ _ rfl).cell 4 _ rfl; have x5 := (X2.out.get 0 _ _ _ rfl).cell 5 _ rfl; have x6 := (X2.out.get 0 _ _ _ rfl).cell 6 _ rfl; have x7 := (X2.out.get 0 _ _ _ rfl).cell 7 _ rfl; have x8 := (X2.out.get 0 _ _ _ rfl).cell 8 _ rfl; have x9 := (X2.out.get 0 _ _ _ rfl).cell 9 _ rfl; have x10 := (X2.out.get 0 _ _ _ rfl).cell 10 _ rfl; have x11 := (X2.out.get 0 _ _ _ rfl).cell 11 _ rfl; have x12 := (X2.out.get 0 _ _ _ rfl).cell 12 _ rfl; have x13 := (X2.out.get 0 _ _ _ rfl).cell 13 _ rfl; have x14 := (X2.out.get 0 _ _ _ rfl).cell 14 _ rfl
    go_wp2_with (go_at_call 49; ((with_reducible refine (cB _).mono ?_); rintro e w3 ⟨rfl, hb3⟩; have X3 := Lib.hid (X2.out.below hb3); (clear x0 x1 x2 x3 x4 x5 x6 x7 x8 x9 x10 x11 x12 x13 x14); have x0 := (X3.out.get 0 _ _ _ rfl).cell 0 _ rfl; have x1 := (X3.out.get 0 _ _ _ rfl).cell 1 _ rfl; have x2 := (X3.out.get 0 _ _ _ rfl).cell 2 _ rfl; have x3 := (X3.out.get 0 _ _ _ rfl).cell 3 _ rfl; have x4 := (X3.out.get 0 _ _ _ rfl).cell 4 _ rfl; have x5 := (X3.out.get 0 _ _ _ rfl).cell 5 _ rfl; have x6 := (X3.out.get 0 _ _ _ rfl).cell 6 _ rfl; have x7 := (X3.out.get 0 _ _ _ rfl).cell 7 _ rfl; have x8 := (X3.out.get 0 _ _ _ rfl).cell 8 _ rfl; have x9 := (X3.out.get 0 _ _ _ rfl).cell 9 _ rfl; have x10 := (X3.out.get 0 _ _ _ rfl).cell 10 _ rfl; have x11 := (X3.out.get 0 _ _ _ rfl).cell 11 _ rfl; have x12 := (X3.out.get 0 _ _ _ rfl).cell 12 _ rfl; have x13 := (X3.out.get 0 _ _ _ rfl).cell 13 _ rfl; have x14 := (X3.out.get 0 _ _ _ rfl).cell 14 _ rfl))
    go_ret
    exact ⟨by first | rfl | simp [*], X3.out.bel⟩
  rw [hB] at cB
  by_cases h1 : 0 ≤ x.sl
  rotate_left
  · have d1 : decide (0 ≤ x.sl) = false := decide_eq_false h1
    rw [d1]
    clear cF
    go_enter Tryz.func15, Tryz.ntmps15
    go_upto_region 1 with (fail)
    have X0 := Lib.hid H0.out.drew
    have s0 := (X0.out.get 0 _ _ _ rfl).sK
    clear HB
    go_region_held3 (fun W => (W.cell? ⟨w.heap.size, 0, none⟩ = some (.int .i64 x.k) ∧ (Go.Proofs.YtcfmifongbapkaaGreatDoor.ldK (.pointer (some ⟨w.heap.size, 0, none⟩))).run Tryz.prog W = .ok (.agg (rcV x)) W)) (first | (with_reducible exact s0) | (with_reducible exact s1) | (with_reducible exact s2))
      (first | (go_at_call 48; ((with_reducible refine (cN _).mono ?_); rintro e v1 ⟨rfl, hb1⟩; have X1 := Lib.hid (X0.out.below hb1); have s1 := (X1.out.get 0 _ _ _ rfl).sK)) | (go_at_call 17; ((with_reducible refine (cS _ X1.out.bel).mono ?_); rintro e v2 ⟨rfl, hb2⟩; have X2 := Lib.hid (X1.out.below hb2); have s2 := (X2.out.get 0 _ _ _ rfl).sK)))
    clear s0 s1 s2 X0 X1 H0
    have x0 := (X2.out.get 0 _ _ _ rfl).cell 0 _ rfl; have x1 := (X2.out.get 0 _ _ _ rfl).cell 1 _ rfl; have x2 := (X2.out.get 0 _ _ _ rfl).cell 2 _ rfl; have x3 := (X2.out.get 0 _ _ _ rfl).cell 3 _ rfl; have x4 := (X2.out.get 0 _ _ _ rfl).cell 4 _ rfl; have x5 := (X2.out.get 0 _ _ _ rfl).cell 5 _ rfl; have x6 := (X2.out.get 0 _ _ _ rfl).cell 6 _ rfl; have x7 := (X2.out.get 0 _ _ _ rfl).cell 7 _ rfl; have x8 := (X2.out.get 0 _ _ _ rfl).cell 8 _ rfl; have x9 := (X2.out.get 0 _ _ _ rfl).cell 9 _ rfl; have x10 := (X2.out.get 0 _ _ _ rfl).cell 10 _ rfl; have x11 := (X2.out.get 0 _ _ _ rfl).cell 11 _ rfl; have x12 := (X2.out.get 0 _ _ _ rfl).cell 12 _ rfl; have x13 := (X2.out.get 0 _ _ _ rfl).cell 13 _ rfl; have x14 := (X2.out.get 0 _ _ _ rfl).cell 14 _ rfl
    go_wp2_with (go_at_call 49; ((with_reducible refine (cB _).mono ?_); rintro e w3 ⟨rfl, hb3⟩; have X3 := Lib.hid (X2.out.below hb3); (clear x0 x1 x2 x3 x4 x5 x6 x7 x8 x9 x10 x11 x12 x13 x14); have x0 := (X3.out.get 0 _ _ _ rfl).cell 0 _ rfl; have x1 := (X3.out.get 0 _ _ _ rfl).cell 1 _ rfl; have x2 := (X3.out.get 0 _ _ _ rfl).cell 2 _ rfl; have x3 := (X3.out.get 0 _ _ _ rfl).cell 3 _ rfl; have x4 := (X3.out.get 0 _ _ _ rfl).cell 4 _ rfl; have x5 := (X3.out.get 0 _ _ _ rfl).cell 5 _ rfl; have x6 := (X3.out.get 0 _ _ _ rfl).cell 6 _ rfl; have x7 := (X3.out.get 0 _ _ _ rfl).cell 7 _ rfl; have x8 := (X3.out.get 0 _ _ _ rfl).cell 8 _ rfl; have x9 := (X3.out.get 0 _ _ _ rfl).cell 9 _ rfl; have x10 := (X3.out.get 0 _ _ _ rfl).cell 10 _ rfl; have x11 := (X3.out.get 0 _ _ _ rfl).cell 11 _ rfl; have x12 := (X3.out.get 0 _ _ _ rfl).cell 12 _ rfl; have x13 := (X3.out.get 0 _ _ _ rfl).cell 13 _ rfl; have x14 := (X3.out.get 0 _ _ _ rfl).cell 14 _ rfl))
    go_ret
    exact ⟨by first | rfl | simp [*], X3.out.bel⟩
  have d1 : decide (0 ≤ x.sl) = true := decide_eq_true h1
  rw [d1]
  by_cases h2 : x.sl ≤ 1000000
  rotate_left
  · have d2 : decide (x.sl ≤ 1000000) = false := decide_eq_false h2
    rw [d2]
    clear cF
    go_enter Tryz.func15, Tryz.ntmps15
    go_upto_region 1 with (fail)
    have X0 := Lib.hid H0.out.drew
    have s0 := (X0.out.get 0 _ _ _ rfl).sK
    clear HB
    go_region_held3 (fun W => (W.cell? ⟨w.heap.size, 0, none⟩ = some (.int .i64 x.k) ∧ (Go.Proofs.YtcfmifongbapkaaGreatDoor.ldK (.pointer (some ⟨w.heap.size, 0, none⟩))).run Tryz.prog W = .ok (.agg (rcV x)) W)) (first | (with_reducible exact s0) | (with_reducible exact s1) | (with_reducible exact s2))
      (first | (go_at_call 48; ((with_reducible refine (cN _).mono ?_); rintro e v1 ⟨rfl, hb1⟩; have X1 := Lib.hid (X0.out.below hb1); have s1 := (X1.out.get 0 _ _ _ rfl).sK)) | (go_at_call 17; ((with_reducible refine (cS _ X1.out.bel).mono ?_); rintro e v2 ⟨rfl, hb2⟩; have X2 := Lib.hid (X1.out.below hb2); have s2 := (X2.out.get 0 _ _ _ rfl).sK)))
    clear s0 s1 s2 X0 X1 H0
    have x0 := (X2.out.get 0 _ _ _ rfl).cell 0 _ rfl; have x1 := (X2.out.get 0 _ _ _ rfl).cell 1 _ rfl; have x2 := (X2.out.get 0 _ _ _ rfl).cell 2 _ rfl; have x3 := (X2.out.get 0 _ _ _ rfl).cell 3 _ rfl; have x4 := (X2.out.get 0 _ _ _ rfl).cell 4 _ rfl; have x5 := (X2.out.get 0 _ _ _ rfl).cell 5 _ rfl; have x6 := (X2.out.get 0 _ _ _ rfl).cell 6 _ rfl; have x7 := (X2.out.get 0 _ _ _ rfl).cell 7 _ rfl; have x8 := (X2.out.get 0 _ _ _ rfl).cell 8 _ rfl; have x9 := (X2.out.get 0 _ _ _ rfl).cell 9 _ rfl; have x10 := (X2.out.get 0 _ _ _ rfl).cell 10 _ rfl; have x11 := (X2.out.get 0 _ _ _ rfl).cell 11 _ rfl; have x12 := (X2.out.get 0 _ _ _ rfl).cell 12 _ rfl; have x13 := (X2.out.get 0 _ _ _ rfl).cell 13 _ rfl; have x14 := (X2.out.get 0 _ _ _ rfl).cell 14 _ rfl
    go_wp2_with (go_at_call 49; ((with_reducible refine (cB _).mono ?_); rintro e w3 ⟨rfl, hb3⟩; have X3 := Lib.hid (X2.out.below hb3); (clear x0 x1 x2 x3 x4 x5 x6 x7 x8 x9 x10 x11 x12 x13 x14); have x0 := (X3.out.get 0 _ _ _ rfl).cell 0 _ rfl; have x1 := (X3.out.get 0 _ _ _ rfl).cell 1 _ rfl; have x2 := (X3.out.get 0 _ _ _ rfl).cell 2 _ rfl; have x3 := (X3.out.get 0 _ _ _ rfl).cell 3 _ rfl; have x4 := (X3.out.get 0 _ _ _ rfl).cell 4 _ rfl; have x5 := (X3.out.get 0 _ _ _ rfl).cell 5 _ rfl; have x6 := (X3.out.get 0 _ _ _ rfl).cell 6 _ rfl; have x7 := (X3.out.get 0 _ _ _ rfl).cell 7 _ rfl; have x8 := (X3.out.get 0 _ _ _ rfl).cell 8 _ rfl; have x9 := (X3.out.get 0 _ _ _ rfl).cell 9 _ rfl; have x10 := (X3.out.get 0 _ _ _ rfl).cell 10 _ rfl; have x11 := (X3.out.get 0 _ _ _ rfl).cell 11 _ rfl; have x12 := (X3.out.get 0 _ _ _ rfl).cell 12 _ rfl; have x13 := (X3.out.get 0 _ _ _ rfl).cell 13 _ rfl; have x14 := (X3.out.get 0 _ _ _ rfl).cell 14 _ rfl))
    go_ret
    exact ⟨by first | rfl | simp [*], X3.out.bel⟩
  have d2 : decide (x.sl ≤ 1000000) = true := decide_eq_true h2
  rw [d2]
  cases FB
  · 
    go_enter Tryz.func15, Tryz.ntmps15
    go_upto_region 1 with (fail)
    have X0 := Lib.hid H0.out.drew
    have s0 := (X0.out.get 0 _ _ _ rfl).sK
    clear HB
    go_region_held3 (fun W => (W.cell? ⟨w.heap.size, 0, none⟩ = some (.int .i64 x.k) ∧ (Go.Proofs.YtcfmifongbapkaaGreatDoor.ldK (.pointer (some ⟨w.heap.size, 0, none⟩))).run Tryz.prog W = .ok (.agg (rcV x)) W)) (first | (with_reducible exact s0) | (with_reducible exact s1) | (with_reducible exact s2))
      (first | (go_at_call 48; ((with_reducible refine (cN _).mono ?_); rintro e v1 ⟨rfl, hb1⟩; have X1 := Lib.hid (X0.out.below hb1); have s1 := (X1.out.get 0 _ _ _ rfl).sK)) | (go_at_call 17; ((with_reducible refine (cS _ X1.out.bel).mono ?_); rintro e v2 ⟨rfl, hb2⟩; have X2 := Lib.hid (X1.out.below hb2); have s2 := (X2.out.get 0 _ _ _ rfl).sK)))
    clear s0 s1 s2 X0 X1 H0
    have x0 := (X2.out.get 0 _ _ _ rfl).cell 0 _ rfl; have x1 := (X2.out.get 0 _ _ _ rfl).cell 1 _ rfl; have x2 := (X2.out.get 0 _ _ _ rfl).cell 2 _ rfl; have x3 := (X2.out.get 0 _ _ _ rfl).cell 3 _ rfl; have x4 := (X2.out.get 0 _ _ _ rfl).cell 4 _ rfl; have x5 := (X2.out.get 0 _ _ _ rfl).cell 5 _ rfl; have x6 := (X2.out.get 0 _ _ _ rfl).cell 6 _ rfl; have x7 := (X2.out.get 0 _ _ _ rfl).cell 7 _ rfl; have x8 := (X2.out.get 0 _ _ _ rfl).cell 8 _ rfl; have x9 := (X2.out.get 0 _ _ _ rfl).cell 9 _ rfl; have x10 := (X2.out.get 0 _ _ _ rfl).cell 10 _ rfl; have x11 := (X2.out.get 0 _ _ _ rfl).cell 11 _ rfl; have x12 := (X2.out.get 0 _ _ _ rfl).cell 12 _ rfl; have x13 := (X2.out.get 0 _ _ _ rfl).cell 13 _ rfl; have x14 := (X2.out.get 0 _ _ _ rfl).cell 14 _ rfl
    go_wp2_with (first | (go_at_call 49; ((with_reducible refine (cB _).mono ?_); rintro e w3 ⟨rfl, hb3⟩; have X3 := Lib.hid (X2.out.below hb3); (clear x0 x1 x2 x3 x4 x5 x6 x7 x8 x9 x10 x11 x12 x13 x14); have x0 := (X3.out.get 0 _ _ _ rfl).cell 0 _ rfl; have x1 := (X3.out.get 0 _ _ _ rfl).cell 1 _ rfl; have x2 := (X3.out.get 0 _ _ _ rfl).cell 2 _ rfl; have x3 := (X3.out.get 0 _ _ _ rfl).cell 3 _ rfl; have x4 := (X3.out.get 0 _ _ _ rfl).cell 4 _ rfl; have x5 := (X3.out.get 0 _ _ _ rfl).cell 5 _ rfl; have x6 := (X3.out.get 0 _ _ _ rfl).cell 6 _ rfl; have x7 := (X3.out.get 0 _ _ _ rfl).cell 7 _ rfl; have x8 := (X3.out.get 0 _ _ _ rfl).cell 8 _ rfl; have x9 := (X3.out.get 0 _ _ _ rfl).cell 9 _ rfl; have x10 := (X3.out.get 0 _ _ _ rfl).cell 10 _ rfl; have x11 := (X3.out.get 0 _ _ _ rfl).cell 11 _ rfl; have x12 := (X3.out.get 0 _ _ _ rfl).cell 12 _ rfl; have x13 := (X3.out.get 0 _ _ _ rfl).cell 13 _ rfl; have x14 := (X3.out.get 0 _ _ _ rfl).cell 14 _ rfl)) | (go_at_call 50; ((with_reducible refine (cF _ X3.out.bel).mono ?_); rintro e w4 ⟨rfl, hb4⟩; have X4 := Lib.hid (X3.out.below hb4); (clear x0 x1 x2 x3 x4 x5 x6 x7 x8 x9 x10 x11 x12 x13 x14); have x0 := (X4.out.get 0 _ _ _ rfl).cell 0 _ rfl; have x1 := (X4.out.get 0 _ _ _ rfl).cell 1 _ rfl; have x2 := (X4.out.get 0 _ _ _ rfl).cell 2 _ rfl; have x3 := (X4.out.get 0 _ _ _ rfl).cell 3 _ rfl; have x4 := (X4.out.get 0 _ _ _ rfl).cell 4 _ rfl; have x5 := (X4.out.get 0 _ _ _ rfl).cell 5 _ rfl; have x6 := (X4.out.get 0 _ _ _ rfl).cell 6 _ rfl; have x7 := (X4.out.get 0 _ _ _ rfl).cell 7 _ rfl; have x8 := (X4.out.get 0 _ _ _ rfl).cell 8 _ rfl; have x9 := (X4.out.get 0 _ _ _ rfl).cell 9 _ rfl; have x10 := (X4.out.get 0 _ _ _ rfl).cell 10 _ rfl; have x11 := (X4.out.get 0 _ _ _ rfl).cell 11 _ rfl; have x12 := (X4.out.get 0 _ _ _ rfl).cell 12 _ rfl; have x13 := (X4.out.get 0 _ _ _ rfl).cell 13 _ rfl; have x14 := (X4.out.get 0 _ _ _ rfl).cell 14 _ rfl)))
    go_ret
    exact ⟨by first | rfl | simp [*], X4.out.bel⟩
  by_cases h3 : x.dn ≤ 59900
  · have d3 : decide (x.dn ≤ 59900) = true := decide_eq_true h3
    have i3 : ((x.dn : Nat) : Int) ≤ 59900 := by omega
    rw [d3]
    go_enter Tryz.func15, Tryz.ntmps15
    go_upto_region 1 with (fail)
    have X0 := Lib.hid H0.out.drew
    have s0 := (X0.out.get 0 _ _ _ rfl).sK
    clear HB
    go_region_held3 (fun W => (W.cell? ⟨w.heap.size, 0, none⟩ = some (.int .i64 x.k) ∧ (Go.Proofs.YtcfmifongbapkaaGreatDoor.ldK (.pointer (some ⟨w.heap.size, 0, none⟩))).run Tryz.prog W = .ok (.agg (rcV x)) W)) (first | (with_reducible exact s0) | (with_reducible exact s1) | (with_reducible exact s2))
      (first | (go_at_call 48; ((with_reducible refine (cN _).mono ?_); rintro e v1 ⟨rfl, hb1⟩; have X1 := Lib.hid (X0.out.below hb1); have s1 := (X1.out.get 0 _ _ _ rfl).sK)) | (go_at_call 17; ((with_reducible refine (cS _ X1.out.bel).mono ?_); rintro e v2 ⟨rfl, hb2⟩; have X2 := Lib.hid (X1.out.below hb2); have s2 := (X2.out.get 0 _ _ _ rfl).sK)))
    clear s0 s1 s2 X0 X1 H0
    have x0 := (X2.out.get 0 _ _ _ rfl).cell 0 _ rfl; have x1 := (X2.out.get 0 _ _ _ rfl).cell 1 _ rfl; have x2 := (X2.out.get 0 _ _ _ rfl).cell 2 _ rfl; have x3 := (X2.out.get 0 _ _ _ rfl).cell 3 _ rfl; have x4 := (X2.out.get 0 _ _ _ rfl).cell 4 _ rfl; have x5 := (X2.out.get 0 _ _ _ rfl).cell 5 _ rfl; have x6 := (X2.out.get 0 _ _ _ rfl).cell 6 _ rfl; have x7 := (X2.out.get 0 _ _ _ rfl).cell 7 _ rfl; have x8 := (X2.out.get 0 _ _ _ rfl).cell 8 _ rfl; have x9 := (X2.out.get 0 _ _ _ rfl).cell 9 _ rfl; have x10 := (X2.out.get 0 _ _ _ rfl).cell 10 _ rfl; have x11 := (X2.out.get 0 _ _ _ rfl).cell 11 _ rfl; have x12 := (X2.out.get 0 _ _ _ rfl).cell 12 _ rfl; have x13 := (X2.out.get 0 _ _ _ rfl).cell 13 _ rfl; have x14 := (X2.out.get 0 _ _ _ rfl).cell 14 _ rfl
    go_wp2_with (first | (go_at_call 49; ((with_reducible refine (cB _).mono ?_); rintro e w3 ⟨rfl, hb3⟩; have X3 := Lib.hid (X2.out.below hb3); (clear x0 x1 x2 x3 x4 x5 x6 x7 x8 x9 x10 x11 x12 x13 x14); have x0 := (X3.out.get 0 _ _ _ rfl).cell 0 _ rfl; have x1 := (X3.out.get 0 _ _ _ rfl).cell 1 _ rfl; have x2 := (X3.out.get 0 _ _ _ rfl).cell 2 _ rfl; have x3 := (X3.out.get 0 _ _ _ rfl).cell 3 _ rfl; have x4 := (X3.out.get 0 _ _ _ rfl).cell 4 _ rfl; have x5 := (X3.out.get 0 _ _ _ rfl).cell 5 _ rfl; have x6 := (X3.out.get 0 _ _ _ rfl).cell 6 _ rfl; have x7 := (X3.out.get 0 _ _ _ rfl).cell 7 _ rfl; have x8 := (X3.out.get 0 _ _ _ rfl).cell 8 _ rfl; have x9 := (X3.out.get 0 _ _ _ rfl).cell 9 _ rfl; have x10 := (X3.out.get 0 _ _ _ rfl).cell 10 _ rfl; have x11 := (X3.out.get 0 _ _ _ rfl).cell 11 _ rfl; have x12 := (X3.out.get 0 _ _ _ rfl).cell 12 _ rfl; have x13 := (X3.out.get 0 _ _ _ rfl).cell 13 _ rfl; have x14 := (X3.out.get 0 _ _ _ rfl).cell 14 _ rfl)) | (go_at_call 50; ((with_reducible refine (cF _ X3.out.bel).mono ?_); rintro e w4 ⟨rfl, hb4⟩; have X4 := Lib.hid (X3.out.below hb4); (clear x0 x1 x2 x3 x4 x5 x6 x7 x8 x9 x10 x11 x12 x13 x14); have x0 := (X4.out.get 0 _ _ _ rfl).cell 0 _ rfl; have x1 := (X4.out.get 0 _ _ _ rfl).cell 1 _ rfl; have x2 := (X4.out.get 0 _ _ _ rfl).cell 2 _ rfl; have x3 := (X4.out.get 0 _ _ _ rfl).cell 3 _ rfl; have x4 := (X4.out.get 0 _ _ _ rfl).cell 4 _ rfl; have x5 := (X4.out.get 0 _ _ _ rfl).cell 5 _ rfl; have x6 := (X4.out.get 0 _ _ _ rfl).cell 6 _ rfl; have x7 := (X4.out.get 0 _ _ _ rfl).cell 7 _ rfl; have x8 := (X4.out.get 0 _ _ _ rfl).cell 8 _ rfl; have x9 := (X4.out.get 0 _ _ _ rfl).cell 9 _ rfl; have x10 := (X4.out.get 0 _ _ _ rfl).cell 10 _ rfl; have x11 := (X4.out.get 0 _ _ _ rfl).cell 11 _ rfl; have x12 := (X4.out.get 0 _ _ _ rfl).cell 12 _ rfl; have x13 := (X4.out.get 0 _ _ _ rfl).cell 13 _ rfl; have x14 := (X4.out.get 0 _ _ _ rfl).cell 14 _ rfl)))
    go_ret
    exact ⟨by first | rfl | simp [*], X4.out.bel⟩
  · have d3 : decide (x.dn ≤ 59900) = false := decide_eq_false h3
    have i3 : ¬ ((x.dn : Nat) : Int) ≤ 59900 := by omega
    rw [d3]
    go_enter Tryz.func15, Tryz.ntmps15
    go_upto_region 1 with (fail)
    have X0 := Lib.hid H0.out.drew
    have s0 := (X0.out.get 0 _ _ _ rfl).sK
    clear HB
    go_region_held3 (fun W => (W.cell? ⟨w.heap.size, 0, none⟩ = some (.int .i64 x.k) ∧ (Go.Proofs.YtcfmifongbapkaaGreatDoor.ldK (.pointer (some ⟨w.heap.size, 0, none⟩))).run Tryz.prog W = .ok (.agg (rcV x)) W)) (first | (with_reducible exact s0) | (with_reducible exact s1) | (with_reducible exact s2))
      (first | (go_at_call 48; ((with_reducible refine (cN _).mono ?_); rintro e v1 ⟨rfl, hb1⟩; have X1 := Lib.hid (X0.out.below hb1); have s1 := (X1.out.get 0 _ _ _ rfl).sK)) | (go_at_call 17; ((with_reducible refine (cS _ X1.out.bel).mono ?_); rintro e v2 ⟨rfl, hb2⟩; have X2 := Lib.hid (X1.out.below hb2); have s2 := (X2.out.get 0 _ _ _ rfl).sK)))
    clear s0 s1 s2 X0 X1 H0
    have x0 := (X2.out.get 0 _ _ _ rfl).cell 0 _ rfl; have x1 := (X2.out.get 0 _ _ _ rfl).cell 1 _ rfl; have x2 := (X2.out.get 0 _ _ _ rfl).cell 2 _ rfl; have x3 := (X2.out.get 0 _ _ _ rfl).cell 3 _ rfl; have x4 := (X2.out.get 0 _ _ _ rfl).cell 4 _ rfl; have x5 := (X2.out.get 0 _ _ _ rfl).cell 5 _ rfl; have x6 := (X2.out.get 0 _ _ _ rfl).cell 6 _ rfl; have x7 := (X2.out.get 0 _ _ _ rfl).cell 7 _ rfl; have x8 := (X2.out.get 0 _ _ _ rfl).cell 8 _ rfl; have x9 := (X2.out.get 0 _ _ _ rfl).cell 9 _ rfl; have x10 := (X2.out.get 0 _ _ _ rfl).cell 10 _ rfl; have x11 := (X2.out.get 0 _ _ _ rfl).cell 11 _ rfl; have x12 := (X2.out.get 0 _ _ _ rfl).cell 12 _ rfl; have x13 := (X2.out.get 0 _ _ _ rfl).cell 13 _ rfl; have x14 := (X2.out.get 0 _ _ _ rfl).cell 14 _ rfl
    go_wp2_with (first | (go_at_call 49; ((with_reducible refine (cB _).mono ?_); rintro e w3 ⟨rfl, hb3⟩; have X3 := Lib.hid (X2.out.below hb3); (clear x0 x1 x2 x3 x4 x5 x6 x7 x8 x9 x10 x11 x12 x13 x14); have x0 := (X3.out.get 0 _ _ _ rfl).cell 0 _ rfl; have x1 := (X3.out.get 0 _ _ _ rfl).cell 1 _ rfl; have x2 := (X3.out.get 0 _ _ _ rfl).cell 2 _ rfl; have x3 := (X3.out.get 0 _ _ _ rfl).cell 3 _ rfl; have x4 := (X3.out.get 0 _ _ _ rfl).cell 4 _ rfl; have x5 := (X3.out.get 0 _ _ _ rfl).cell 5 _ rfl; have x6 := (X3.out.get 0 _ _ _ rfl).cell 6 _ rfl; have x7 := (X3.out.get 0 _ _ _ rfl).cell 7 _ rfl; have x8 := (X3.out.get 0 _ _ _ rfl).cell 8 _ rfl; have x9 := (X3.out.get 0 _ _ _ rfl).cell 9 _ rfl; have x10 := (X3.out.get 0 _ _ _ rfl).cell 10 _ rfl; have x11 := (X3.out.get 0 _ _ _ rfl).cell 11 _ rfl; have x12 := (X3.out.get 0 _ _ _ rfl).cell 12 _ rfl; have x13 := (X3.out.get 0 _ _ _ rfl).cell 13 _ rfl; have x14 := (X3.out.get 0 _ _ _ rfl).cell 14 _ rfl)) | (go_at_call 50; ((with_reducible refine (cF _ X3.out.bel).mono ?_); rintro e w4 ⟨rfl, hb4⟩; have X4 := Lib.hid (X3.out.below hb4); (clear x0 x1 x2 x3 x4 x5 x6 x7 x8 x9 x10 x11 x12 x13 x14); have x0 := (X4.out.get 0 _ _ _ rfl).cell 0 _ rfl; have x1 := (X4.out.get 0 _ _ _ rfl).cell 1 _ rfl; have x2 := (X4.out.get 0 _ _ _ rfl).cell 2 _ rfl; have x3 := (X4.out.get 0 _ _ _ rfl).cell 3 _ rfl; have x4 := (X4.out.get 0 _ _ _ rfl).cell 4 _ rfl; have x5 := (X4.out.get 0 _ _ _ rfl).cell 5 _ rfl; have x6 := (X4.out.get 0 _ _ _ rfl).cell 6 _ rfl; have x7 := (X4.out.get 0 _ _ _ rfl).cell 7 _ rfl; have x8 := (X4.out.get 0 _ _ _ rfl).cell 8 _ rfl; have x9 := (X4.out.get 0 _ _ _ rfl).cell 9 _ rfl; have x10 := (X4.out.get 0 _ _ _ rfl).cell 10 _ rfl; have x11 := (X4.out.get 0 _ _ _ rfl).cell 11 _ rfl; have x12 := (X4.out.get 0 _ _ _ rfl).cell 12 _ rfl; have x13 := (X4.out.get 0 _ _ _ rfl).cell 13 _ rfl; have x14 := (X4.out.get 0 _ _ _ rfl).cell 14 _ rfl)))
    go_ret
    exact ⟨by first | rfl | simp [*], X4.out.bel⟩
end Go.Proofs.YtcfmifongbapkaaGreatDoor
