
/- Contract of wal.Formed. Conditions: the record's lists lie in memory, and are no longer than a million; the tables of utf8 lie there. New bytes, seen from an earlier world; one byte of a number. No condition. Contracts of ballot.Put and of the document's own. Conditions: what they are handed lies in memory; the round fits its kind. -/
import Derived.Test.YtcfmifongbapkaaGreatDoorQQ
import Derived.Test.YtcfmifongbapkaaGreatDoorQV
import Derived.Test.YtcfmifongbapkaaGreatDoorQX
import Derived.Test.YtcfmifongbapkaaGreatDoorQT
import Derived.Deep.RegionHeld3
import Derived.Test.YtcfmifongbapkaaGreatDoorQA
/- WalFormed -/
namespace Go.Proofs.YtcfmifongbapkaaGreatDoor

open Go.RowKit

set_option linter.unusedVariables false
set_option linter.unusedSimpArgs false

theorem BoxC.sK {w : World} {g : Nat} {x : RcM} (h : BoxC w g (rcV x) 36) : w.cell? ⟨g, 0, none⟩ = some (.int .i64 x.k) ∧ (Go.Proofs.YtcfmifongbapkaaGreatDoor.ldK (.pointer (some ⟨g, 0, none⟩))).run Tryz.prog w = .ok (.agg (rcV x)) w := ⟨h.cell 0 _ rfl, h.ldK⟩
theorem RcF.named {x : RcM} (h : RcF x) : RcF (namedR x) := by
  unfold namedR
  split
  · exact ⟨Nat.zero_le _, Nat.zero_le _, Nat.zero_le _⟩
  · split
    · exact ⟨h.n, h.m, Nat.zero_le _⟩
    · split
      · exact ⟨h.n, h.m, Nat.zero_le _⟩
      · split
        · exact ⟨Nat.zero_le _, Nat.zero_le _, h.dn⟩
        · exact RcF.zero
set_option maxRecDepth 100000 in
set_option maxHeartbeats 4000000 in
theorem wFormed_any (x : RcM) (L : RcL) (w : World) (h : RcAt w x L) (hf : RcF x) (hU : Tabs w) :
    Calls Tryz.prog 15 #[.agg (rcV x)] w (Says w (formR (rcT x L))) := by
  rw [form_rec h]
  have H0 := Lib.hid ((Boxs.start w).more (rcV x) 36)
  have cN := fun W => wNamed_any x W
  have cS : ∀ W, Below w.heap.size w W → Calls Tryz.prog 17 #[.agg (rcV x), .agg (rcV (namedR x))] W (Says W (cleanR x L)) := fun W hW => wSame_any x (namedR x) L (namedRL x L) W (h.later hW) (h.named.later hW) hf hf.named
  have cB := fun W => bFormed_any ((x.br : Nat) : Int) x.bn W
  have cF : ∀ W, Below w.heap.size w W → Calls Tryz.prog 50 #[.agg (cmV x.cm)] W (Says W (formCm (cmT x.cm L.rs L.ws))) := fun W hW => kFormed_any x.cm L.rs L.ws W (h.cm.later hW) hf.n hf.m (hU.below hW)
  have ldX := Lib.hid (H0.out.get 0 _ _ _ rfl).ldK
  have x0 := (H0.out.get 0 _ _ _ rfl).cell 0 _ rfl
  clear h hf hU
  unfold chainR
  generalize cleanR x L = CB at *
  generalize namedR x = y at *
  generalize formCm (cmT x.cm L.rs L.ws) = FB at *
  cases q0 : (x.k == 0)
  rotate_left
  · obtain ⟨k, br, bn, sl, cm, da, dn, dc⟩ := x
    obtain rfl : k = 0 := by simpa using q0
    clear cN cS cB cF q0
    go_enter Tryz.func15, Tryz.ntmps15
    go_upto_region 1 with (fail)
    have X0 := Lib.hid H0.out.drew
    have s0 := (X0.out.get 0 _ _ _ rfl).cell 0 (.int .i64 0) rfl
    clear x0 ldX
    go_region_with (fail)
    all_goals (go_wp2; go_ret; exact ⟨rfl, X0.out.bel⟩)
  have HB := H0.out.get 0 _ _ _ rfl
  clear x0 ldX
  cases CB
  · clear cB cF
    go_enter Tryz.func15, Tryz.ntmps15
    go_upto_region 1 with (fail)
    have X0 := Lib.hid H0.out.drew
    have s0 := (X0.out.get 0 _ _ _ rfl).sK
    clear HB
    go_region_held3 (fun W => (W.cell? ⟨w.heap.size, 0, none⟩ = some (.int .i64 x.k) ∧ (Go.Proofs.YtcfmifongbapkaaGreatDoor.ldK (.pointer (some ⟨w.heap.size, 0, none⟩))).run Tryz.prog W = .ok (.agg (rcV x)) W)) (first | (with_reducible exact s0) | (with_reducible exact s1) | (with_reducible exact s2))
      (first | (go_at_call 48; ((with_reducible refine (cN _).mono ?_); rintro e v1 ⟨rfl, hb1⟩; have X1 := Lib.hid (X0.out.below hb1); have s1 := (X1.out.get 0 _ _ _ rfl).sK)) | (go_at_call 17; ((with_reducible refine (cS _ X1.out.bel).mono ?_); rintro e v2 ⟨rfl, hb2⟩; have X2 := Lib.hid (X1.out.below hb2); have s2 := (X2.out.get 0 _ _ _ rfl).sK)))
    clear s0 s1 s2 X0 X1 H0
    go_wp2
    go_ret
    exact ⟨by first | rfl | simp [*], X2.out.bel⟩
  cases hB : formB x.bn
  · rw [hB] at cB
    clear cF
    go_enter Tryz.func15, Tryz.ntmps15
    go_upto_region 1 with (fail)
    have X0 := Lib.hid H0.out.drew
    have s0 := (X0.out.get 0 _ _ _ rfl).sK
    clear HB
    go_region_held3 (fun W => (W.cell? ⟨w.heap.size, 0, none⟩ = some (.int .i64 x.k) ∧ (Go.Proofs.YtcfmifongbapkaaGreatDoor.ldK (.pointer (some ⟨w.heap.size, 0, none⟩))).run Tryz.prog W = .ok (.agg (rcV x)) W)) (first | (with_reducible exact s0) | (with_reducible exact s1) | (with_reducible exact s2))
      (first | (go_at_call 48; ((with_reducible refine (cN _).mono ?_); rintro e v1 ⟨rfl, hb1⟩; have X1 := Lib.hid (X0.out.below hb1); have s1 := (X1.out.get 0 _ _ _ rfl).sK)) | (go_at_call 17; ((with_reducible refine (cS _ X1.out.bel).mono ?_); rintro e v2 ⟨rfl, hb2⟩; have X2 := Lib.hid (X1.out.below hb2); have s2 := (X2.out.get 0 _ _ _ rfl).sK)))
    clear s0 s1 s2 X0 X1 H0
    have x0 := (X2.out.get 0 _ _ _ rfl).cell 0 _ rfl; have x1 := (X2.out.get 0 _ _ _ rfl).cell 1 _ rfl; have x2 := (X2.out.get 0 _ _ _ rfl).cell 2 _ rfl; have x3 := (X2.out.get 0 _ _ _ rfl).cell 3 _ rfl; have x4 := (X2.out.get 0 _ _ _ rfl).cell 4 _ rfl; have x5 := (X2.out.get 0 _ _ _ rfl).cell 5 _ rfl; have x6 := (X2.out.get 0 _ _ _ rfl).cell 6 _ rfl; have x7 := (X2.out.get 0 _ _ _ rfl).cell 7 _ rfl; have x8 := (X2.out.get 0 _ _ _ rfl).cell 8 _ rfl; have x9 := (X2.out.get 0 _ _ _ rfl).cell 9 _ rfl; have x10 := (X2.out.get 0 _ _ _ rfl).cell 10 _ rfl; have x11 := (X2.out.get 0 _ _ _ rfl).cell 11 _ rfl; have x12 := (X2.out.get 0 _ _ _ rfl).cell 12 _ rfl; have x13 := (X2.out.get 0 _ _ _ rfl).cell 13 _ rfl; have x14 := (X2.out.get 0 _ _ _ rfl).cell 14 _ rfl
    go_wp2_with (go_at_call 49; ((with_reducible refine (cB _).mono ?_); rintro e w3 ⟨rfl, hb3⟩; have X3 := Lib.hid (X2.out.below hb3); (clear x0 x1 x2 x3 x4 x5 x6 x7 x8 x9 x10 x11 x12 x13 x14); have x0 := (X3.out.get 0 _ _ _ rfl).cell 0 _ rfl; have x1 := (X3.out.get 0 _ _ _ rfl).cell 1 _ rfl; have x2 := (X3.out.get 0 _ _ _ rfl).cell 2 _ rfl; have x3 := (X3.out.get 0 _ _ _ rfl).cell 3 _ rfl; have x4 := (X3.out.get 0 _ _ _ rfl).cell 4 _ rfl; have x5 := (X3.out.get 0 _ _ _ rfl).cell 5 _ rfl; have x6 := (X3.out.get 0 _ _ _ rfl).cell 6 _ rfl; have x7 := (X3.out.get 0 _ _ _ rfl).cell 7 _ rfl; have x8 := (X3.out.get 0 _ _ _ rfl).cell 8 _ rfl; have x9 := (X3.out.get 0 _ _ _ rfl).cell 9 _ rfl; have x10 := (X3.out.get 0 _ _ _ rfl).cell 10 _ rfl; have x11 := (X3.out.get 0 _ _ _ rfl).cell 11 _ rfl; have x12 := (X3.out.get 0 _ _ _ rfl).cell 12 _ rfl; have x13 := (X3.out.get 0 _ _ _ rfl).cell 13 _ rfl; have x14 := (X3.out.get 0 _ _ _ rfl).cell 14 _ rfl))
    go_ret
    exact ⟨by first | rfl | simp [*], X3.out.bel⟩
  rw [hB] at cB
  by_cases h1 : 0 ≤ x.sl
  rotate_left
  · have d1 : decide (0 ≤ x.sl) = false := decide_eq_false h1
    rw [d1]
    clear cF
    go_enter Tryz.func15, Tryz.ntmps15
    go_upto_region 1 with (fail)
    have X0 := Lib.hid H0.out.drew
    have s0 := (X0.out.get 0 _ _ _ rfl).sK
    clear HB
    go_region_held3 (fun W => (W.cell? ⟨w.heap.size, 0, none⟩ = some (.int .i64 x.k) ∧ (Go.Proofs.YtcfmifongbapkaaGreatDoor.ldK (.pointer (some ⟨w.heap.size, 0, none⟩))).run Tryz.prog W = .ok (.agg (rcV x)) W)) (first | (with_reducible exact s0) | (with_reducible exact s1) | (with_reducible exact s2))
      (first | (go_at_call 48; ((with_reducible refine (cN _).mono ?_); rintro e v1 ⟨rfl, hb1⟩; have X1 := Lib.hid (X0.out.below hb1); have s1 := (X1.out.get 0 _ _ _ rfl).sK)) | (go_at_call 17; ((with_reducible refine (cS _ X1.out.bel).mono ?_); rintro e v2 ⟨rfl, hb2⟩; have X2 := Lib.hid (X1.out.below hb2); have s2 := (X2.out.get 0 _ _ _ rfl).sK)))
    clear s0 s1 s2 X0 X1 H0
    have x0 := (X2.out.get 0 _ _ _ rfl).cell 0 _ rfl; have x1 := (X2.out.get 0 _ _ _ rfl).cell 1 _ rfl; have x2 := (X2.out.get 0 _ _ _ rfl).cell 2 _ rfl; have x3 := (X2.out.get 0 _ _ _ rfl).cell 3 _ rfl; have x4 := (X2.out.get 0 _ _ _ rfl).cell 4 _ rfl; have x5 := (X2.out.get 0 _ _ _ rfl).cell 5 _ rfl; have x6 := (X2.out.get 0 _ _ _ rfl).cell 6 _ rfl; have x7 := (X2.out.get 0 _ _ _ rfl).cell 7 _ rfl; have x8 := (X2.out.get 0 _ _ _ rfl).cell 8 _ rfl; have x9 := (X2.out.get 0 _ _ _ rfl).cell 9 _ rfl; have x10 := (X2.out.get 0 _ _ _ rfl).cell 10 _ rfl; have x11 := (X2.out.get 0 _ _ _ rfl).cell 11 _ rfl; have x12 := (X2.out.get 0 _ _ _ rfl).cell 12 _ rfl; have x13 := (X2.out.get 0 _ _ _ rfl).cell 13 _ rfl; have x14 := (X2.out.get 0 _ _ _ rfl).cell 14 _ rfl
    go_wp2_with (go_at_call 49; ((with_reducible refine (cB _).mono ?_); rintro e w3 ⟨rfl, hb3⟩; have X3 := Lib.hid (X2.out.below hb3); (clear x0 x1 x2 x3 x4 x5 x6 x7 x8 x9 x10 x11 x12 x13 x14); have x0 := (X3.out.get 0 _ _ _ rfl).cell 0 _ rfl; have x1 := (X3.out.get 0 _ _ _ rfl).cell 1 _ rfl; have x2 := (X3.out.get 0 _ _ _ rfl).cell 2 _ rfl; have x3 := (X3.out.get 0 _ _ _ rfl).cell 3 _ rfl; have x4 := (X3.out.get 0 _ _ _ rfl).cell 4 _ rfl; have x5 := (X3.out.get 0 _ _ _ rfl).cell 5 _ rfl; have x6 := (X3.out.get 0 _ _ _ rfl).cell 6 _ rfl; have x7 := (X3.out.get 0 _ _ _ rfl).cell 7 _ rfl; have x8 := (X3.out.get 0 _ _ _ rfl).cell 8 _ rfl; have x9 := (X3.out.get 0 _ _ _ rfl).cell 9 _ rfl; have x10 := (X3.out.get 0 _ _ _ rfl).cell 10 _ rfl; have x11 := (X3.out.get 0 _ _ _ rfl).cell 11 _ rfl; have x12 := (X3.out.get 0 _ _ _ rfl).cell 12 _ rfl; have x13 := (X3.out.get 0 _ _ _ rfl).cell 13 _ rfl; have x14 := (X3.out.get 0 _ _ _ rfl).cell 14 _ rfl))
    go_ret
    exact ⟨by first | rfl | simp [*], X3.out.bel⟩
  have d1 : decide (0 ≤ x.sl) = true := decide_eq_true h1
  rw [d1]
  by_cases h2 : x.sl ≤ 1000000
  rotate_left
  · have d2 : decide (x.sl ≤ 1000000) = false := decide_eq_false h2
    rw [d2]
    clear cF
    go_enter Tryz.func15, Tryz.ntmps15
    go_upto_region 1 with (fail)
    have X0 := Lib.hid H0.out.drew
    have s0 := (X0.out.get 0 _ _ _ rfl).sK
    clear HB
    go_region_held3 (fun W => (W.cell? ⟨w.heap.size, 0, none⟩ = some (.int .i64 x.k) ∧ (Go.Proofs.YtcfmifongbapkaaGreatDoor.ldK (.pointer (some ⟨w.heap.size, 0, none⟩))).run Tryz.prog W = .ok (.agg (rcV x)) W)) (first | (with_reducible exact s0) | (with_reducible exact s1) | (with_reducible exact s2))
      (first | (go_at_call 48; ((with_reducible refine (cN _).mono ?_); rintro e v1 ⟨rfl, hb1⟩; have X1 := Lib.hid (X0.out.below hb1); have s1 := (X1.out.get 0 _ _ _ rfl).sK)) | (go_at_call 17; ((with_reducible refine (cS _ X1.out.bel).mono ?_); rintro e v2 ⟨rfl, hb2⟩; have X2 := Lib.hid (X1.out.below hb2); have s2 := (X2.out.get 0 _ _ _ rfl).sK)))
    clear s0 s1 s2 X0 X1 H0
    have x0 := (X2.out.get 0 _ _ _ rfl).cell 0 _ rfl; have x1 := (X2.out.get 0 _ _ _ rfl).cell 1 _ rfl; have x2 := (X2.out.get 0 _ _ _ rfl).cell 2 _ rfl; have x3 := (X2.out.get 0 _ _ _ rfl).cell 3 _ rfl; have x4 := (X2.out.get 0 _ _ _ rfl).cell 4 _ rfl; have x5 := (X2.out.get 0 _ _ _ rfl).cell 5 _ rfl; have x6 := (X2.out.get 0 _ _ _ rfl).cell 6 _ rfl; have x7 := (X2.out.get 0 _ _ _ rfl).cell 7 _ rfl; have x8 := (X2.out.get 0 _ _ _ rfl).cell 8 _ rfl; have x9 := (X2.out.get 0 _ _ _ rfl).cell 9 _ rfl; have x10 := (X2.out.get 0 _ _ _ rfl).cell 10 _ rfl; have x11 := (X2.out.get 0 _ _ _ rfl).cell 11 _ rfl; have x12 := (X2.out.get 0 _ _ _ rfl).cell 12 _ rfl; have x13 := (X2.out.get 0 _ _ _ rfl).cell 13 _ rfl; have x14 := (X2.out.get 0 _ _ _ rfl).cell 14 _ rfl
    go_wp2_with (go_at_call 49; ((with_reducible refine (cB _).mono ?_); rintro e w3 ⟨rfl, hb3⟩; have X3 := Lib.hid (X2.out.below hb3); (clear x0 x1 x2 x3 x4 x5 x6 x7 x8 x9 x10 x11 x12 x13 x14); have x0 := (X3.out.get 0 _ _ _ rfl).cell 0 _ rfl; have x1 := (X3.out.get 0 _ _ _ rfl).cell 1 _ rfl; have x2 := (X3.out.get 0 _ _ _ rfl).cell 2 _ rfl; have x3 := (X3.out.get 0 _ _ _ rfl).cell 3 _ rfl; have x4 := (X3.out.get 0 _ _ _ rfl).cell 4 _ rfl; have x5 := (X3.out.get 0 _ _ _ rfl).cell 5 _ rfl; have x6 := (X3.out.get 0 _ _ _ rfl).cell 6 _ rfl; have x7 := (X3.out.get 0 _ _ _ rfl).cell 7 _ rfl; have x8 := (X3.out.get 0 _ _ _ rfl).cell 8 _ rfl; have x9 := (X3.out.get 0 _ _ _ rfl).cell 9 _ rfl; have x10 := (X3.out.get 0 _ _ _ rfl).cell 10 _ rfl; have x11 := (X3.out.get 0 _ _ _ rfl).cell 11 _ rfl; have x12 := (X3.out.get 0 _ _ _ rfl).cell 12 _ rfl; have x13 := (X3.out.get 0 _ _ _ rfl).cell 13 _ rfl; have x14 := (X3.out.get 0 _ _ _ rfl).cell 14 _ rfl))
    go_ret
    exact ⟨by first | rfl | simp [*], X3.out.bel⟩
  have d2 : decide (x.sl ≤ 1000000) = true := decide_eq_true h2
  rw [d2]
  cases FB
  · 
    go_enter Tryz.func15, Tryz.ntmps15
    go_upto_region 1 with (fail)
    have X0 := Lib.hid H0.out.drew
    have s0 := (X0.out.get 0 _ _ _ rfl).sK
    clear HB
    go_region_held3 (fun W => (W.cell? ⟨w.heap.size, 0, none⟩ = some (.int .i64 x.k) ∧ (Go.Proofs.YtcfmifongbapkaaGreatDoor.ldK (.pointer (some ⟨w.heap.size, 0, none⟩))).run Tryz.prog W = .ok (.agg (rcV x)) W)) (first | (with_reducible exact s0) | (with_reducible exact s1) | (with_reducible exact s2))
      (first | (go_at_call 48; ((with_reducible refine (cN _).mono ?_); rintro e v1 ⟨rfl, hb1⟩; have X1 := Lib.hid (X0.out.below hb1); have s1 := (X1.out.get 0 _ _ _ rfl).sK)) | (go_at_call 17; ((with_reducible refine (cS _ X1.out.bel).mono ?_); rintro e v2 ⟨rfl, hb2⟩; have X2 := Lib.hid (X1.out.below hb2); have s2 := (X2.out.get 0 _ _ _ rfl).sK)))
    clear s0 s1 s2 X0 X1 H0
    have x0 := (X2.out.get 0 _ _ _ rfl).cell 0 _ rfl; have x1 := (X2.out.get 0 _ _ _ rfl).cell 1 _ rfl; have x2 := (X2.out.get 0 _ _ _ rfl).cell 2 _ rfl; have x3 := (X2.out.get 0 _ _ _ rfl).cell 3 _ rfl; have x4 := (X2.out.get 0 _ _ _ rfl).cell 4 _ rfl; have x5 := (X2.out.get 0 _ _ _ rfl).cell 5 _ rfl; have x6 := (X2.out.get 0 _ _ _ rfl).cell 6 _ rfl; have x7 := (X2.out.get 0 _ _ _ rfl).cell 7 _ rfl; have x8 := (X2.out.get 0 _ _ _ rfl).cell 8 _ rfl; have x9 := (X2.out.get 0 _ _ _ rfl).cell 9 _ rfl; have x10 := (X2.out.get 0 _ _ _ rfl).cell 10 _ rfl; have x11 := (X2.out.get 0 _ _ _ rfl).cell 11 _ rfl; have x12 := (X2.out.get 0 _ _ _ rfl).cell 12 _ rfl; have x13 := (X2.out.get 0 _ _ _ rfl).cell 13 _ rfl; have x14 := (X2.out.get 0 _ _ _ rfl).cell 14 _ rfl
    go_wp2_with (first | (go_at_call 49; ((with_reducible refine (cB _).mono ?_); rintro e w3 ⟨rfl, hb3⟩; have X3 := Lib.hid (X2.out.below hb3); (clear x0 x1 x2 x3 x4 x5 x6 x7 x8 x9 x10 x11 x12 x13 x14); have x0 := (X3.out.get 0 _ _ _ rfl).cell 0 _ rfl; have x1 := (X3.out.get 0 _ _ _ rfl).cell 1 _ rfl; have x2 := (X3.out.get 0 _ _ _ rfl).cell 2 _ rfl; have x3 := (X3.out.get 0 _ _ _ rfl).cell 3 _ rfl; have x4 := (X3.out.get 0 _ _ _ rfl).cell 4 _ rfl; have x5 := (X3.out.get 0 _ _ _ rfl).cell 5 _ rfl; have x6 := (X3.out.get 0 _ _ _ rfl).cell 6 _ rfl; have x7 := (X3.out.get 0 _ _ _ rfl).cell 7 _ rfl; have x8 := (X3.out.get 0 _ _ _ rfl).cell 8 _ rfl; have x9 := (X3.out.get 0 _ _ _ rfl).cell 9 _ rfl; have x10 := (X3.out.get 0 _ _ _ rfl).cell 10 _ rfl; have x11 := (X3.out.get 0 _ _ _ rfl).cell 11 _ rfl; have x12 := (X3.out.get 0 _ _ _ rfl).cell 12 _ rfl; have x13 := (X3.out.get 0 _ _ _ rfl).cell 13 _ rfl; have x14 := (X3.out.get 0 _ _ _ rfl).cell 14 _ rfl)) | (go_at_call 50; ((with_reducible refine (cF _ X3.out.bel).mono ?_); rintro e w4 ⟨rfl, hb4⟩; have X4 := Lib.hid (X3.out.below hb4); (clear x0 x1 x2 x3 x4 x5 x6 x7 x8 x9 x10 x11 x12 x13 x14); have x0 := (X4.out.get 0 _ _ _ rfl).cell 0 _ rfl; have x1 := (X4.out.get 0 _ _ _ rfl).cell 1 _ rfl; have x2 := (X4.out.get 0 _ _ _ rfl).cell 2 _ rfl; have x3 := (X4.out.get 0 _ _ _ rfl).cell 3 _ rfl; have x4 := (X4.out.get 0 _ _ _ rfl).cell 4 _ rfl; have x5 := (X4.out.get 0 _ _ _ rfl).cell 5 _ rfl; have x6 := (X4.out.get 0 _ _ _ rfl).cell 6 _ rfl; have x7 := (X4.out.get 0 _ _ _ rfl).cell 7 _ rfl; have x8 := (X4.out.get 0 _ _ _ rfl).cell 8 _ rfl; have x9 := (X4.out.get 0 _ _ _ rfl).cell 9 _ rfl; have x10 := (X4.out.get 0 _ _ _ rfl).cell 10 _ rfl; have x11 := (X4.out.get 0 _ _ _ rfl).cell 11 _ rfl; have x12 := (X4.out.get 0 _ _ _ rfl).cell 12 _ rfl; have x13 := (X4.out.get 0 _ _ _ rfl).cell 13 _ rfl; have x14 := (X4.out.get 0 _ _ _ rfl).cell 14 _ rfl)))
    go_ret
    exact ⟨by first | rfl | simp [*], X4.out.bel⟩
  by_cases h3 : x.dn ≤ 59900
  · have d3 : decide (x.dn ≤ 59900) = true := decide_eq_true h3
    have i3 : ((x.dn : Nat) : Int) ≤ 59900 := by omega
    rw [d3]
    go_enter Tryz.func15, Tryz.ntmps15
    go_upto_region 1 with (fail)
    have X0 := Lib.hid H0.out.drew
    have s0 := (X0.out.get 0 _ _ _ rfl).sK
    clear HB
    go_region_held3 (fun W => (W.cell? ⟨w.heap.size, 0, none⟩ = some (.int .i64 x.k) ∧ (Go.Proofs.YtcfmifongbapkaaGreatDoor.ldK (.pointer (some ⟨w.heap.size, 0, none⟩))).run Tryz.prog W = .ok (.agg (rcV x)) W)) (first | (with_reducible exact s0) | (with_reducible exact s1) | (with_reducible exact s2))
      (first | (go_at_call 48; ((with_reducible refine (cN _).mono ?_); rintro e v1 ⟨rfl, hb1⟩; have X1 := Lib.hid (X0.out.below hb1); have s1 := (X1.out.get 0 _ _ _ rfl).sK)) | (go_at_call 17; ((with_reducible refine (cS _ X1.out.bel).mono ?_); rintro e v2 ⟨rfl, hb2⟩; have X2 := Lib.hid (X1.out.below hb2); have s2 := (X2.out.get 0 _ _ _ rfl).sK)))
    clear s0 s1 s2 X0 X1 H0
    have x0 := (X2.out.get 0 _ _ _ rfl).cell 0 _ rfl; have x1 := (X2.out.get 0 _ _ _ rfl).cell 1 _ rfl; have x2 := (X2.out.get 0 _ _ _ rfl).cell 2 _ rfl; have x3 := (X2.out.get 0 _ _ _ rfl).cell 3 _ rfl; have x4 := (X2.out.get 0 _ _ _ rfl).cell 4 _ rfl; have x5 := (X2.out.get 0 _ _ _ rfl).cell 5 _ rfl; have x6 := (X2.out.get 0 _ _ _ rfl).cell 6 _ rfl; have x7 := (X2.out.get 0 _ _ _ rfl).cell 7 _ rfl; have x8 := (X2.out.get 0 _ _ _ rfl).cell 8 _ rfl; have x9 := (X2.out.get 0 _ _ _ rfl).cell 9 _ rfl; have x10 := (X2.out.get 0 _ _ _ rfl).cell 10 _ rfl; have x11 := (X2.out.get 0 _ _ _ rfl).cell 11 _ rfl; have x12 := (X2.out.get 0 _ _ _ rfl).cell 12 _ rfl; have x13 := (X2.out.get 0 _ _ _ rfl).cell 13 _ rfl; have x14 := (X2.out.get 0 _ _ _ rfl).cell 14 _ rfl
    go_wp2_with (first | (go_at_call 49; ((with_reducible refine (cB _).mono ?_); rintro e w3 ⟨rfl, hb3⟩; have X3 := Lib.hid (X2.out.below hb3); (clear x0 x1 x2 x3 x4 x5 x6 x7 x8 x9 x10 x11 x12 x13 x14); have x0 := (X3.out.get 0 _ _ _ rfl).cell 0 _ rfl; have x1 := (X3.out.get 0 _ _ _ rfl).cell 1 _ rfl; have x2 := (X3.out.get 0 _ _ _ rfl).cell 2 _ rfl; have x3 := (X3.out.get 0 _ _ _ rfl).cell 3 _ rfl; have x4 := (X3.out.get 0 _ _ _ rfl).cell 4 _ rfl; have x5 := (X3.out.get 0 _ _ _ rfl).cell 5 _ rfl; have x6 := (X3.out.get 0 _ _ _ rfl).cell 6 _ rfl; have x7 := (X3.out.get 0 _ _ _ rfl).cell 7 _ rfl; have x8 := (X3.out.get 0 _ _ _ rfl).cell 8 _ rfl; have x9 := (X3.out.get 0 _ _ _ rfl).cell 9 _ rfl; have x10 := (X3.out.get 0 _ _ _ rfl).cell 10 _ rfl; have x11 := (X3.out.get 0 _ _ _ rfl).cell 11 _ rfl; have x12 := (X3.out.get 0 _ _ _ rfl).cell 12 _ rfl; have x13 := (X3.out.get 0 _ _ _ rfl).cell 13 _ rfl; have x14 := (X3.out.get 0 _ _ _ rfl).cell 14 _ rfl)) | (go_at_call 50; ((with_reducible refine (cF _ X3.out.bel).mono ?_); rintro e w4 ⟨rfl, hb4⟩; have X4 := Lib.hid (X3.out.below hb4); (clear x0 x1 x2 x3 x4 x5 x6 x7 x8 x9 x10 x11 x12 x13 x14); have x0 := (X4.out.get 0 _ _ _ rfl).cell 0 _ rfl; have x1 := (X4.out.get 0 _ _ _ rfl).cell 1 _ rfl; have x2 := (X4.out.get 0 _ _ _ rfl).cell 2 _ rfl; have x3 := (X4.out.get 0 _ _ _ rfl).cell 3 _ rfl; have x4 := (X4.out.get 0 _ _ _ rfl).cell 4 _ rfl; have x5 := (X4.out.get 0 _ _ _ rfl).cell 5 _ rfl; have x6 := (X4.out.get 0 _ _ _ rfl).cell 6 _ rfl; have x7 := (X4.out.get 0 _ _ _ rfl).cell 7 _ rfl; have x8 := (X4.out.get 0 _ _ _ rfl).cell 8 _ rfl; have x9 := (X4.out.get 0 _ _ _ rfl).cell 9 _ rfl; have x10 := (X4.out.get 0 _ _ _ rfl).cell 10 _ rfl; have x11 := (X4.out.get 0 _ _ _ rfl).cell 11 _ rfl; have x12 := (X4.out.get 0 _ _ _ rfl).cell 12 _ rfl; have x13 := (X4.out.get 0 _ _ _ rfl).cell 13 _ rfl; have x14 := (X4.out.get 0 _ _ _ rfl).cell 14 _ rfl)))
    go_ret
    exact ⟨by first | rfl | simp [*], X4.out.bel⟩
  · have d3 : decide (x.dn ≤ 59900) = false := decide_eq_false h3
    have i3 : ¬ ((x.dn : Nat) : Int) ≤ 59900 := by omega
    rw [d3]
    go_enter Tryz.func15, Tryz.ntmps15
    go_upto_region 1 with (fail)
    have X0 := Lib.hid H0.out.drew
    have s0 := (X0.out.get 0 _ _ _ rfl).sK
    clear HB
    go_region_held3 (fun W => (W.cell? ⟨w.heap.size, 0, none⟩ = some (.int .i64 x.k) ∧ (Go.Proofs.YtcfmifongbapkaaGreatDoor.ldK (.pointer (some ⟨w.heap.size, 0, none⟩))).run Tryz.prog W = .ok (.agg (rcV x)) W)) (first | (with_reducible exact s0) | (with_reducible exact s1) | (with_reducible exact s2))
      (first | (go_at_call 48; ((with_reducible refine (cN _).mono ?_); rintro e v1 ⟨rfl, hb1⟩; have X1 := Lib.hid (X0.out.below hb1); have s1 := (X1.out.get 0 _ _ _ rfl).sK)) | (go_at_call 17; ((with_reducible refine (cS _ X1.out.bel).mono ?_); rintro e v2 ⟨rfl, hb2⟩; have X2 := Lib.hid (X1.out.below hb2); have s2 := (X2.out.get 0 _ _ _ rfl).sK)))
    clear s0 s1 s2 X0 X1 H0
    have x0 := (X2.out.get 0 _ _ _ rfl).cell 0 _ rfl; have x1 := (X2.out.get 0 _ _ _ rfl).cell 1 _ rfl; have x2 := (X2.out.get 0 _ _ _ rfl).cell 2 _ rfl; have x3 := (X2.out.get 0 _ _ _ rfl).cell 3 _ rfl; have x4 := (X2.out.get 0 _ _ _ rfl).cell 4 _ rfl; have x5 := (X2.out.get 0 _ _ _ rfl).cell 5 _ rfl; have x6 := (X2.out.get 0 _ _ _ rfl).cell 6 _ rfl; have x7 := (X2.out.get 0 _ _ _ rfl).cell 7 _ rfl; have x8 := (X2.out.get 0 _ _ _ rfl).cell 8 _ rfl; have x9 := (X2.out.get 0 _ _ _ rfl).cell 9 _ rfl; have x10 := (X2.out.get 0 _ _ _ rfl).cell 10 _ rfl; have x11 := (X2.out.get 0 _ _ _ rfl).cell 11 _ rfl; have x12 := (X2.out.get 0 _ _ _ rfl).cell 12 _ rfl; have x13 := (X2.out.get 0 _ _ _ rfl).cell 13 _ rfl; have x14 := (X2.out.get 0 _ _ _ rfl).cell 14 _ rfl
    go_wp2_with (first | (go_at_call 49; ((with_reducible refine (cB _).mono ?_); rintro e w3 ⟨rfl, hb3⟩; have X3 := Lib.hid (X2.out.below hb3); (clear x0 x1 x2 x3 x4 x5 x6 x7 x8 x9 x10 x11 x12 x13 x14); have x0 := (X3.out.get 0 _ _ _ rfl).cell 0 _ rfl; have x1 := (X3.out.get 0 _ _ _ rfl).cell 1 _ rfl; have x2 := (X3.out.get 0 _ _ _ rfl).cell 2 _ rfl; have x3 := (X3.out.get 0 _ _ _ rfl).cell 3 _ rfl; have x4 := (X3.out.get 0 _ _ _ rfl).cell 4 _ rfl; have x5 := (X3.out.get 0 _ _ _ rfl).cell 5 _ rfl; have x6 := (X3.out.get 0 _ _ _ rfl).cell 6 _ rfl; have x7 := (X3.out.get 0 _ _ _ rfl).cell 7 _ rfl; have x8 := (X3.out.get 0 _ _ _ rfl).cell 8 _ rfl; have x9 := (X3.out.get 0 _ _ _ rfl).cell 9 _ rfl; have x10 := (X3.out.get 0 _ _ _ rfl).cell 10 _ rfl; have x11 := (X3.out.get 0 _ _ _ rfl).cell 11 _ rfl; have x12 := (X3.out.get 0 _ _ _ rfl).cell 12 _ rfl; have x13 := (X3.out.get 0 _ _ _ rfl).cell 13 _ rfl; have x14 := (X3.out.get 0 _ _ _ rfl).cell 14 _ rfl)) | (go_at_call 50; ((with_reducible refine (cF _ X3.out.bel).mono ?_); rintro e w4 ⟨rfl, hb4⟩; have X4 := Lib.hid (X3.out.below hb4); (clear x0 x1 x2 x3 x4 x5 x6 x7 x8 x9 x10 x11 x12 x13 x14); have x0 := (X4.out.get 0 _ _ _ rfl).cell 0 _ rfl; have x1 := (X4.out.get 0 _ _ _ rfl).cell 1 _ rfl; have x2 := (X4.out.get 0 _ _ _ rfl).cell 2 _ rfl; have x3 := (X4.out.get 0 _ _ _ rfl).cell 3 _ rfl; have x4 := (X4.out.get 0 _ _ _ rfl).cell 4 _ rfl; have x5 := (X4.out.get 0 _ _ _ rfl).cell 5 _ rfl; have x6 := (X4.out.get 0 _ _ _ rfl).cell 6 _ rfl; have x7 := (X4.out.get 0 _ _ _ rfl).cell 7 _ rfl; have x8 := (X4.out.get 0 _ _ _ rfl).cell 8 _ rfl; have x9 := (X4.out.get 0 _ _ _ rfl).cell 9 _ rfl; have x10 := (X4.out.get 0 _ _ _ rfl).cell 10 _ rfl; have x11 := (X4.out.get 0 _ _ _ rfl).cell 11 _ rfl; have x12 := (X4.out.get 0 _ _ _ rfl).cell 12 _ rfl; have x13 := (X4.out.get 0 _ _ _ rfl).cell 13 _ rfl; have x14 := (X4.out.get 0 _ _ _ rfl).cell 14 _ rfl)))
    go_ret
    exact ⟨by first | rfl | simp [*], X4.out.bel⟩
end Go.Proofs.YtcfmifongbapkaaGreatDoor

/- CodeNew -/
namespace Go.Proofs.YtcfmifongbapkaaGreatDoor

open Go.RowKit

theorem NewB.on {w w1 w' : World} {l : List UInt8} {e : Ending} (h : NewB w1 l e w') (hb : Below w.heap.size w w1) : NewB w l e w' := by
  obtain ⟨a, n, c, rfl, ho, hb'⟩ := h
  exact ⟨a, n, c, rfl, own_base ho hb.size, hb.trans (hb'.mono hb.size)⟩
theorem NewB.cast {w w' : World} {l m : List UInt8} {e : Ending} (h : NewB w l e w') (hl : l = m) : NewB w m e w' := hl ▸ h
theorem PutIn.below {w wr w1 : World} {v : Value} {n : Nat} {l : List UInt8} (h : PutIn w wr v n l) (hb : Below wr.heap.size wr w1) : PutIn w w1 v n l := ⟨own_below h.1 hb, h.2.trans (hb.mono h.2.size)⟩
/-- What a call answered, while a row was made. -/
theorem PutIn.call {w wr w1 : World} {a : Option Addr} {n c : Nat} {l : List UInt8} (hb : Below w.heap.size w wr) (ho : w1.ownsRow wr.heap.size 5 1 (.slice a n c) n (bcells l)) (hb1 : Below wr.heap.size wr w1) : PutIn w w1 (.slice a n c) n l := ⟨own_base ho hb.size, hb.trans (hb1.mono hb.size)⟩
theorem PutIn.bat {w wr : World} {a : Option Addr} {n c : Nat} {l : List UInt8} (h : PutIn w wr (.slice a n c) n l) : BAt wr wr.heap.size a n l := BAt.of_own h.1
theorem PutIn.bel {w wr : World} {v : Value} {n : Nat} {l : List UInt8} (h : PutIn w wr v n l) : Below w.heap.size w wr := h.2
theorem PutIn.own {w wr : World} {v : Value} {n : Nat} {l : List UInt8} (h : PutIn w wr v n l) : wr.ownsRow w.heap.size 5 1 v n (bcells l) := h.1
theorem PutIn.form {w wr : World} {v : Value} {n : Nat} {l : List UInt8} (h : PutIn w wr v n l) : ∃ a c, v = .slice a n c := by
  obtain ⟨a, c, h1, _⟩ := own_form h.1
  exact ⟨a, c, h1⟩
theorem byte_nat (n : Nat) (h : n < 256) : ((n : Nat) : Int) = ((UInt8.ofNat n).toNat : Int) := by
  have h8 : (UInt8.ofNat n).toNat = n % 256 := UInt8.toNat_ofNat'
  rw [h8]; omega
theorem byte_mod (n : Nat) : ((n : Nat) : Int) % 256 = ((UInt8.ofNat n).toNat : Int) := by
  have h8 : (UInt8.ofNat n).toNat = n % 256 := UInt8.toNat_ofNat'
  rw [h8]; omega
theorem put_one (n : Nat) : putB n 1 = [UInt8.ofNat n] := by simp [putB]
end Go.Proofs.YtcfmifongbapkaaGreatDoor

/- BallotPut -/
namespace Go.Proofs.YtcfmifongbapkaaGreatDoor

open Go.RowKit

set_option linter.unusedVariables false

theorem node_byte (n : Int) : n % 256 = ((UInt8.ofNat (n % 256).toNat).toNat : Int) := by
  have h8 : (UInt8.ofNat (n % 256).toNat).toNat = (n % 256).toNat % 256 := UInt8.toNat_ofNat'
  rw [h8]; omega
theorem node_put (n : Int) : putB (n % 18446744073709551616).toNat 1 = [UInt8.ofNat (n % 256).toNat] := by
  have e : UInt8.ofNat (n % 18446744073709551616).toNat = UInt8.ofNat (n % 256).toNat := by
    apply UInt8.toNat_inj.1
    rw [UInt8.toNat_ofNat', UInt8.toNat_ofNat']; omega
  simp [putB, e]
theorem put4_any (a : Option Addr) (m c r : Nat) (l : List UInt8) (w : World) (hl : BAt w w.heap.size a m l) (hlen : m ≤ 1099511627776) (hr : r < 4294967296) :
    Calls Tryz.prog 34 #[.slice a m c, .int .u64 (IntKind.u64.wrap (r : Int)), .int .i64 4] w (NewB w (l ++ putB r 4)) := by
  have e : IntKind.u64.wrap (r : Int) = r := by rw [IntKind.wrap_u64]; omega
  rw [e]
  exact put_any a m c r 4 l w hl hlen (by omega)
theorem put1_any (a : Option Addr) (m c : Nat) (n : Int) (l : List UInt8) (w : World) (hl : BAt w w.heap.size a m l) (hlen : m ≤ 1099511627776) :
    Calls Tryz.prog 34 #[.slice a m c, .int .u64 (IntKind.u64.wrap n), .int .i64 1] w (NewB w (l ++ [UInt8.ofNat (n % 256).toNat])) := by
  have h := put_any a m c (n % 18446744073709551616).toNat 1 l w hl hlen (by omega)
  have e : (((n % 18446744073709551616).toNat : Nat) : Int) = IntKind.u64.wrap n := by rw [IntKind.wrap_u64]; omega
  rw [e] at h
  exact h.mono fun _ _ h => h.cast (by rw [show held 1 = 1 from rfl, node_put])

set_option maxHeartbeats 1000000 in
theorem bPut_any (a : Option Addr) (m c r : Nat) (n : Int) (l : List UInt8) (w : World) (hl : BAt w w.heap.size a m l) (hlen : m ≤ 1099511627000) (hr : r < 4294967296) :
    Calls Tryz.prog 35 #[.slice a m c, .agg #[.int .u32 r, .int .i64 n]] w (NewB w (l ++ balB r n)) := by
  have H0 := Lib.hid ((Boxs.start w).more #[.int .u32 r, .int .i64 n] 24)
  have HD := Lib.hid H0.out.drew
  have HL : Hid (BAt (w.alloc (.cells #[.int .u32 r, .int .i64 n] 24)).drew (w.alloc (.cells #[.int .u32 r, .int .i64 n] 24)).drew.heap.size a m l) := (hl.below HD.out.bel (Nat.le_refl _)).more HD.out.bel.size
  have HLL := Lib.hid hl.len
  have e64 : (r : Int) % 18446744073709551616 = r := by omega
  have HM1 : Hid (m ≤ 1099511627776) := by unfold Hid; omega
  have HM2 : Hid (∀ q : Nat, (l ++ putB r 4).length = q → q ≤ 1099511627776) := fun q hq => by have := HLL.out; simp [putB_len] at hq; omega
  have HR := Lib.hid hr
  have s0 := (H0.out.get 0 _ _ _ rfl).two
  clear hl
  go_enter Tryz.func35, Tryz.ntmps35
  go_upto_region 1 with (fail)
  go_region_held3 (fun w' => w'.cell? ⟨w.heap.size, 0, none⟩ = some (.int .u32 r) ∧ w'.cell? ⟨w.heap.size, 1, none⟩ = some (.int .i64 n)) (first | exact s0 | exact s1 | exact s2)
    (first | (go_at_call 34; ((with_reducible refine (put4_any a m c r l _ HL.out HM1.out HR.out).mono ?_); rintro e w1 ⟨a1, n1, c1, rfl, ho1, hb1⟩; have X1 := Lib.hid (HD.out.below hb1); have s1 := (X1.out.get 0 _ _ _ rfl).two; have L1 := Lib.hid (BAt.of_own ho1); have L2 := Lib.hid (HM2.out _ (own_len ho1)))) | (go_at_call 34; ((with_reducible refine (put1_any a1 n1 c1 n _ _ L1.out L2.out).mono ?_); intro e w2 h2; have N2 := Lib.hid (NewB.on h2 X1.out.bel); obtain ⟨a2, n2, c2, rfl, ho2, hb2⟩ := h2; have X2 := Lib.hid (X1.out.below hb2); have s2 := (X2.out.get 0 _ _ _ rfl).two)))
  go_wp2
  go_ret
  exact N2.out.cast (by rw [balB, List.append_assoc])

set_option maxHeartbeats 1000000 in
theorem rPut_any (a : Option Addr) (m c r : Nat) (n : Int) (l : List UInt8) (w : World) (hl : BAt w w.heap.size a m l) (hlen : m ≤ 1099511627000) (hr : r < 4294967296) :
    Calls Tryz.prog 39 #[.slice a m c, .agg #[.int .u32 r, .int .i64 n]] w (NewB w (l ++ balB r n)) := by
  obtain ⟨i0, hi, hz0, hz1, hz2⟩ := info_parts Tryz.info5
  have H0 := Lib.hid ((Boxs.start w).more #[.int .u32 r, .int .i64 n] 44)
  have HL : Hid (BAt (w.alloc (.cells #[.int .u32 r, .int .i64 n] 44)) (w.alloc (.cells #[.int .u32 r, .int .i64 n] 44)).heap.size a m l) := (hl.below H0.out.bel (Nat.le_refl _)).more H0.out.bel.size
  have HLL := Lib.hid hl.len
  have cP : ∀ W, BAt W W.heap.size a m l → Calls Tryz.prog 40 #[.slice a m c, .int .u64 r, .int .i64 4] W (NewB W (l ++ putB r 4)) := fun W h => refPut_any a m c r 4 l W h (by omega) (by omega) (by omega) (by omega)
  have e64 : (r : Int) % 18446744073709551616 = r := by omega
  clear hl
  go_enter Tryz.func39, Tryz.ntmps39
  go_upto_region 2 with (go_at_call 40; ((with_reducible refine (cP _ HL.out).mono ?_); rintro e w1 ⟨a1, n1, c1, rfl, ho1, hb1⟩; have X1 := Lib.hid (H0.out.below hb1)))
  obtain ⟨s0, s1⟩ := (X1.out.get 0 _ _ _ rfl).two
  have hn1 : n1 = m + 4 := by have := own_len ho1; simp [putB_len, HLL.out] at this; omega
  have ho1' := own_base ho1 H0.out.bel.size
  have PI : PutIn w w1 (.slice a1 n1 c1) n1 (l ++ putB r 4) := ⟨ho1', X1.out.bel⟩
  have hsz := X1.out.bel.size
  go_wp2_with (at_builtin; (refine wpList_append_bytes _ rfl _ _ 34 rfl w.heap.size 5 i0 Tryz.underlying34 hi hz0 hz1 hz2 _ n1 (l ++ putB r 4) rfl (ho1'.alloc _) (w1.heap.size + 1) (some ⟨w1.heap.size, 0, none⟩) 1 [UInt8.ofNat (n % 256).toNat] 1 rfl (BAt.one _ _ _ _ (node_byte n)) (by omega) (by simp; omega) ?_; intro v2 w2 ho2 hg2; have R := PI.next ho2 hg2; clear ho2 hg2))
  go_ret
  exact (R.cast (by rw [balB, List.append_assoc])).out
end Go.Proofs.YtcfmifongbapkaaGreatDoor
