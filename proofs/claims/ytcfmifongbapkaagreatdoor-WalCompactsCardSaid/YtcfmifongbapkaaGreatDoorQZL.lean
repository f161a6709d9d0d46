/- Contracts of a law's plain, few and front, and of the document's Few; a record of a list is loaded. Conditions: the records lie in memory. Contract of a law's front. Conditions: the records lie in memory. Contracts of a law's few. Conditions: the records lie in memory. What the laws' disks come to: plain mathematics. No condition. -/
import Derived.Test.YtcfmifongbapkaaGreatDoorQS
import Derived.Test.YtcfmifongbapkaaGreatDoorQY
import Derived.Test.YtcfmifongbapkaaGreatDoorQV
import Derived.Laws.ResultCell
import Derived.Deep.RegionHeld3
import Derived.Test.YtcfmifongbapkaaGreatDoorQZK
/- WalLaw -/
namespace Go.Proofs.YtcfmifongbapkaaGreatDoor

open Go.RowKit

set_option linter.unusedVariables false
set_option linter.unusedSimpArgs false

theorem cells_ldK {w : World} {b off : Nat} {x : RcM} (h : ∀ j u, (rcV x).toList[j]? = some u → w.cell? ⟨b, off + j, none⟩ = some u) : (Go.Proofs.YtcfmifongbapkaaGreatDoor.ldK (.pointer (some ⟨b, off, none⟩))).run Tryz.prog w = .ok (.agg (rcV x)) w := by
  have x0 : w.cell? ⟨b, off, none⟩ = some (.int .i64 x.k) := h 0 _ rfl
  have x1 := h 1 _ rfl; have x2 := h 2 _ rfl; have x3 := h 3 _ rfl; have x4 := h 4 _ rfl; have x5 := h 5 _ rfl; have x6 := h 6 _ rfl; have x7 := h 7 _ rfl; have x8 := h 8 _ rfl; have x9 := h 9 _ rfl; have x10 := h 10 _ rfl; have x11 := h 11 _ rfl; have x12 := h 12 _ rfl; have x13 := h 13 _ rfl; have x14 := h 14 _ rfl
  show (Instr.loadAt 36 (.pointer (some ⟨b, off, none⟩))).run Tryz.prog w = _
  simp only [Instr.loadAt, Instr.sureAddr, Sem.run_bind, Sem.run_pure, Result.andThen_ok]
  simp [go_sem, Tryz.underlying36, x0, x1, x2, x3, x4, x5, x6, x7, x8, x9, x10, x11, x12, x13, x14]
/-- Records that came in: they lie in memory. -/
structure RcsRaw (W : World) (a : Option Addr) (n : Nat) (L : List RE) : Prop where
  len : L.length = n
  row : RowAt W W.heap.size a n 15 (L.flatMap rcC)
  all : ∀ z ∈ L, RcAt W z.1 z.2
section

variable {W W' : World} {n : Nat} {a : Option Addr} {L : List RE}

theorem RcsRaw.later (h : RcsRaw W a n L) (hb : Below W.heap.size W W') : RcsRaw W' a n L := ⟨h.len, (h.row.below hb (Nat.le_refl _)).more hb.size, fun z hz => (h.all z hz).later hb⟩
theorem RcsAt.raw (h : RcsAt W a n L) : RcsRaw W a n L := ⟨h.len, h.row, fun z hz => (h.all z hz).1⟩
theorem RcsRaw.at_ (h : RcsRaw W a n L) {i : Nat} (hi : i < L.length) : ∃ b0 off, a = some ⟨b0, off, none⟩ ∧ b0 < W.heap.size ∧ ∀ W', Below W.heap.size W W' → (Go.Proofs.YtcfmifongbapkaaGreatDoor.ldK (.pointer (some ⟨b0, off + i * 15, none⟩))).run Tryz.prog W' = .ok (.agg (rcV (L[i]'hi).1)) W' ∧ W'.cell? ⟨b0, off + i * 15 + 14, none⟩ = some (.slice (L[i]'hi).1.da (L[i]'hi).1.dn (L[i]'hi).1.dc) := by
  obtain ⟨b0, off, ha, hb, hc⟩ := h.row.addr (by have := h.len; omega)
  have key : ∀ W', Below W.heap.size W W' → ∀ (j : Nat) (u : Value), (rcV (L[i]'hi).1).toList[j]? = some u → W'.cell? ⟨b0, off + i * 15 + j, none⟩ = some u := fun W' hW j u hu => by
    have hj : j < 15 := (List.getElem?_eq_some_iff.1 hu).1
    have h1 := hc (i * 15 + j) u (by rw [flat_get rcC 15 rcC_len L i j hi hj]; exact hu)
    rw [Nat.add_assoc]
    exact (World.cell?_of_block (hW.block b0 hb)).trans h1
  exact ⟨b0, off, ha, hb, fun W' hW => ⟨cells_ldK (key W' hW), key W' hW 14 _ rfl⟩⟩
end

set_option maxRecDepth 100000 in
set_option maxHeartbeats 2000000 in
theorem plain_any (x : RcM) (w : World) : Calls Tryz.prog 12 #[.agg (rcV x)] w fun e w' => e = .returned (.agg (rcV x)) ∧ Below w.heap.size w w' := by
  have H0 := Lib.hid (((Boxs.start w).more (rcV x) 36).more zeroRV 47)
  have hs : (w.alloc (.cells (rcV x) 36)).heap.size = w.heap.size + 1 := by simp
  rw [hs] at H0
  clear hs
  have hl : ∀ b ∈ [(w.heap.size, rcV x, 36)], b.1 ≠ w.heap.size + 1 := by simp
  go_enter Tryz.func12, Tryz.ntmps12
  go_upto_region 1 with (fail)
  generalize (w.alloc (.cells (rcV x) 36)).alloc (.cells zeroRV 47) = W0 at *
  have x0 := (H0.out.get 1 _ _ _ rfl).cell 0 _ rfl; have x1 := (H0.out.get 1 _ _ _ rfl).cell 1 _ rfl; have x2 := (H0.out.get 1 _ _ _ rfl).cell 2 _ rfl; have x3 := (H0.out.get 1 _ _ _ rfl).cell 3 _ rfl; have x4 := (H0.out.get 1 _ _ _ rfl).cell 4 _ rfl; have x5 := (H0.out.get 1 _ _ _ rfl).cell 5 _ rfl; have x6 := (H0.out.get 1 _ _ _ rfl).cell 6 _ rfl; have x7 := (H0.out.get 1 _ _ _ rfl).cell 7 _ rfl; have x8 := (H0.out.get 1 _ _ _ rfl).cell 8 _ rfl; have x9 := (H0.out.get 1 _ _ _ rfl).cell 9 _ rfl; have x10 := (H0.out.get 1 _ _ _ rfl).cell 10 _ rfl; have x11 := (H0.out.get 1 _ _ _ rfl).cell 11 _ rfl; have x12 := (H0.out.get 1 _ _ _ rfl).cell 12 _ rfl; have x13 := (H0.out.get 1 _ _ _ rfl).cell 13 _ rfl; have x14 := (H0.out.get 1 _ _ _ rfl).cell 14 _ rfl
  have HZ : BoxC W0 (w.heap.size + 1) (rcV zeroR) 47 := H0.out.get 0 _ _ _ rfl
  go_wp2_with (refine wpList_store_r rfl _ _ rfl (w.heap.size + 1) x rfl rfl zeroR HZ ?_)
  have F := H0.out.fillK (by omega) hl (rcV x)
  have z0 := (F.get 0 _ _ _ rfl).cell 0 _ rfl; have z1 := (F.get 0 _ _ _ rfl).cell 1 _ rfl; have z2 := (F.get 0 _ _ _ rfl).cell 2 _ rfl; have z3 := (F.get 0 _ _ _ rfl).cell 3 _ rfl; have z4 := (F.get 0 _ _ _ rfl).cell 4 _ rfl; have z5 := (F.get 0 _ _ _ rfl).cell 5 _ rfl; have z6 := (F.get 0 _ _ _ rfl).cell 6 _ rfl; have z7 := (F.get 0 _ _ _ rfl).cell 7 _ rfl; have z8 := (F.get 0 _ _ _ rfl).cell 8 _ rfl; have z9 := (F.get 0 _ _ _ rfl).cell 9 _ rfl; have z10 := (F.get 0 _ _ _ rfl).cell 10 _ rfl; have z11 := (F.get 0 _ _ _ rfl).cell 11 _ rfl; have z12 := (F.get 0 _ _ _ rfl).cell 12 _ rfl; have z13 := (F.get 0 _ _ _ rfl).cell 13 _ rfl; have z14 := (F.get 0 _ _ _ rfl).cell 14 _ rfl
  exact bodyPost_ret (v := .agg (rcV x)) (by simp [results, Tryz.results12, go_sem, z0, z1, z2, z3, z4, z5, z6, z7, z8, z9, z10, z11, z12, z13, z14]) rfl ⟨rfl, F.bel⟩
noncomputable def fewRc (z : RE) : Bool := fewT z.2.rs z.2.ws && decide (z.1.dn ≤ 70000)
theorem fewRc_F {w : World} {z : RE} (h : RcAt w z.1 z.2) (hf : fewRc z = true) : RcF z.1 := by
  unfold fewRc at hf
  simp only [Bool.and_eq_true, decide_eq_true_eq] at hf
  have a1 := fewT_len hf.1
  have b1 := h.cm.tx.lenR
  have b2 := h.cm.tx.lenW
  exact ⟨by omega, by omega, by omega⟩
set_option maxHeartbeats 1000000 in
theorem rFew_rec (x : RcM) (L : RcL) (w : World) (h : RcAt w x L) : Calls Tryz.prog 33 #[.agg (rcV x)] w (Says w (fewRc (x, L))) := by
  have H0 := Lib.hid ((Boxs.start w).more (rcV x) 47)
  have cF := fun W (hW : Below w.heap.size w W) => dFew_any x.cm L.rs L.ws W (h.cm.later hW)
  have x4 := (H0.out.get 0 _ _ _ rfl).cell 4 _ rfl; have x5 := (H0.out.get 0 _ _ _ rfl).cell 5 _ rfl; have x6 := (H0.out.get 0 _ _ _ rfl).cell 6 _ rfl; have x7 := (H0.out.get 0 _ _ _ rfl).cell 7 _ rfl; have x8 := (H0.out.get 0 _ _ _ rfl).cell 8 _ rfl; have x9 := (H0.out.get 0 _ _ _ rfl).cell 9 _ rfl; have x10 := (H0.out.get 0 _ _ _ rfl).cell 10 _ rfl; have x11 := (H0.out.get 0 _ _ _ rfl).cell 11 _ rfl; have x12 := (H0.out.get 0 _ _ _ rfl).cell 12 _ rfl; have x13 := (H0.out.get 0 _ _ _ rfl).cell 13 _ rfl; have x14 := (H0.out.get 0 _ _ _ rfl).cell 14 _ rfl
  unfold fewRc
  clear h
  simp only
  generalize fewT L.rs L.ws = FB at *
  cases FB
  · go_enter Tryz.func33, Tryz.ntmps33
    go_wp2_with (go_at_call 72; ((with_reducible refine (cF _ H0.out.bel).mono ?_); rintro e w1 ⟨rfl, hb1⟩; have H1 := Lib.hid (H0.out.below hb1)))
    go_ret
    exact ⟨rfl, H1.out.bel⟩
  · by_cases hd : x.dn ≤ 70000
    · have e : decide (x.dn ≤ 70000) = true := decide_eq_true hd
      have i1 : ((x.dn : Nat) : Int) ≤ 70000 := by omega
      rw [e]
      go_enter Tryz.func33, Tryz.ntmps33
      go_wp2_with (go_at_call 72; ((with_reducible refine (cF _ H0.out.bel).mono ?_); rintro e w1 ⟨rfl, hb1⟩; have H1 := Lib.hid (H0.out.below hb1); clear x14; have x14 := (H1.out.get 0 _ _ _ rfl).cell 14 _ rfl))
      go_ret
      exact ⟨by first | rfl | simp [*], H1.out.bel⟩
    · have e : decide (x.dn ≤ 70000) = false := decide_eq_false hd
      have i1 : ¬ ((x.dn : Nat) : Int) ≤ 70000 := by omega
      rw [e]
      go_enter Tryz.func33, Tryz.ntmps33
      go_wp2_with (go_at_call 72; ((with_reducible refine (cF _ H0.out.bel).mono ?_); rintro e w1 ⟨rfl, hb1⟩; have H1 := Lib.hid (H0.out.below hb1); clear x14; have x14 := (H1.out.get 0 _ _ _ rfl).cell 14 _ rfl))
      go_ret
      exact ⟨by first | rfl | simp [*], H1.out.bel⟩
end Go.Proofs.YtcfmifongbapkaaGreatDoor

/- WalFront -/
namespace Go.Proofs.YtcfmifongbapkaaGreatDoor

open Go.RowKit

set_option linter.unusedVariables false
set_option linter.unusedSimpArgs false

/-- Are the first ones of a list, at least so many, just these? -/
noncomputable def frontB (L L' : List RE) (m : Int) : Bool := decide (m ≤ (L.length : Int)) && (decide (L.length ≤ L'.length) && eqB (rcS L) ((rcS L').take L.length))
theorem front_step {xs ys : List Rc} {i : Nat} (h : xs.take i = ys.take i) (h1 : i < xs.length) (h2 : i < ys.length) (he : xs[i] = ys[i]) : xs.take (i + 1) = ys.take (i + 1) := by
  rw [List.take_succ_eq_append_getElem h1, List.take_succ_eq_append_getElem h2, h, he]
theorem front_bad {xs ys : List Rc} {i : Nat} (h1 : i < xs.length) (h2 : i < ys.length) (he : ¬ xs[i] = ys[i]) : eqB xs (ys.take xs.length) = false := eqB_no fun e => he (by
  have h3 : i < (ys.take xs.length).length := by rw [List.length_take]; omega
  have : xs[i] = (ys.take xs.length)[i] := by simp only [← e]
  rw [this, List.getElem_take])
set_option maxRecDepth 100000 in
set_option maxHeartbeats 4000000 in
theorem front_any (a a' : Option Addr) (n n' c c' : Nat) (L L' : List RE) (m : Int) (w : World) (h : RcsAt w a n L) (h' : RcsAt w a' n' L') (hnc : n ≤ c) (hcm : c ≤ maxLen) (hnc' : n' ≤ c') (hcm' : c' ≤ maxLen) :
    Calls Tryz.prog 30 #[.slice a n c, .slice a' n' c', .int .i64 m] w (Says w (frontB L L' m)) := by
  have hln := h.len
  have hln' := h'.len
  unfold maxLen at hcm hcm'
  unfold frontB
  rw [hln]
  have H := Lib.hid h
  have H' := Lib.hid h'
  clear h h'
  by_cases hm : m ≤ (n : Int)
  rotate_left
  · rw [decide_eq_false hm]
    have i1 : (n : Int) < m := by omega
    go_enter Tryz.func30, Tryz.ntmps30
    go_wp2
    go_ret
    exact ⟨rfl, Below.refl _ _⟩
  rw [decide_eq_true hm]
  have i1 : ¬ (n : Int) < m := by omega
  by_cases hn : n ≤ L'.length
  rotate_left
  · rw [decide_eq_false hn]
    have i2 : (n' : Int) < (n : Int) := by omega
    go_enter Tryz.func30, Tryz.ntmps30
    go_wp2
    go_ret
    exact ⟨rfl, Below.refl _ _⟩
  rw [decide_eq_true hn, Bool.true_and, Bool.true_and]
  have i2 : ¬ (n' : Int) < (n : Int) := by omega
  go_enter Tryz.func30, Tryz.ntmps30
  go_wp2_with (fail)
  go_loopw [7] (fun y wr => ∃ i : Nat, y = .int .i64 i ∧ i ≤ L.length ∧ (rcS L).take i = (rcS L').take i ∧ Below w.heap.size w wr) (fun y _ => L.length - (intOf y).toNat)
  case atStart => exact ⟨0, rfl, Nat.zero_le _, rfl, Below.refl _ _⟩
  case round =>
    obtain ⟨i, rfl, hi, hT, hB⟩ := hrel
    have BR := Lib.hid hB
    have TT := Lib.hid hT
    clear hB hT i1 i2
    by_cases h1 : i < L.length
    · have i1 : (i : Int) < (n : Int) := by omega
      have h2 : i < L'.length := by omega
      have k1 : i < n := by omega
      have k2 : i < n' := by omega
      obtain ⟨b0, off, rfl, hb0, LD0⟩ := H.out.raw.at_ h1
      obtain ⟨b1, off1, rfl, hb1, LD1⟩ := H'.out.raw.at_ h2
      have hX := H.out.all _ (List.getElem_mem h1)
      have hX' := H'.out.all _ (List.getElem_mem h2)
      have e1 : (rcS L)[i]'(by rw [rcS_len]; exact h1) = rcT L[i].1 L[i].2 := by simp [rcS]
      have e2 : (rcS L')[i]'(by rw [rcS_len]; exact h2) = rcT L'[i].1 L'[i].2 := by simp [rcS]
      have LD : Hid (∀ W, Below w.heap.size w W → (Go.Proofs.YtcfmifongbapkaaGreatDoor.ldK (.pointer (some ⟨b0, off + i * 15, none⟩))).run Tryz.prog W = .ok (.agg (rcV L[i].1)) W ∧ (Go.Proofs.YtcfmifongbapkaaGreatDoor.ldK (.pointer (some ⟨b1, off1 + i * 15, none⟩))).run Tryz.prog W = .ok (.agg (rcV L'[i].1)) W) := fun W hW => ⟨(LD0 W hW).1, (LD1 W hW).1⟩
      have YES : Hid (sameR L[i].1 L'[i].1 L[i].2 L'[i].2 = true → (rcS L).take (i + 1) = (rcS L').take (i + 1)) := fun hs => front_step TT.out (by rw [rcS_len]; exact h1) (by rw [rcS_len]; exact h2) (by rw [e1, e2]; exact (sameR_iff _ _ _ _).1 hs)
      have NO : Hid (sameR L[i].1 L'[i].1 L[i].2 L'[i].2 = false → eqB (rcS L) ((rcS L').take n) = false) := fun hs => by
        have h3 := front_bad (xs := rcS L) (ys := rcS L') (i := i) (by rw [rcS_len]; exact h1) (by rw [rcS_len]; exact h2) (by
          rw [e1, e2]
          intro e
          rw [(sameR_iff _ _ _ _).2 e] at hs; cases hs)
        rw [rcS_len, hln] at h3; exact h3
      have cP1 := fun W => plain_any L[i].1 W
      have cP2 := fun W => plain_any L'[i].1 W
      have cS : ∀ W, Below w.heap.size w W → Calls Tryz.prog 18 #[.agg (rcV L[i].1), .agg (rcV L'[i].1)] W (Says W (sameR L[i].1 L'[i].1 L[i].2 L'[i].2)) := fun W hW => rSameR_any _ _ _ _ W (hX.1.later hW) (hX'.1.later hW) hX.2 hX'.2
      clear LD0 LD1 hX hX' e1 e2 TT
      generalize L[i] = z at *
      generalize L'[i] = z' at *
      cases hs : sameR z.1 z'.1 z.2 z'.2
      · rw [hs] at cS
        have N1 := Lib.hid (NO.out hs)
        clear hs NO YES
        go_upto_region 6 with (fail)
        have X0 : Hid (Below w.heap.size w wr.drew) := below_drewN 1 BR.out
        have s0 := LD.out _ X0.out
        go_region_held3 (fun W => ((Go.Proofs.YtcfmifongbapkaaGreatDoor.ldK (.pointer (some ⟨b0, off + i * 15, none⟩))).run Tryz.prog W = .ok (.agg (rcV z.1)) W ∧ (Go.Proofs.YtcfmifongbapkaaGreatDoor.ldK (.pointer (some ⟨b1, off1 + i * 15, none⟩))).run Tryz.prog W = .ok (.agg (rcV z'.1)) W)) (first | (with_reducible exact s0) | (with_reducible exact s1) | (with_reducible exact s2) | (with_reducible exact s3))
          (first | (go_at_call 12; ((with_reducible refine (cP1 _).mono ?_); rintro e v1 ⟨rfl, hb1⟩; have X1 := Lib.hid (X0.out.trans (hb1.mono X0.out.size)); have s1 := LD.out _ X1.out; clear hb1)) | (go_at_call 12; ((with_reducible refine (cP2 _).mono ?_); rintro e v2 ⟨rfl, hb2⟩; have X2 := Lib.hid (X1.out.trans (hb2.mono X1.out.size)); have s2 := LD.out _ X2.out; clear hb2)) | (go_at_call 18; ((with_reducible refine (cS _ X2.out).mono ?_); rintro e v3 ⟨rfl, hb3⟩; have X3 := Lib.hid (X2.out.trans (hb3.mono X2.out.size)); have s3 := LD.out _ X3.out; clear hb3)))
        go_wp2
        go_ret
        exact ⟨by rw [N1.out]; rfl, X3.out⟩
      · rw [hs] at cS
        have Y1 := Lib.hid (YES.out hs)
        clear hs NO YES
        go_upto_region 6 with (fail)
        have X0 : Hid (Below w.heap.size w wr.drew) := below_drewN 1 BR.out
        have s0 := LD.out _ X0.out
        go_region_held3 (fun W => ((Go.Proofs.YtcfmifongbapkaaGreatDoor.ldK (.pointer (some ⟨b0, off + i * 15, none⟩))).run Tryz.prog W = .ok (.agg (rcV z.1)) W ∧ (Go.Proofs.YtcfmifongbapkaaGreatDoor.ldK (.pointer (some ⟨b1, off1 + i * 15, none⟩))).run Tryz.prog W = .ok (.agg (rcV z'.1)) W)) (first | (with_reducible exact s0) | (with_reducible exact s1) | (with_reducible exact s2) | (with_reducible exact s3))
          (first | (go_at_call 12; ((with_reducible refine (cP1 _).mono ?_); rintro e v1 ⟨rfl, hb1⟩; have X1 := Lib.hid (X0.out.trans (hb1.mono X0.out.size)); have s1 := LD.out _ X1.out; clear hb1)) | (go_at_call 12; ((with_reducible refine (cP2 _).mono ?_); rintro e v2 ⟨rfl, hb2⟩; have X2 := Lib.hid (X1.out.trans (hb2.mono X1.out.size)); have s2 := LD.out _ X2.out; clear hb2)) | (go_at_call 18; ((with_reducible refine (cS _ X2.out).mono ?_); rintro e v3 ⟨rfl, hb3⟩; have X3 := Lib.hid (X2.out.trans (hb3.mono X2.out.size)); have s3 := LD.out _ X3.out; clear hb3)))
        go_wp2
        go_roundw
        case rel => exact ⟨i + 1, by go_num, h1, Y1.out, X3.out⟩
        case measure => simp [intOf]; omega
    · have i1 : ¬ (i : Int) < (n : Int) := by omega
      obtain rfl : i = L.length := by omega
      have E : Hid (eqB (rcS L) ((rcS L').take n) = true) := by
        unfold Hid
        have h3 := TT.out
        rw [hln] at h3
        rw [← h3, List.take_of_length_le (by rw [rcS_len, hln]; exact Nat.le_refl _), eqB_self]
      go_wp2
      go_ret
      exact ⟨by rw [E.out]; rfl, BR.out⟩
end Go.Proofs.YtcfmifongbapkaaGreatDoor

/- WalFew -/
namespace Go.Proofs.YtcfmifongbapkaaGreatDoor

open Go.RowKit

set_option linter.unusedVariables false
set_option linter.unusedSimpArgs false

/-- Are there few records, of a size that is looked at? -/
noncomputable def fewG : Nat → Nat → List RE → Bool
  | _, 0, _ => true
  | _, _ + 1, [] => true
  | n, k + 1, z :: r => fewRc z && (decide (n + z.1.dn ≤ 200000) && fewG (n + z.1.dn) k r)
theorem fewG_step (n k : Nat) (z : RE) (r : List RE) : fewG n (k + 1) (z :: r) = (fewRc z && (decide (n + z.1.dn ≤ 200000) && fewG (n + z.1.dn) k r)) := rfl
noncomputable def fewL (L : List RE) (m : Int) : Bool := fewG 0 100 L && decide ((L.length : Int) ≤ m)
theorem fewG_all (L : List RE) : ∀ n k, L.length ≤ k → fewG n k L = true → (∀ z ∈ L, fewRc z = true) ∧ n + (L.map fun z => z.1.dn).sum ≤ max n 200000 := by
  induction L with
  | nil => intro n k _ _; exact ⟨(fun z hz => by cases hz), by simp; omega⟩
  | cons z r ih =>
    intro n k hk h
    cases k with
    | zero => simp at hk
    | succ k =>
      unfold fewG at h
      simp only [Bool.and_eq_true, decide_eq_true_eq] at h
      obtain ⟨h1, h2, h3⟩ := h
      obtain ⟨i1, i2⟩ := ih (n + z.1.dn) k (by simpa using hk) h3
      refine ⟨fun y hy => ?_, by rw [List.map_cons, List.sum_cons]; omega⟩
      rcases List.mem_cons.1 hy with rfl | hy
      · exact h1
      · exact i1 y hy
theorem fewL_all {W : World} {a : Option Addr} {n : Nat} {L : List RE} {m : Int} (h : RcsRaw W a n L) (hm : m ≤ 100) (hf : fewL L m = true) : RcsAt W a n L ∧ (L.length : Int) ≤ m ∧ (L.map fun z => z.1.dn).sum ≤ 200000 := by
  unfold fewL at hf
  simp only [Bool.and_eq_true, decide_eq_true_eq] at hf
  obtain ⟨h1, h2⟩ := fewG_all L 0 100 (by omega) hf.1
  exact ⟨⟨h.len, h.row, fun z hz => ⟨h.all z hz, fewRc_F (h.all z hz) (h1 z hz)⟩⟩, hf.2, by omega⟩
set_option maxRecDepth 100000 in
set_option maxHeartbeats 4000000 in
theorem few_any (a : Option Addr) (n c : Nat) (L : List RE) (m : Int) (w : World) (h : RcsRaw w a n L) (hnc : n ≤ c) (hcm : c ≤ maxLen) : Calls Tryz.prog 9 #[.slice a n c, .int .i64 m] w (Says w (fewL L m)) := by
  have hln := h.len
  have hcm' := hcm
  unfold maxLen at hcm'
  unfold fewL
  have H := Lib.hid h
  clear h
  rw [hln]
  go_enter Tryz.func9, Tryz.ntmps9
  go_wp2_with (fail)
  go_loopw [5, 6] (fun x y wr => ∃ s i : Nat, x = .int .i64 s ∧ y = .int .i64 i ∧ i ≤ L.length ∧ i ≤ 100 ∧ s ≤ 200000 ∧ fewG s (100 - i) (L.drop i) = fewG 0 100 L ∧ Below w.heap.size w wr) (fun _ y _ => 100 - (intOf y).toNat)
  case atStart => exact ⟨0, 0, rfl, rfl, Nat.zero_le _, Nat.zero_le _, Nat.zero_le _, rfl, Below.refl _ _⟩
  case round =>
    obtain ⟨s, i, rfl, rfl, hi, hi2, hs, hG, hB⟩ := hrel
    have BR := Lib.hid hB
    clear hB
    by_cases h1 : i < L.length
    · have i1 : (i : Int) < (n : Int) := by omega
      by_cases h2 : i < 100
      · have i2 : (i : Int) < 100 := by omega
        obtain ⟨b0, off, rfl, hb0, LD0⟩ := H.out.at_ h1
        have LD := Lib.hid LD0
        clear LD0
        have ld := (LD.out _ BR.out).1
        have hX := H.out.all _ (List.getElem_mem h1)
        have cF : ∀ W, Below w.heap.size w W → Calls Tryz.prog 33 #[.agg (rcV L[i].1)] W (Says W (fewRc L[i])) := fun W hW => rFew_rec L[i].1 L[i].2 W (hX.later hW)
        have eD : L.drop i = L[i] :: L.drop (i + 1) := List.drop_eq_getElem_cons h1
        have eK : 100 - i = (100 - (i + 1)) + 1 := by omega
        rw [eD, eK] at hG
        rw [fewG_step] at hG
        have hdn : L[i].1.dn ≤ maxLen ∨ True := .inr trivial
        generalize L[i] = z at *
        obtain ⟨⟨k, br, bn, sl, cm, da, dn, dc⟩, Lz⟩ := z
        simp only at ld hG cF LD
        cases hf : fewRc (⟨k, br, bn, sl, cm, da, dn, dc⟩, Lz)
        · rw [hf] at hG cF
          have GG : Hid (fewG 0 100 L = false) := hG.symm.trans rfl
          clear hG hf hX
          go_wp2_with (first | (go_at_call 12; ((with_reducible refine (plain_any _ _).mono ?_); rintro e w1 ⟨rfl, hb1⟩; have B1 := Lib.hid (BR.out.trans (hb1.mono BR.out.size)); clear hb1)) | (go_at_call 33; ((with_reducible refine (cF _ B1.out).mono ?_); rintro e w2 ⟨rfl, hb2⟩; have B2 := Lib.hid (B1.out.trans (hb2.mono B1.out.size)); have c14 := (LD.out _ B2.out).2; clear hb2)))
          go_ret
          exact ⟨by rw [GG.out]; rfl, B2.out⟩
        · rw [hf] at hG cF
          have h7 : dn ≤ 70000 := by
            unfold fewRc at hf
            simp only [Bool.and_eq_true, decide_eq_true_eq] at hf
            exact hf.2
          rw [Bool.true_and] at hG
          by_cases h3 : s + dn ≤ 200000
          · have i3 : ¬ (200000 : Int) < (s : Int) + (dn : Int) := by omega
            rw [decide_eq_true h3, Bool.true_and] at hG
            have GG := Lib.hid hG
            clear hG hf hX
            go_wp2_with (first | (go_at_call 12; ((with_reducible refine (plain_any _ _).mono ?_); rintro e w1 ⟨rfl, hb1⟩; have B1 := Lib.hid (BR.out.trans (hb1.mono BR.out.size)); clear hb1)) | (go_at_call 33; ((with_reducible refine (cF _ B1.out).mono ?_); rintro e w2 ⟨rfl, hb2⟩; have B2 := Lib.hid (B1.out.trans (hb2.mono B1.out.size)); have c14 := (LD.out _ B2.out).2; clear hb2)))
            go_roundw
            case rel => exact ⟨s + dn, i + 1, by go_num, by go_num, h1, h2, h3, GG.out, B2.out⟩
            case measure => simp [intOf]; omega
          · have i3 : (200000 : Int) < (s : Int) + (dn : Int) := by omega
            rw [decide_eq_false h3] at hG
            have GG : Hid (fewG 0 100 L = false) := hG.symm.trans rfl
            clear hG hf hX
            go_wp2_with (first | (go_at_call 12; ((with_reducible refine (plain_any _ _).mono ?_); rintro e w1 ⟨rfl, hb1⟩; have B1 := Lib.hid (BR.out.trans (hb1.mono BR.out.size)); clear hb1)) | (go_at_call 33; ((with_reducible refine (cF _ B1.out).mono ?_); rintro e w2 ⟨rfl, hb2⟩; have B2 := Lib.hid (B1.out.trans (hb2.mono B1.out.size)); have c14 := (LD.out _ B2.out).2; clear hb2)))
            go_ret
            exact ⟨by rw [GG.out]; rfl, B2.out⟩
      · obtain rfl : i = 100 := by omega
        have GG : Hid (fewG 0 100 L = true) := hG.symm.trans rfl
        clear hG
        go_wp2
        go_ret
        exact ⟨by rw [GG.out]; simp, BR.out⟩
    · have i1 : ¬ (i : Int) < (n : Int) := by omega
      have GG : Hid (fewG 0 100 L = true) := by
        have e : L.drop i = [] := List.drop_of_length_le (by omega)
        rw [e] at hG
        unfold Hid
        rw [← hG]
        cases 100 - i <;> rfl
      clear hG
      go_wp2
      go_ret
      exact ⟨by rw [GG.out]; simp, BR.out⟩
end Go.Proofs.YtcfmifongbapkaaGreatDoor

/- WalLawMath -/
namespace Go.Proofs.YtcfmifongbapkaaGreatDoor

open Go.RowKit

set_option linter.unusedVariables false
set_option linter.unusedSimpArgs false

/-- A disk of a million bytes with what lasts and what doesn't, and a fuse. -/
abbrev dkF (f : Int) (la re : List UInt8) : Dk := ⟨1000000, la, re, f, false, false, []⟩
abbrev dkA (la re : List UInt8) : Dk := dkF (-1) la re
theorem new_dk : newD 1000000 = dkA [] [] := rfl
theorem dk_bnd {f : Int} {la re : List UInt8} {M : Nat} (h : la.length + re.length ≤ M) : BndD (dkF f la re) M := ⟨h, Nat.zero_le _⟩
theorem add_dk {la re : List UInt8} {x : Rc} (hf : formR x = true) (hs : la.length + re.length + (frameB (rcB x)).length ≤ 1000000) : addE (dkA la re) x = 0 ∧ addD (dkA la re) x = dkA la (re ++ frameB (rcB x)) := by
  have e : fullA (dkA la re) (frameB (rcB x)) = false := by
    unfold fullA
    refine decide_eq_false ?_
    show ¬ (1000000 : Int) < (la.length : Int) + re.length + (frameB (rcB x)).length
    omega
  unfold addE addD appE appD
  rw [if_pos hf, if_pos hf, e]
  exact ⟨rfl, rfl⟩
theorem syn_dk (la re : List UInt8) : synE (dkA la re) = 0 ∧ synD (dkA la re) = dkA (la ++ re) [] := ⟨rfl, rfl⟩
theorem fus_dk (la re : List UInt8) : fusD (dkA la re) 0 = dkF 0 la re := rfl
/-- The power goes within the Add. -/
abbrev dkT (la re : List UInt8) : Dk := ⟨1000000, la, re, 0, true, false, []⟩
theorem torn_dk {la : List UInt8} {x : Rc} (hf : formR x = true) (hs : la.length + (frameB (rcB x)).length ≤ 1000000) : addE (dkF 0 la []) x = 8 ∧ addD (dkF 0 la []) x = dkT la (frameB (rcB x)) := by
  have e : fullA (dkF 0 la []) (frameB (rcB x)) = false := by
    unfold fullA
    refine decide_eq_false ?_
    show ¬ (1000000 : Int) < (la.length : Int) + (0 : Nat) + (frameB (rcB x)).length
    omega
  unfold addE addD appE appD
  rw [if_pos hf, if_pos hf, e]
  exact ⟨rfl, rfl⟩
theorem cut_dk (d : Dk) (la re : List UInt8) (k : Nat) (h1 : d.size = 1000000) (h2 : d.la = la) (h3 : d.re = re) (h4 : d.torn = false) : cutD d (k : Int) = dkA (la ++ re.take k) [] := by
  unfold cutD behD
  rw [h1, h2, h3, h4]
  show dkA (la ++ re.take ((k : Int).toNat)) [] = _
  rw [Int.toNat_natCast]
theorem opn_dk {B : List UInt8} (h : B.length ≤ 1000000) : opnE (dkA B []) = 0 ∧ opnD (dkA B []) = dkA (B.take (tellN B)) [] ∧ opnL (dkA B []) = tellB B := by
  have e0 : opnB (dkA B []) = B := List.append_nil B
  have e1 : opnE (dkA B []) = 0 := by
    unfold opnE
    rw [e0]
    split
    · rename_i h; cases h
    · split
      · rfl
      · unfold repE
        have e : fullR (dkA B []) (B.take (tellN B)) = false := by
          unfold fullR
          refine decide_eq_false ?_
          show ¬ (1000000 : Int) < ((B.take (tellN B)).length : Int)
          rw [List.length_take]; omega
        rw [e]; rfl
  refine ⟨e1, ?_, ?_⟩
  · unfold opnD
    rw [e0]
    split
    · rename_i h; cases h
    · split
      · rename_i h2
        rw [h2, List.take_length]
      · unfold repD
        have e : fullR (dkA B []) (B.take (tellN B)) = false := by
          unfold fullR
          refine decide_eq_false ?_
          show ¬ (1000000 : Int) < ((B.take (tellN B)).length : Int)
          rw [List.length_take]; omega
        rw [e]; rfl
  · unfold opnL
    rw [if_pos e1, e0]
/-- Opened with all frames whole. -/
theorem opn_all {la re : List UInt8} (h : tellN (la ++ re) = (la ++ re).length) : opnE (dkA la re) = 0 ∧ opnD (dkA la re) = dkA la re ∧ opnL (dkA la re) = tellB (la ++ re) := by
  have e1 : opnE (dkA la re) = 0 := by
    unfold opnE
    rw [if_neg (by simp)]
    exact if_pos h
  refine ⟨e1, ?_, ?_⟩
  · unfold opnD
    rw [if_neg (by simp)]
    exact if_pos h
  · unfold opnL
    rw [if_pos e1]; rfl
theorem front_self (L : List RE) : frontB L L (L.length : Int) = true := by
  unfold frontB
  rw [decide_eq_true (Int.le_refl _), decide_eq_true (Nat.le_refl _), List.take_of_length_le (by rw [rcS_len]; exact Nat.le_refl _), eqB_self]; rfl
theorem front_yes {L L' : List RE} {m : Int} (h1 : m ≤ (L.length : Int)) (h2 : L.length ≤ L'.length) (h3 : rcS L = (rcS L').take L.length) : frontB L L' m = true := by
  unfold frontB
  rw [decide_eq_true h1, decide_eq_true h2, eqB_yes h3]; rfl
theorem RcsAt.good {W : World} {a : Option Addr} {n : Nat} {L : List RE} (h : RcsAt W a n L) (hf : ∀ z ∈ L, formR (rcT z.1 z.2) = true) : Good (rcS L) := by
  intro x hx
  obtain ⟨z, hz, rfl⟩ := List.mem_map.1 hx
  exact ⟨(formR_iff _).1 (hf z hz), (h.all z hz).1.ok⟩
theorem RcsAt.sum {W : World} {a : Option Addr} {n : Nat} {L : List RE} (h : RcsAt W a n L) : ((rcS L).map fun x => x.da.length).sum = (L.map fun z => z.1.dn).sum := by
  unfold rcS
  rw [List.map_map]
  congr 1
  refine List.map_congr_left fun z hz => ?_
  exact (h.all z hz).1.da.len
theorem catR_take_le (xs : List Rc) (i : Nat) : (catR (xs.take i)).length ≤ (catR xs).length := by
  have e : catR xs = catR (xs.take i) ++ catR (xs.drop i) := by rw [← catR_app, List.take_append_drop]
  rw [e, List.length_append]; omega
theorem catR_next (xs : List Rc) (i : Nat) (h : i < xs.length) : catR (xs.take (i + 1)) = catR (xs.take i) ++ frameB (rcB xs[i]) := by
  rw [List.take_succ_eq_append_getElem h, catR_app, catR_one]
theorem rcS_get (L : List RE) (i : Nat) (h : i < L.length) : (rcS L)[i]'(by rw [rcS_len]; exact h) = rcT L[i].1 L[i].2 := by simp [rcS]
theorem RcsAt.take {W : World} {a : Option Addr} {n : Nat} {L : List RE} (h : RcsAt W a n L) {k : Nat} (hk : k ≤ n) : RcsAt W a k (L.take k) := by
  refine ⟨by rw [List.length_take]; have := h.len; omega, ?_, fun z hz => h.all z (List.mem_of_mem_take hz)⟩
  have hl : ((L.take k).flatMap rcC).length = k * 15 := by
    rw [flat_len rcC 15 rcC_len, List.length_take]; have := h.len; rw [Nat.min_eq_left (by omega)]
  rcases h.row with ⟨hr, h0 | ⟨b, off, ha, hb, hc⟩⟩
  · exact ⟨hl, .inl (by omega)⟩
  · refine ⟨hl, .inr ⟨b, off, ha, hb, fun j u hu => hc j u ?_⟩⟩
    have e : L.flatMap rcC = (L.take k).flatMap rcC ++ (L.drop k).flatMap rcC := by rw [← List.flatMap_append, List.take_append_drop]
    rw [e, List.getElem?_append_left (List.getElem?_eq_some_iff.1 hu).1]; exact hu
theorem rcS_take (L : List RE) (k : Nat) : rcS (L.take k) = (rcS L).take k := by unfold rcS; rw [List.map_take]
end Go.Proofs.YtcfmifongbapkaaGreatDoor
