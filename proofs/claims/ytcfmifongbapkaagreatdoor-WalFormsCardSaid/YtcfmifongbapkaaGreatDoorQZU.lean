
/- Contracts of a law's plain, few and front, and of the document's Few; a record of a list is loaded. Conditions: the records lie in memory. Contract of a law's front. Conditions: the records lie in memory. Contracts of a law's few. Conditions: the records lie in memory. What the laws' disks come to: plain mathematics. No condition. -/
import Derived.Test.YtcfmifongbapkaaGreatDoorQZM
import Derived.Test.YtcfmifongbapkaaGreatDoorQQ
import Derived.Test.YtcfmifongbapkaaGreatDoorQP
import Derived.Laws.ResultCell
import Derived.Deep.RegionHeld3
import Derived.Test.YtcfmifongbapkaaGreatDoorQZT
/- WalLaw -/
namespace Go.Proofs.YtcfmifongbapkaaGreatDoor

open Go.RowKit

set_option linter.unusedVariables false
set_option linter.unusedSimpArgs false

theorem cells_ldK {w : World} {b off : Nat} {x : RcM} (h : ∀ j u, (rcV x).toList[j]? = some u → w.cell? ⟨b, off + j, none⟩ = some u) : (Go.Proofs.YtcfmifongbapkaaGreatDoor.ldK (.pointer (some ⟨b, off, none⟩))).run Tryz.prog w = .ok (.agg (rcV x)) w := by
  have x0 : w.cell? ⟨b, off, none⟩ = some (.int .i64 x.k) := h 0 _ rfl
  have x1 := h 1 _ rfl; have x2 := h 2 _ rfl; have x3 := h 3 _ rfl; have x4 := h 4 _ rfl; have x5 := h 5 _ rfl; have x6 := h 6 _ rfl; have x7 := h 7 _ rfl; have x8 := h 8 _ rfl; have x9 := h 9 _ rfl; have x10 := h 10 _ rfl; have x11 := h 11 _ rfl; have x12 := h 12 _ rfl; have x13 := h 13 _ rfl; have x14 := h 14 _ rfl
  show (Instr.loadAt 36 (.pointer (some ⟨b, off, none⟩))).run Tryz.prog w = _
  simp only [Instr.loadAt, Instr.sureAddr, Sem.run_bind, Sem.run_pure, Result.andThen_ok]
  simp [go_sem, Tryz.underlying36, x0, x1, x2, x3, x4, x5, x6, x7, x8, x9, x10, x11, x12, x13, x14]
/-- Records that came in: they lie in memory. -/
structure RcsRaw (W : World) (a : Option Addr) (n : Nat) (L : List RE) : Prop where
  len : L.length = n
  row : RowAt W W.heap.size a n 15 (L.flatMap rcC)
  all : ∀ z ∈ L, RcAt W z.1 z.2
section

variable {W W' : World} {n : Nat} {a : Option Addr} {L : List RE}

theorem RcsRaw.at_ (h : RcsRaw W a n L) {i : Nat} (hi : i < L.length) : ∃ b0 off, a = some ⟨b0, off, none⟩ ∧ b0 < W.heap.size ∧ ∀ W', Below W.heap.size W W' → (Go.Proofs.YtcfmifongbapkaaGreatDoor.ldK (.pointer (some ⟨b0, off + i * 15, none⟩))).run Tryz.prog W' = .ok (.agg (rcV (L[i]'hi).1)) W' ∧ W'.cell? ⟨b0, off + i * 15 + 14, none⟩ = some (.slice (L[i]'hi).1.da (L[i]'hi).1.dn (L[i]'hi).1.dc) := by
  obtain ⟨b0, off, ha, hb, hc⟩ := h.row.addr (by have := h.len; omega)
  have key : ∀ W', Below W.heap.size W W' → ∀ (j : Nat) (u : Value), (rcV (L[i]'hi).1).toList[j]? = some u → W'.cell? ⟨b0, off + i * 15 + j, none⟩ = some u := fun W' hW j u hu => by
    have hj : j < 15 := (List.getElem?_eq_some_iff.1 hu).1
    have h1 := hc (i * 15 + j) u (by rw [flat_get rcC 15 rcC_len L i j hi hj]; exact hu)
    rw [Nat.add_assoc]
    exact (World.cell?_of_block (hW.block b0 hb)).trans h1
  exact ⟨b0, off, ha, hb, fun W' hW => ⟨cells_ldK (key W' hW), key W' hW 14 _ rfl⟩⟩
end

set_option maxRecDepth 100000 in
set_option maxHeartbeats 2000000 in
theorem plain_any (x : RcM) (w : World) : Calls Tryz.prog 12 #[.agg (rcV x)] w fun e w' => e = .returned (.agg (rcV x)) ∧ Below w.heap.size w w' := by
  have H0 := Lib.hid (((Boxs.start w).more (rcV x) 36).more zeroRV 47)
  have hs : (w.alloc (.cells (rcV x) 36)).heap.size = w.heap.size + 1 := by simp
  rw [hs] at H0
  clear hs
  have hl : ∀ b ∈ [(w.heap.size, rcV x, 36)], b.1 ≠ w.heap.size + 1 := by simp
  go_enter Tryz.func12, Tryz.ntmps12
  go_upto_region 1 with (fail)
  generalize (w.alloc (.cells (rcV x) 36)).alloc (.cells zeroRV 47) = W0 at *
  have x0 := (H0.out.get 1 _ _ _ rfl).cell 0 _ rfl; have x1 := (H0.out.get 1 _ _ _ rfl).cell 1 _ rfl; have x2 := (H0.out.get 1 _ _ _ rfl).cell 2 _ rfl; have x3 := (H0.out.get 1 _ _ _ rfl).cell 3 _ rfl; have x4 := (H0.out.get 1 _ _ _ rfl).cell 4 _ rfl; have x5 := (H0.out.get 1 _ _ _ rfl).cell 5 _ rfl; have x6 := (H0.out.get 1 _ _ _ rfl).cell 6 _ rfl; have x7 := (H0.out.get 1 _ _ _ rfl).cell 7 _ rfl; have x8 := (H0.out.get 1 _ _ _ rfl).cell 8 _ rfl; have x9 := (H0.out.get 1 _ _ _ rfl).cell 9 _ rfl; have x10 := (H0.out.get 1 _ _ _ rfl).cell 10 _ rfl; have x11 := (H0.out.get 1 _ _ _ rfl).cell 11 _ rfl; have x12 := (H0.out.get 1 _ _ _ rfl).cell 12 _ rfl; have x13 := (H0.out.get 1 _ _ _ rfl).cell 13 _ rfl; have x14 := (H0.out.get 1 _ _ _ rfl).cell 14 _ rfl
  have HZ : BoxC W0 (w.heap.size + 1) (rcV zeroR) 47 := H0.out.get 0 _ _ _ rfl
  go_wp2_with (refine wpList_store_r rfl _ _ rfl (w.heap.size + 1) x rfl rfl zeroR HZ ?_)
  have F := H0.out.fillK (by omega) hl (rcV x)
  have z0 := (F.get 0 _ _ _ rfl).cell 0 _ rfl; have z1 := (F.get 0 _ _ _ rfl).cell 1 _ rfl; have z2 := (F.get 0 _ _ _ rfl).cell 2 _ rfl; have z3 := (F.get 0 _ _ _ rfl).cell 3 _ rfl; have z4 := (F.get 0 _ _ _ rfl).cell 4 _ rfl; have z5 := (F.get 0 _ _ _ rfl).cell 5 _ rfl; have z6 := (F.get 0 _ _ _ rfl).cell 6 _ rfl; have z7 := (F.get 0 _ _ _ rfl).cell 7 _ rfl; have z8 := (F.get 0 _ _ _ rfl).cell 8 _ rfl; have z9 := (F.get 0 _ _ _ rfl).cell 9 _ rfl; have z10 := (F.get 0 _ _ _ rfl).cell 10 _ rfl; have z11 := (F.get 0 _ _ _ rfl).cell 11 _ rfl; have z12 := (F.get 0 _ _ _ rfl).cell 12 _ rfl; have z13 := (F.get 0 _ _ _ rfl).cell 13 _ rfl; have z14 := (F.get 0 _ _ _ rfl).cell 14 _ rfl
  exact bodyPost_ret (v := .agg (rcV x)) (by simp [results, Tryz.results12, go_sem, z0, z1, z2, z3, z4, z5, z6, z7, z8, z9, z10, z11, z12, z13, z14]) rfl ⟨rfl, F.bel⟩
noncomputable def fewRc (z : RE) : Bool := fewT z.2.rs z.2.ws && decide (z.1.dn ≤ 70000)
theorem fewRc_F {w : World} {z : RE} (h : RcAt w z.1 z.2) (hf : fewRc z = true) : RcF z.1 := by
  unfold fewRc at hf
  simp only [Bool.and_eq_true, decide_eq_true_eq] at hf
  have a1 := fewT_len hf.1
  have b1 := h.cm.tx.lenR
  have b2 := h.cm.tx.lenW
  exact ⟨by omega, by omega, by omega⟩
set_option maxHeartbeats 1000000 in
theorem rFew_rec (x : RcM) (L : RcL) (w : World) (h : RcAt w x L) : Calls Tryz.prog 33 #[.agg (rcV x)] w (Says w (fewRc (x, L))) := by
  have H0 := Lib.hid ((Boxs.start w).more (rcV x) 47)
  have cF := fun W (hW : Below w.heap.size w W) => dFew_any x.cm L.rs L.ws W (h.cm.later hW)
  have x4 := (H0.out.get 0 _ _ _ rfl).cell 4 _ rfl; have x5 := (H0.out.get 0 _ _ _ rfl).cell 5 _ rfl; have x6 := (H0.out.get 0 _ _ _ rfl).cell 6 _ rfl; have x7 := (H0.out.get 0 _ _ _ rfl).cell 7 _ rfl; have x8 := (H0.out.get 0 _ _ _ rfl).cell 8 _ rfl; have x9 := (H0.out.get 0 _ _ _ rfl).cell 9 _ rfl; have x10 := (H0.out.get 0 _ _ _ rfl).cell 10 _ rfl; have x11 := (H0.out.get 0 _ _ _ rfl).cell 11 _ rfl; have x12 := (H0.out.get 0 _ _ _ rfl).cell 12 _ rfl; have x13 := (H0.out.get 0 _ _ _ rfl).cell 13 _ rfl; have x14 := (H0.out.get 0 _ _ _ rfl).cell 14 _ rfl
  unfold fewRc
  clear h
  simp only
  generalize fewT L.rs L.ws = FB at *
  cases FB
  · go_enter Tryz.func33, Tryz.ntmps33
    go_wp2_with (go_at_call 72; ((with_reducible refine (cF _ H0.out.bel).mono ?_); rintro e w1 ⟨rfl, hb1⟩; have H1 := Lib.hid (H0.out.below hb1)))
    go_ret
    exact ⟨rfl, H1.out.bel⟩
  · by_cases hd : x.dn ≤ 70000
    · have e : decide (x.dn ≤ 70000) = true := decide_eq_true hd
      have i1 : ((x.dn : Nat) : Int) ≤ 70000 := by omega
      rw [e]
      go_enter Tryz.func33, Tryz.ntmps33
      go_wp2_with (go_at_call 72; ((with_reducible refine (cF _ H0.out.bel).mono ?_); rintro e w1 ⟨rfl, hb1⟩; have H1 := Lib.hid (H0.out.below hb1); clear x14; have x14 := (H1.out.get 0 _ _ _ rfl).cell 14 _ rfl))
      go_ret
      exact ⟨by first | rfl | simp [*], H1.out.bel⟩
    · have e : decide (x.dn ≤ 70000) = false := decide_eq_false hd
      have i1 : ¬ ((x.dn : Nat) : Int) ≤ 70000 := by omega
      rw [e]
      go_enter Tryz.func33, Tryz.ntmps33
      go_wp2_with (go_at_call 72; ((with_reducible refine (cF _ H0.out.bel).mono ?_); rintro e w1 ⟨rfl, hb1⟩; have H1 := Lib.hid (H0.out.below hb1); clear x14; have x14 := (H1.out.get 0 _ _ _ rfl).cell 14 _ rfl))
      go_ret
      exact ⟨by first | rfl | simp [*], H1.out.bel⟩
end Go.Proofs.YtcfmifongbapkaaGreatDoor

/- WalFront -/
namespace Go.Proofs.YtcfmifongbapkaaGreatDoor

open Go.RowKit

set_option linter.unusedVariables false
set_option linter.unusedSimpArgs false

/-- Are the first ones of a list, at least so many, just these? -/
noncomputable def frontB (L L' : List RE) (m : Int) : Bool := decide (m ≤ (L.length : Int)) && (decide (L.length ≤ L'.length) && eqB (rcS L) ((rcS L').take L.length))
end Go.Proofs.YtcfmifongbapkaaGreatDoor

/- WalFew -/
namespace Go.Proofs.YtcfmifongbapkaaGreatDoor

open Go.RowKit

set_option linter.unusedVariables false
set_option linter.unusedSimpArgs false

/-- Are there few records, of a size that is looked at? -/
noncomputable def fewG : Nat → Nat → List RE → Bool
  | _, 0, _ => true
  | _, _ + 1, [] => true
  | n, k + 1, z :: r => fewRc z && (decide (n + z.1.dn ≤ 200000) && fewG (n + z.1.dn) k r)
theorem fewG_step (n k : Nat) (z : RE) (r : List RE) : fewG n (k + 1) (z :: r) = (fewRc z && (decide (n + z.1.dn ≤ 200000) && fewG (n + z.1.dn) k r)) := rfl
noncomputable def fewL (L : List RE) (m : Int) : Bool := fewG 0 100 L && decide ((L.length : Int) ≤ m)
theorem fewG_all (L : List RE) : ∀ n k, L.length ≤ k → fewG n k L = true → (∀ z ∈ L, fewRc z = true) ∧ n + (L.map fun z => z.1.dn).sum ≤ max n 200000 := by
  induction L with
  | nil => intro n k _ _; exact ⟨(fun z hz => by cases hz), by simp; omega⟩
  | cons z r ih =>
    intro n k hk h
    cases k with
    | zero => simp at hk
    | succ k =>
      unfold fewG at h
      simp only [Bool.and_eq_true, decide_eq_true_eq] at h
      obtain ⟨h1, h2, h3⟩ := h
      obtain ⟨i1, i2⟩ := ih (n + z.1.dn) k (by simpa using hk) h3
      refine ⟨fun y hy => ?_, by rw [List.map_cons, List.sum_cons]; omega⟩
      rcases List.mem_cons.1 hy with rfl | hy
      · exact h1
      · exact i1 y hy
theorem fewL_all {W : World} {a : Option Addr} {n : Nat} {L : List RE} {m : Int} (h : RcsRaw W a n L) (hm : m ≤ 100) (hf : fewL L m = true) : RcsAt W a n L ∧ (L.length : Int) ≤ m ∧ (L.map fun z => z.1.dn).sum ≤ 200000 := by
  unfold fewL at hf
  simp only [Bool.and_eq_true, decide_eq_true_eq] at hf
  obtain ⟨h1, h2⟩ := fewG_all L 0 100 (by omega) hf.1
  exact ⟨⟨h.len, h.row, fun z hz => ⟨h.all z hz, fewRc_F (h.all z hz) (h1 z hz)⟩⟩, hf.2, by omega⟩
set_option maxRecDepth 100000 in
set_option maxHeartbeats 4000000 in
theorem few_any (a : Option Addr) (n c : Nat) (L : List RE) (m : Int) (w : World) (h : RcsRaw w a n L) (hnc : n ≤ c) (hcm : c ≤ maxLen) : Calls Tryz.prog 9 #[.slice a n c, .int .i64 m] w (Says w (fewL L m)) := by
  have hln := h.len
  have hcm' := hcm
  unfold maxLen at hcm'
  unfold fewL
  have H := Lib.hid h
  clear h
  rw [hln]
  go_enter Tryz.func9, Tryz.ntmps9
  go_wp2_with (fail)
  go_loopw [5, 6] (fun x y wr => ∃ s i : Nat, x = .int .i64 s ∧ y = .int .i64 i ∧ i ≤ L.length ∧ i ≤ 100 ∧ s ≤ 200000 ∧ fewG s (100 - i) (L.drop i) = fewG 0 100 L ∧ Below w.heap.size w wr) (fun _ y _ => 100 - (intOf y).toNat)
  case atStart => exact ⟨0, 0, rfl, rfl, Nat.zero_le _, Nat.zero_le _, Nat.zero_le _, rfl, Below.refl _ _⟩
  case round =>
    obtain ⟨s, i, rfl, rfl, hi, hi2, hs, hG, hB⟩ := hrel
    have BR := Lib.hid hB
    clear hB
    by_cases h1 : i < L.length
    · have i1 : (i : Int) < (n : Int) := by omega
      by_cases h2 : i < 100
      · have i2 : (i : Int) < 100 := by omega
        obtain ⟨b0, off, rfl, hb0, LD0⟩ := H.out.at_ h1
        have LD := Lib.hid LD0
        clear LD0
        have ld := (LD.out _ BR.out).1
        have hX := H.out.all _ (List.getElem_mem h1)
        have cF : ∀ W, Below w.heap.size w W → Calls Tryz.prog 33 #[.agg (rcV L[i].1)] W (Says W (fewRc L[i])) := fun W hW => rFew_rec L[i].1 L[i].2 W (hX.later hW)
        have eD : L.drop i = L[i] :: L.drop (i + 1) := List.drop_eq_getElem_cons h1
        have eK : 100 - i = (100 - (i + 1)) + 1 := by omega
        rw [eD, eK] at hG
        rw [fewG_step] at hG
        have hdn : L[i].1.dn ≤ maxLen ∨ True := .inr trivial
        generalize L[i] = z at *
        obtain ⟨⟨k, br, bn, sl, cm, da, dn, dc⟩, Lz⟩ := z
        simp only at ld hG cF LD
        cases hf : fewRc (⟨k, br, bn, sl, cm, da, dn, dc⟩, Lz)
        · rw [hf] at hG cF
          have GG : Hid (fewG 0 100 L = false) := hG.symm.trans rfl
          clear hG hf hX
          go_wp2_with (first | (go_at_call 12; ((with_reducible refine (plain_any _ _).mono ?_); rintro e w1 ⟨rfl, hb1⟩; have B1 := Lib.hid (BR.out.trans (hb1.mono BR.out.size)); clear hb1)) | (go_at_call 33; ((with_reducible refine (cF _ B1.out).mono ?_); rintro e w2 ⟨rfl, hb2⟩; have B2 := Lib.hid (B1.out.trans (hb2.mono B1.out.size)); have c14 := (LD.out _ B2.out).2; clear hb2)))
          go_ret
          exact ⟨by rw [GG.out]; rfl, B2.out⟩
        · rw [hf] at hG cF
          have h7 : dn ≤ 70000 := by
            unfold fewRc at hf
            simp only [Bool.and_eq_true, decide_eq_true_eq] at hf
            exact hf.2
          rw [Bool.true_and] at hG
          by_cases h3 : s + dn ≤ 200000
          · have i3 : ¬ (200000 : Int) < (s : Int) + (dn : Int) := by omega
            rw [decide_eq_true h3, Bool.true_and] at hG
            have GG := Lib.hid hG
            clear hG hf hX
            go_wp2_with (first | (go_at_call 12; ((with_reducible refine (plain_any _ _).mono ?_); rintro e w1 ⟨rfl, hb1⟩; have B1 := Lib.hid (BR.out.trans (hb1.mono BR.out.size)); clear hb1)) | (go_at_call 33; ((with_reducible refine (cF _ B1.out).mono ?_); rintro e w2 ⟨rfl, hb2⟩; have B2 := Lib.hid (B1.out.trans (hb2.mono B1.out.size)); have c14 := (LD.out _ B2.out).2; clear hb2)))
            go_roundw
            case rel => exact ⟨s + dn, i + 1, by go_num, by go_num, h1, h2, h3, GG.out, B2.out⟩
            case measure => simp [intOf]; omega
          · have i3 : (200000 : Int) < (s : Int) + (dn : Int) := by omega
            rw [decide_eq_false h3] at hG
            have GG : Hid (fewG 0 100 L = false) := hG.symm.trans rfl
            clear hG hf hX
            go_wp2_with (first | (go_at_call 12; ((with_reducible refine (plain_any _ _).mono ?_); rintro e w1 ⟨rfl, hb1⟩; have B1 := Lib.hid (BR.out.trans (hb1.mono BR.out.size)); clear hb1)) | (go_at_call 33; ((with_reducible refine (cF _ B1.out).mono ?_); rintro e w2 ⟨rfl, hb2⟩; have B2 := Lib.hid (B1.out.trans (hb2.mono B1.out.size)); have c14 := (LD.out _ B2.out).2; clear hb2)))
            go_ret
            exact ⟨by rw [GG.out]; rfl, B2.out⟩
      · obtain rfl : i = 100 := by omega
        have GG : Hid (fewG 0 100 L = true) := hG.symm.trans rfl
        clear hG
        go_wp2
        go_ret
        exact ⟨by rw [GG.out]; simp, BR.out⟩
    · have i1 : ¬ (i : Int) < (n : Int) := by omega
      have GG : Hid (fewG 0 100 L = true) := by
        have e : L.drop i = [] := List.drop_of_length_le (by omega)
        rw [e] at hG
        unfold Hid
        rw [← hG]
        cases 100 - i <;> rfl
      clear hG
      go_wp2
      go_ret
      exact ⟨by rw [GG.out]; simp, BR.out⟩
end Go.Proofs.YtcfmifongbapkaaGreatDoor

/- WalLawMath -/
namespace Go.Proofs.YtcfmifongbapkaaGreatDoor

open Go.RowKit

set_option linter.unusedVariables false
set_option linter.unusedSimpArgs false

/-- A disk of a million bytes with what lasts and what doesn't, and a fuse. -/
abbrev dkF (f : Int) (la re : List UInt8) : Dk := ⟨1000000, la, re, f, false, false, []⟩
abbrev dkA (la re : List UInt8) : Dk := dkF (-1) la re
/-- The power goes within the Add. -/
abbrev dkT (la re : List UInt8) : Dk := ⟨1000000, la, re, 0, true, false, []⟩
end Go.Proofs.YtcfmifongbapkaaGreatDoor
