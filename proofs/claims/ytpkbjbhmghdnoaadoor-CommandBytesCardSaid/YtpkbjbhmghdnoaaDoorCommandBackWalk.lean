/- The walk of the statement CommandBack. Conditions: the commands and their lists lie in memory; the tables of utf8 lie there. -/
import Derived.Test.YtpkbjbhmghdnoaaDoorCommandOneWalk
import Derived.Test.YtpkbjbhmghdnoaaDoorCommandRefFormed
import Derived.Test.YtpkbjbhmghdnoaaDoorCommandTake
import Derived.Test.YtpkbjbhmghdnoaaDoorTxnBytesWalk
namespace Go.Proofs.YtpkbjbhmghdnoaaDoor

open Go.RowKit

set_option linter.unusedVariables false

theorem Tryd.iInfo3 : (Tryd.prog.info? 3).map (fun i => (i.zero, i.size, i.bytes)) = some (some (.int .i64 0), 1, 8) := by kernel_rfl
/-- A command in memory with its transaction's lists; a slice of them. -/
abbrev CE := CmM × List RdM × List WrM
def cmC (z : CE) : List Value := (cmV z.1).toList
theorem cmC_len (z : CE) : (cmC z).length = 10 := rfl
def CmsAt (w : World) (a : Option Addr) (n : Nat) (L : List CE) : Prop := (L.length = n ∧ RowAt w w.heap.size a n 10 (L.flatMap cmC)) ∧ ∀ z ∈ L, CmAt w z.1 z.2.1 z.2.2
def cmL (L : List CE) : List Cm := L.map fun z => cmT z.1 z.2.1 z.2.2
theorem cmL_len (L : List CE) : (cmL L).length = L.length := by simp [cmL]
theorem cmL_get (L : List CE) (i : Nat) (h : i < L.length) : (cmL L)[i]'(by rw [cmL_len]; exact h) = cmT L[i].1 L[i].2.1 L[i].2.2 := by simp [cmL]
theorem CmsAt.at_ {w : World} {a : Option Addr} {n : Nat} {L : List CE} (h : CmsAt w a n L) {i : Nat} (hi : i < L.length) : ∃ b0 off, a = some ⟨b0, off, none⟩ ∧ b0 < w.heap.size ∧ (w.cell? ⟨b0, off + i * 10, none⟩ = some (.int .i64 L[i].1.k) ∧ w.cell? ⟨b0, off + i * 10 + 1, none⟩ = some (.int .i64 L[i].1.s) ∧ w.cell? ⟨b0, off + i * 10 + 2, none⟩ = some (.int .i64 L[i].1.q) ∧ w.cell? ⟨b0, off + i * 10 + 3, none⟩ = some (.slice L[i].1.a L[i].1.n L[i].1.c) ∧ w.cell? ⟨b0, off + i * 10 + 4, none⟩ = some (.slice L[i].1.b L[i].1.m L[i].1.d) ∧ w.cell? ⟨b0, off + i * 10 + 5, none⟩ = some (.int .i64 L[i].1.i) ∧ w.cell? ⟨b0, off + i * 10 + 6, none⟩ = some (.int .i64 L[i].1.j) ∧ w.cell? ⟨b0, off + i * 10 + 7, none⟩ = some (.int .i64 L[i].1.g) ∧ w.cell? ⟨b0, off + i * 10 + 8, none⟩ = some (.int .u64 ((L[i].1.st : Nat) : Int)) ∧ w.cell? ⟨b0, off + i * 10 + 9, none⟩ = some (.bool L[i].1.y)) := by
  obtain ⟨b, off, ha, hb, hc⟩ := h.1.2.addr (by have := h.1.1; omega)
  have h0 := hc (i * 10 + 0) _ (flat_get cmC 10 cmC_len L i 0 hi (by omega))
  have h1 := hc (i * 10 + 1) _ (flat_get cmC 10 cmC_len L i 1 hi (by omega))
  have h2 := hc (i * 10 + 2) _ (flat_get cmC 10 cmC_len L i 2 hi (by omega))
  have h3 := hc (i * 10 + 3) _ (flat_get cmC 10 cmC_len L i 3 hi (by omega))
  have h4 := hc (i * 10 + 4) _ (flat_get cmC 10 cmC_len L i 4 hi (by omega))
  have h5 := hc (i * 10 + 5) _ (flat_get cmC 10 cmC_len L i 5 hi (by omega))
  have h6 := hc (i * 10 + 6) _ (flat_get cmC 10 cmC_len L i 6 hi (by omega))
  have h7 := hc (i * 10 + 7) _ (flat_get cmC 10 cmC_len L i 7 hi (by omega))
  have h8 := hc (i * 10 + 8) _ (flat_get cmC 10 cmC_len L i 8 hi (by omega))
  have h9 := hc (i * 10 + 9) _ (flat_get cmC 10 cmC_len L i 9 hi (by omega))
  exact ⟨b, off, ha, hb, h0, by rw [Nat.add_assoc]; exact h1, by rw [Nat.add_assoc]; exact h2, by rw [Nat.add_assoc]; exact h3, by rw [Nat.add_assoc]; exact h4, by rw [Nat.add_assoc]; exact h5, by rw [Nat.add_assoc]; exact h6, by rw [Nat.add_assoc]; exact h7, by rw [Nat.add_assoc]; exact h8, by rw [Nat.add_assoc]; exact h9⟩
/-- The ends of the first i commands. -/
noncomputable def endsC (cs : List Cm) (i : Nat) : List Value := (List.range i).map fun j => .int .i64 ((endC cs (j + 1) : Nat) : Int)
theorem endsC_succ (cs : List Cm) (i : Nat) : endsC cs (i + 1) = endsC cs i ++ [.int .i64 ((endC cs (i + 1) : Nat) : Int)] := by simp [endsC, List.range_succ]
theorem endsC_get (cs : List Cm) (i j : Nat) (h : j < i) : (endsC cs i)[j]? = some (.int .i64 ((endC cs (j + 1) : Nat) : Int)) := by simp [endsC, h]
theorem cms_succ (cs : List Cm) (i : Nat) (h : i < cs.length) : cmsB (cs.take (i + 1)) = cmsB (cs.take i) ++ cmB cs[i] := by
  unfold cmsB; rw [List.take_succ_eq_append_getElem h, List.flatMap_append]; simp
theorem cms_max (cs : List Cm) (h : ∀ c ∈ cs, formCm c = true) : (cmsB cs).length ≤ cs.length * 1179728 := by
  induction cs with
  | nil => simp [cmsB]
  | cons c r ih =>
    have h1 := ih fun d hd => h d (List.mem_cons_of_mem _ hd)
    have h2 := cmB_max c (h c (List.mem_cons_self ..))
    have e : cmsB (c :: r) = cmB c ++ cmsB r := List.flatMap_cons
    rw [e, List.length_append, List.length_cons, Nat.succ_mul]; omega
/-- What the first loop holds. -/
def CutC (w wr : World) (vb ve : Value) (cs : List Cm) (i : Nat) : Prop :=
  Below w.heap.size w wr ∧ wr.ownsRow w.heap.size 5 1 vb (endC cs i) (bcells (cmsB (cs.take i))) ∧ wr.ownsRow w.heap.size 3 1 ve i (endsC cs i)
theorem CellsAt.one1 (w : World) (u : Value) (t : TypeId) : CellsAt (w.alloc (.cells #[u] t)) (some ⟨w.heap.size, 0, none⟩) 1 [u] := by
  refine ⟨rfl, .inr ⟨w.heap.size, 0, rfl, fun j x hx => ?_⟩⟩
  have h := World.news_of_block (heap_alloc_new w (.cells #[u] t)) j x hx
  rwa [add_plain] at h
/-- One round of it. -/
theorem CutC.step {w wr W w2 w3 : World} {vb ve ve' : Value} {a : Option Addr} {n c : Nat} {cs : List Cm} {i : Nat} {l : List UInt8} {o : Obj} (h : CutC w wr vb ve cs i) (hb : Below wr.heap.size wr W)
    (ho2 : w2.ownsRow W.heap.size 5 1 (.slice a n c) n (bcells l)) (hb2 : Below W.heap.size W w2) (hl : l = cmsB (cs.take (i + 1)))
    (hoe : w3.ownsRow w.heap.size 3 1 ve' (i + 1) (endsC cs (i + 1))) (hg3 : (w2.alloc o).grownBy w3 ve.ownBlock) : CutC w w3 (.slice a n c) ve' cs (i + 1) := by
  obtain ⟨hB, _, he⟩ := h
  have hBW : Below w.heap.size w W := hB.trans (hb.mono hB.size)
  have hB2 : Below w.heap.size w w2 := hBW.trans (hb2.mono hBW.size)
  have heW := own_below he hb
  have hn : n = endC cs (i + 1) := by unfold endC; rw [← hl, own_len ho2]
  subst hl
  refine ⟨(hB2.alloc hB2.size o).grown hg3 (by simp; have := hB2.size; omega) (own_block he), hn ▸ own_grown ((own_base ho2 hBW.size).alloc o) hg3 (fun k hk e => ?_), hoe⟩
  have h1 := own_lt heW k e
  have h2 := own_block ho2 k hk
  omega

set_option maxRecDepth 100000 in
set_option maxHeartbeats 8000000 in
theorem back9_walk (a : Option Addr) (n c t : Nat) (L : List CE) (w : World) (hL : CmsAt w a n L) (hnc : n ≤ c) (hcm : c ≤ maxLen) (ht : t < 65536) (hU : Tabs w) :
    Calls Tryd.prog 5 #[.slice a n c, .int .u16 t] w (Says w true) := by
  obtain ⟨i1, ji, jz0, jz1, jz2⟩ := info_parts Tryd.iInfo3
  unfold maxLen at hcm
  have cA := fun W (hW : Below w.heap.size w W) => awake9_any W (hU.below hW)
  by_cases h20 : n ≤ 20
  · have hd : decide ((20 : Int) < (n : Int)) = false := by simp; omega
    have HU : Hid (∀ W, Below w.heap.size w W → Tabs W) := fun W hW => hU.below hW
    have HL := Lib.hid hL
    have hln := hL.1.1
    have hcl : (cmL L).length = n := by rw [cmL_len]; exact hln
    clear hU hL
    go_enter Tryd.func5, Tryd.ntmps5
    go_upto_region 3 with (go_at_call 7; ((with_reducible refine (cA _ (Below.refl _ _)).mono ?_); rintro e w1 ⟨rfl, hb1⟩))
    have hstart : CutC w w1 (.slice none 0 0) (.slice none 0 0) (cmL L) 0 := ⟨hb1, World.ownsRow_nil _ _ _ _, World.ownsRow_nil _ _ _ _⟩
    clear hb1 hd cA
    go_wp2
    go_loopw [5, 6, 7] (fun vb ve x wr => ∃ (i : Nat), i ≤ n ∧ x = .int .i64 i ∧ (∀ z ∈ (cmL L).take i, formCm z = true) ∧ CutC w wr vb ve (cmL L) i) (fun _ _ x _ => n - (intOf x).toNat)
    case atStart => exact ⟨0, by omega, rfl, fun l h => by simp at h, hstart⟩
    case round =>
      obtain ⟨i, hin, rfl, hsm, hC⟩ := hrel
      clear hstart
      have hBr : Below w.heap.size w wr := hC.1
      have HC := Lib.hid hC
      have SM := Lib.hid hsm
      by_cases hlt : i < n
      · have hli : i < L.length := by omega
        have hlc : i < (cmL L).length := by omega
        obtain ⟨b0, off, rfl, hb0, k0, k1, k2, k3, k4, k5, k6, k7, k8, k9⟩ := HL.out.at_ (i := i) hli
        have hz := HL.out.2 L[i] (List.getElem_mem hli)
        have hgc := cmL_get L i hli
        have HS := Lib.hid (cms_succ (cmL L) i hlc)
        have HSM : Hid (formCm (cmL L)[i] = true → ∀ z ∈ (cmL L).take (i + 1), formCm z = true) := fun h z hz => by
          rw [List.take_succ_eq_append_getElem hlc] at hz
          rcases List.mem_append.1 hz with hz | hz
          · exact SM.out z hz
          · simp only [List.mem_cons, List.not_mem_nil, or_false] at hz; subst hz; exact h
        rw [hgc] at HS HSM
        clear hgc hsm hC
        generalize L[i] = z at *
        obtain ⟨x, rs, ws⟩ := z
        simp only at hz HS HSM k0 k1 k2 k3 k4 k5 k6 k7 k8 k9
        have HX : Hid (∀ W, Below w.heap.size w W → (W.cell? ⟨b0, off + i * 10, none⟩ = some (.int .i64 x.k) ∧ W.cell? ⟨b0, off + i * 10 + 1, none⟩ = some (.int .i64 x.s) ∧ W.cell? ⟨b0, off + i * 10 + 2, none⟩ = some (.int .i64 x.q) ∧ W.cell? ⟨b0, off + i * 10 + 3, none⟩ = some (.slice x.a x.n x.c) ∧ W.cell? ⟨b0, off + i * 10 + 4, none⟩ = some (.slice x.b x.m x.d) ∧ W.cell? ⟨b0, off + i * 10 + 5, none⟩ = some (.int .i64 x.i) ∧ W.cell? ⟨b0, off + i * 10 + 6, none⟩ = some (.int .i64 x.j) ∧ W.cell? ⟨b0, off + i * 10 + 7, none⟩ = some (.int .i64 x.g) ∧ W.cell? ⟨b0, off + i * 10 + 8, none⟩ = some (.int .u64 ((x.st : Nat) : Int)) ∧ W.cell? ⟨b0, off + i * 10 + 9, none⟩ = some (.bool x.y))) := fun W hW => ⟨(hW.cell (p := ⟨b0, off + i * 10, none⟩) hb0).trans k0, (hW.cell (p := ⟨b0, off + i * 10 + 1, none⟩) hb0).trans k1, (hW.cell (p := ⟨b0, off + i * 10 + 2, none⟩) hb0).trans k2, (hW.cell (p := ⟨b0, off + i * 10 + 3, none⟩) hb0).trans k3, (hW.cell (p := ⟨b0, off + i * 10 + 4, none⟩) hb0).trans k4, (hW.cell (p := ⟨b0, off + i * 10 + 5, none⟩) hb0).trans k5, (hW.cell (p := ⟨b0, off + i * 10 + 6, none⟩) hb0).trans k6, (hW.cell (p := ⟨b0, off + i * 10 + 7, none⟩) hb0).trans k7, (hW.cell (p := ⟨b0, off + i * 10 + 8, none⟩) hb0).trans k8, (hW.cell (p := ⟨b0, off + i * 10 + 9, none⟩) hb0).trans k9⟩
        clear k0 k1 k2 k3 k4 k5 k6 k7 k8 k9
        have cW := fun W (hW : Below w.heap.size w W) => few9_any x rs ws W (hz.later hW)
        have ix : (i : Int) < (n : Int) := by omega
        obtain ⟨x0, x1, x2, x3, x4, x5, x6, x7, x8, x9⟩ := HX.out _ hBr
        cases hf : fewT rs ws
        · rw [hf] at cW
          clear hf hz
          go_wp2_with (go_at_call 8; ((with_reducible refine (cW _ hBr).mono ?_); rintro e w1 ⟨rfl, hb1⟩))
          go_ret
          exact ⟨rfl, hBr.trans (hb1.mono hBr.size)⟩
        rw [hf] at cW
        have hn : x.n ≤ 1000000 := by have := (fewT_len hf).1; have := hz.tx.lenR; omega
        have hm : x.m ≤ 1000000 := by have := (fewT_len hf).2; have := hz.tx.lenW; omega
        have cF := fun W (hW : Below w.heap.size w W) => kFormed_any x rs ws W (hz.later hW) hn hm (HU.out W hW)
        cases hF : formCm (cmT x rs ws)
        · rw [hF] at cF
          clear hf hF hz
          go_wp2_with (first | (go_at_call 8; ((with_reducible refine (cW _ hBr).mono ?_); rintro e w1 ⟨rfl, hb1⟩; have B1 := Lib.hid (hBr.trans (hb1.mono hBr.size)); (clear x0 x1 x2 x3 x4 x5 x6 x7 x8 x9); obtain ⟨x0, x1, x2, x3, x4, x5, x6, x7, x8, x9⟩ := HX.out _ B1.out)) | (go_at_call 9; ((with_reducible refine (cF _ B1.out).mono ?_); rintro e w2 ⟨rfl, hb2⟩)))
          go_ret
          exact ⟨rfl, B1.out.trans (hb2.mono B1.out.size)⟩
        rw [hF] at cF
        have hsz : endC (cmL L) i ≤ 100000000 := by
          have h1 := cms_max _ SM.out
          have h2 : ((cmL L).take i).length ≤ 20 := by rw [List.length_take]; omega
          have h3 : ((cmL L).take i).length * 1179728 ≤ 20 * 1179728 := Nat.mul_le_mul_right _ h2
          unfold endC; omega
        obtain ⟨a5, c5, e5, _, _, _⟩ := own_form HC.out.2.1
        subst e5
        have cP : ∀ W, Below wr.heap.size wr W → Calls Tryd.prog 19 #[.slice a5 (endC (cmL L) i) c5, .agg (cmV x)] W (NewB W (cmsB ((cmL L).take (i + 1)))) := fun W hW => by
          have hWw : Below w.heap.size w W := hBr.trans (hW.mono hBr.size)
          have h1 := kPut_any a5 (endC (cmL L) i) c5 (cmsB ((cmL L).take i)) x rs ws W (BAt.of_own (own_below HC.out.2.1 hW)) (by omega) (hz.later hWw) hn hm (HU.out W hWw)
          unfold putC at h1
          rw [if_pos hF, ← HS.out] at h1; exact h1
        have SM2 := Lib.hid (HSM.out hF)
        clear hf hF hz HS HSM
        go_upto_region 10 with (first | (go_at_call 8; ((with_reducible refine (cW _ hBr).mono ?_); rintro e w1 ⟨rfl, hb1⟩; have B1 := Lib.hid (hBr.trans (hb1.mono hBr.size)); (clear x0 x1 x2 x3 x4 x5 x6 x7 x8 x9); obtain ⟨x0, x1, x2, x3, x4, x5, x6, x7, x8, x9⟩ := HX.out _ B1.out)) | (go_at_call 9; ((with_reducible refine (cF _ B1.out).mono ?_); rintro e w2 ⟨rfl, hb2⟩; have B2 := Lib.hid (B1.out.trans (hb2.mono B1.out.size)); (clear x0 x1 x2 x3 x4 x5 x6 x7 x8 x9); obtain ⟨x0, x1, x2, x3, x4, x5, x6, x7, x8, x9⟩ := HX.out _ B2.out)))
        have hbW : Below wr.heap.size wr w2 := hb1.trans (hb2.mono hb1.size)
        go_upto_region 11 with (go_at_call 19; ((with_reducible refine (cP _ hbW).mono ?_); rintro e w3 ⟨a6, n6, c6, rfl, ho6, hb6⟩))
        have hoe2 := own_below (own_below HC.out.2.2 hbW) hb6
        have hn6 : n6 = endC (cmL L) (i + 1) := by unfold endC; rw [own_len ho6]
        have hsz3 : w.heap.size ≤ w3.heap.size := Nat.le_trans B2.out.size hb6.size
        have hn6' : n6 ≤ 1000000000 := by
          have h1 := cms_max _ SM2.out
          have h2 : ((cmL L).take (i + 1)).length ≤ 20 := by rw [List.length_take]; omega
          have h3 : ((cmL L).take (i + 1)).length * 1179728 ≤ 20 * 1179728 := Nat.mul_le_mul_right _ h2
          have h4 := own_len ho6
          omega
        have HN6 : Hid (endsC (cmL L) (i + 1) = endsC (cmL L) i ++ [.int .i64 ((n6 : Nat) : Int)]) := by unfold Hid; rw [hn6]; exact endsC_succ _ _
        have HO6 := Lib.hid ho6
        have HB6 := Lib.hid hb6
        have i20 : i ≤ 20 := by omega
        clear cW cF cP ho6 hb6 hn6
        (clear x0 x1 x2 x3 x4 x5 x6 x7 x8 x9)
        go_wp2_with (at_builtin; (refine wpList_append_row _ rfl _ _ 54 rfl w.heap.size 3 i1 (.int .i64 0) 8 Tryd.underlying54 ji jz0 jz1 jz2 rfl u6 i (endsC (cmL L) i) rfl (hoe2.alloc _) (some ⟨w3.heap.size, 0, none⟩) 1 1 [.int .i64 ((n6 : Nat) : Int)] rfl (CellsAt.one1 _ _ _) (by intro x hx; simp at hx; subst hx; rfl) (by unfold maxLen; omega) (by omega) (by simp; omega) ?_; intro v3 w4 ho3 hg3 hat3; rw [← HN6.out] at ho3; have R3 := Lib.hid (HC.out.step hbW HO6.out HB6.out rfl ho3 hg3); clear ho3 hg3 hat3))
        go_roundw
        case rel => exact ⟨i + 1, by omega, by go_num, SM2.out, R3.out⟩
        case measure => simp [intOf]; omega
      · obtain rfl : n = i := by omega
        obtain ⟨V, hV⟩ : ∃ V, V = wr := ⟨_, rfl⟩
        subst hV
        have hte : (cmL L).take n = cmL L := List.take_of_length_le (by omega)
        rw [hte] at SM
        obtain ⟨_, hob, hoe⟩ := hC
        rw [hte] at hob
        clear hsm HC
        have hN : endC (cmL L) n = (cmsB (cmL L)).length := by unfold endC; rw [hte]
        have hNm : (cmsB (cmL L)).length ≤ 100000000 := by
          have h1 := cms_max _ SM.out
          have h3 : (cmL L).length * 1179728 ≤ 20 * 1179728 := Nat.mul_le_mul_right _ (by omega)
          omega
        rw [hN] at hob
        obtain ⟨a5, c5, rfl, hnc5, hcm5, _⟩ := own_form hob
        obtain ⟨a6, c6, rfl, hnc6, hcm6, _⟩ := own_form hoe
        have HB5 := Lib.hid (BAt.of_own hob)
        have hcell : ∀ j, j < n → ∃ b off, a6 = some ⟨b, off, none⟩ ∧ b < V.heap.size ∧ V.cell? ⟨b, off + j, none⟩ = some (.int .i64 ((endC (cmL L) (j + 1) : Nat) : Int)) := by
          intro j hj
          rcases CellsAt.of_own hoe with ⟨_, h | ⟨b, off, ha, hc⟩⟩
          · omega
          · have h1 := hc j _ (endsC_get (cmL L) n j hj)
            exact ⟨b, off, ha, block_lt h1, h1⟩
        have HCE := Lib.hid hcell
        have hszr := hBr.size
        have HEN : Hid (∀ j, j < n → endC (cmL L) (j + 1) ≤ 100000000) := fun j hj => by
          have h1 := cms_max ((cmL L).take (j + 1)) fun z hz => SM.out z (List.mem_of_mem_take hz)
          have h2 : ((cmL L).take (j + 1)).length ≤ 20 := by rw [List.length_take]; omega
          have h3 : ((cmL L).take (j + 1)).length * 1179728 ≤ 20 * 1179728 := Nat.mul_le_mul_right _ h2
          unfold endC; omega
        have HYES : Hid (∀ j (hj : j < L.length) r, endC (cmL L) (j + 1) ≤ r → cmF (((cmsB (cmL L)).take r).drop (endC (cmL L) j)) = some (cmT L[j].1 L[j].2.1 L[j].2.2, ((cmsB (cmL L)).take r).drop (endC (cmL L) (j + 1)))) := fun j hj r hr => by
          have hjc : j < (cmL L).length := by rw [cmL_len]; exact hj
          have h1 := cms_yes (cmL L) j r hjc (SM.out _ (List.getElem_mem hjc)) (by rw [cmL_get L j hj]; exact cm_ok (HL.out.2 _ (List.getElem_mem hj))) hr
          rw [cmL_get L j hj] at h1; exact h1
        have HNO : Hid (∀ j, j < L.length → ∀ r, r < endC (cmL L) (j + 1) → endC (cmL L) j ≤ r → cmF (((cmsB (cmL L)).take r).drop (endC (cmL L) j)) = none) := fun j hj r hr h0 => by
          have hjc : j < (cmL L).length := by rw [cmL_len]; exact hj
          exact cms_no (cmL L) j r hjc (SM.out _ (List.getElem_mem hjc)) (by rw [cmL_get L j hj]; exact cm_ok (HL.out.2 _ (List.getElem_mem hj))) hr h0
        have HEND : Hid (∀ r, r ≤ (cmsB (cmL L)).length → endC (cmL L) n ≤ r → ((cmsB (cmL L)).take r).drop (endC (cmL L) n) = []) := fun r h1 h2 => by
          rw [hN] at h2 ⊢
          exact List.drop_eq_nil_of_le (by rw [List.length_take]; omega)
        have HZ := Lib.hid (endC_zero (cmL L))
        have HSTEP : Hid (∀ j, endC (cmL L) j = endC (cmL L) j) := fun _ => rfl
        clear hcell hoe hob hN hte SM
        generalize cmsB (cmL L) = BB at *
        have hrm : t % (BB.length + 1) ≤ BB.length := Nat.le_of_lt_succ (Nat.mod_lt _ (by omega))
        have er : (t : Int) % ((BB.length : Int) + 1) = ((t % (BB.length + 1) : Nat) : Int) := by rw [Int.natCast_emod]; rfl
        have hB6 := HB5.out.take hrm
        unfold maxLen at hcm5 hcm6
        have hN1 : ¬ (BB.length : Int) + 1 = 0 := by omega
        have ER := Lib.hid er
        clear er
        generalize hrr : t % (BB.length + 1) = r at *
        have hrc5 : (r : Int) ≤ (c5 : Int) := by omega
        have hr6 : r ≤ 1099511627776 := by omega
        have HB6 := Lib.hid hB6
        have RM := Lib.hid hrm
        clear hrr hB6 HSTEP
        go_upto_region 13 with (fail)
        rw [ER.out]
        clear ER hN1
        go_upto_region 14 with (go_at_call 15; ((with_reducible refine (new_any a5 r c5 (BB.take r) _ HB6.out hr6).mono ?_); rintro e w2 ⟨g, rfl, hr2, hg2, hg2', hb2⟩; have R2 : Hid (RS g (some (BB.take r)) w2) := hr2; clear hr2))
        have hgw : w.heap.size ≤ g := Nat.le_trans hszr hg2
        go_wp2
        go_loopw [10] (fun x wr => ∃ (j : Nat), j ≤ n ∧ x = .int .i64 j ∧ RS g (some ((BB.take r).drop (endC (cmL L) j))) wr ∧ Below V.heap.size V wr ∧ endC (cmL L) j ≤ r) (fun x _ => n - (intOf x).toNat)
        case atStart => exact ⟨0, by omega, rfl, by rw [HZ.out, List.drop_zero]; exact R2.out, hb2, by rw [HZ.out]; exact Nat.zero_le _⟩
        case round =>
          obtain ⟨j, hj, rfl, hR, hB3, hjr⟩ := hrel
          have D0 := Lib.hid hR
          have B0 : Hid (Below w.heap.size w wr) := hBr.trans (hB3.mono hBr.size)
          clear hR R2
          by_cases hji : j < n
          · have hlj : j < L.length := by omega
            obtain ⟨b6, off6, rfl, hb6, hc6⟩ := HCE.out j hji
            obtain ⟨b0, off, rfl, hb0, k0, k1, k2, k3, k4, k5, k6, k7, k8, k9⟩ := HL.out.at_ (i := j) hlj
            have hz := HL.out.2 L[j] (List.getElem_mem hlj)
            have HY := Lib.hid (HYES.out j hlj r)
            have HN := Lib.hid (HNO.out j hlj r)
            have hE := HEN.out j hji
            generalize L[j] = z at *
            obtain ⟨x, rs, ws⟩ := z
            simp only at hz HY k0 k1 k2 k3 k4 k5 k6 k7 k8 k9
            have HX : Hid (∀ W, Below w.heap.size w W → (W.cell? ⟨b0, off + j * 10, none⟩ = some (.int .i64 x.k) ∧ W.cell? ⟨b0, off + j * 10 + 1, none⟩ = some (.int .i64 x.s) ∧ W.cell? ⟨b0, off + j * 10 + 2, none⟩ = some (.int .i64 x.q) ∧ W.cell? ⟨b0, off + j * 10 + 3, none⟩ = some (.slice x.a x.n x.c) ∧ W.cell? ⟨b0, off + j * 10 + 4, none⟩ = some (.slice x.b x.m x.d) ∧ W.cell? ⟨b0, off + j * 10 + 5, none⟩ = some (.int .i64 x.i) ∧ W.cell? ⟨b0, off + j * 10 + 6, none⟩ = some (.int .i64 x.j) ∧ W.cell? ⟨b0, off + j * 10 + 7, none⟩ = some (.int .i64 x.g) ∧ W.cell? ⟨b0, off + j * 10 + 8, none⟩ = some (.int .u64 ((x.st : Nat) : Int)) ∧ W.cell? ⟨b0, off + j * 10 + 9, none⟩ = some (.bool x.y))) := fun W hW => ⟨(hW.cell (p := ⟨b0, off + j * 10, none⟩) hb0).trans k0, (hW.cell (p := ⟨b0, off + j * 10 + 1, none⟩) hb0).trans k1, (hW.cell (p := ⟨b0, off + j * 10 + 2, none⟩) hb0).trans k2, (hW.cell (p := ⟨b0, off + j * 10 + 3, none⟩) hb0).trans k3, (hW.cell (p := ⟨b0, off + j * 10 + 4, none⟩) hb0).trans k4, (hW.cell (p := ⟨b0, off + j * 10 + 5, none⟩) hb0).trans k5, (hW.cell (p := ⟨b0, off + j * 10 + 6, none⟩) hb0).trans k6, (hW.cell (p := ⟨b0, off + j * 10 + 7, none⟩) hb0).trans k7, (hW.cell (p := ⟨b0, off + j * 10 + 8, none⟩) hb0).trans k8, (hW.cell (p := ⟨b0, off + j * 10 + 9, none⟩) hb0).trans k9⟩
            have H6 : Hid (∀ W, Below V.heap.size V W → W.cell? ⟨b6, off6 + j, none⟩ = some (.int .i64 ((endC (cmL L) (j + 1) : Nat) : Int))) := fun W hW => (hW.cell (p := ⟨b6, off6 + j, none⟩) hb6).trans hc6
            clear k0 k1 k2 k3 k4 k5 k6 k7 k8 k9 hc6
            have ix : (j : Int) < (n : Int) := by omega
            have hs2 := hB3.size
            generalize hM : (BB.take r).drop (endC (cmL L) j) = M at *
            go_upto_region 18 with (go_at_call 16; ((with_reducible refine (kTake_any g (some M) _ D0.out (HU.out _ B0.out)).mono ?_); rintro e w3 ⟨y, rs1, ws1, st1, rfl, hr3, ho3, hT3, hn3, hR3, hz3⟩))
            have hal := one_box w3 (cmV y) 30
            have B3 : Below V.heap.size V w3 := Only.below hB3 ho3 hg2 hs2
            have B4 : Hid (Below V.heap.size V (w3.alloc (.cells (cmV y) 30))) := B3.trans (hal.mono B3.size)
            have BW : Hid (Below w.heap.size w (w3.alloc (.cells (cmV y) 30))) := hBr.trans (B4.out.mono hszr)
            have T4 := Lib.hid (hT3.later hal)
            have D4 : Hid (RS g st1 (w3.alloc (.cells (cmV y) 30))) := hr3.below hal
            have X4 : Hid (Boxs w (w3.alloc (.cells (cmV y) 30)) [(w3.heap.size, cmV y, 30)]) := Boxs.more (l := []) ⟨hBr.trans (B3.mono hszr), fun _ h => by cases h⟩ (cmV y) 30
            have ny : y.n ≤ 1000000 := by omega
            have my : y.m ≤ 1000000 := by omega
            have R4 := Lib.hid hR3
            have Z4 := Lib.hid hz3
            clear hr3 ho3 hT3 hR3 hz3 hal B3 hn3 D0 B0
            generalize w3.alloc (.cells (cmV y) 30) = W4 at *
            generalize w3.heap.size = G at *
            have hc7 := H6.out _ B4.out
            obtain ⟨y0, y1, y2, y3, y4, y5, y6, y7, y8, y9⟩ := (X4.out.get 0 _ _ _ rfl).ten
            by_cases hEr : endC (cmL L) (j + 1) ≤ r
            · have hY := HY.out hEr
              obtain ⟨e1, e2⟩ := R4.out.same (Res.yes hY)
              subst e1
              have e3 := e2 (by simp)
              have Q := Lib.hid ((sameC_iff y x rs1 rs ws1 ws).2 e3)
              have cS : ∀ W, Boxs w W [(G, cmV y, 30)] → CmAt W y rs1 ws1 → Calls Tryd.prog 14 #[.agg (cmV y), .agg (cmV x)] W (Says W true) := fun W hW h1 => by
                have h := dSame_any y x rs1 rs ws1 ws W h1 (hz.later hW.bel) ny my
                rw [Q.out] at h; exact h
              have cOK : ∀ W, RS g (some ((BB.take r).drop (endC (cmL L) (j + 1)))) W → Calls Tryd.prog 21 #[.pointer (some ⟨g, 0, none⟩)] W fun e w' => e = .returned (.bool true) ∧ W = w' := fun W h => okS_any g _ W h
              have i6 : ¬ ((endC (cmL L) (j + 1) : Nat) : Int) > (r : Int) := by omega
              have d6 : decide ((r : Int) < ((endC (cmL L) (j + 1) : Nat) : Int)) = false := by simp; omega
              have REL := Lib.hid hEr
              clear e2 e3 hY HY HN R4 Z4 hM hz
              generalize hE1 : endC (cmL L) (j + 1) = E1 at *
              generalize hM1 : (BB.take r).drop E1 = M1 at *
              have HE1 := Lib.hid hE1
              have HM1 := Lib.hid hM1
              clear hE1 hM1
              go_upto_region 20 with (fail)
              have HSS : Hid (∀ W, Boxs w W [(G, cmV y, 30)] → ((W.cell? ⟨G, 0, none⟩ = some (.int .i64 y.k) ∧ W.cell? ⟨G, 1, none⟩ = some (.int .i64 y.s) ∧ W.cell? ⟨G, 2, none⟩ = some (.int .i64 y.q) ∧ W.cell? ⟨G, 3, none⟩ = some (.slice y.a y.n y.c) ∧ W.cell? ⟨G, 4, none⟩ = some (.slice y.b y.m y.d) ∧ W.cell? ⟨G, 5, none⟩ = some (.int .i64 y.i) ∧ W.cell? ⟨G, 6, none⟩ = some (.int .i64 y.j) ∧ W.cell? ⟨G, 7, none⟩ = some (.int .i64 y.g) ∧ W.cell? ⟨G, 8, none⟩ = some (.int .u64 ((y.st : Nat) : Int)) ∧ W.cell? ⟨G, 9, none⟩ = some (.bool y.y)) ∧ (W.cell? ⟨b0, off + j * 10, none⟩ = some (.int .i64 x.k) ∧ W.cell? ⟨b0, off + j * 10 + 1, none⟩ = some (.int .i64 x.s) ∧ W.cell? ⟨b0, off + j * 10 + 2, none⟩ = some (.int .i64 x.q) ∧ W.cell? ⟨b0, off + j * 10 + 3, none⟩ = some (.slice x.a x.n x.c) ∧ W.cell? ⟨b0, off + j * 10 + 4, none⟩ = some (.slice x.b x.m x.d) ∧ W.cell? ⟨b0, off + j * 10 + 5, none⟩ = some (.int .i64 x.i) ∧ W.cell? ⟨b0, off + j * 10 + 6, none⟩ = some (.int .i64 x.j) ∧ W.cell? ⟨b0, off + j * 10 + 7, none⟩ = some (.int .i64 x.g) ∧ W.cell? ⟨b0, off + j * 10 + 8, none⟩ = some (.int .u64 ((x.st : Nat) : Int)) ∧ W.cell? ⟨b0, off + j * 10 + 9, none⟩ = some (.bool x.y)))) := fun W hW => ⟨(hW.get 0 _ _ _ rfl).ten, HX.out W hW.bel⟩
              have Y0 := Lib.hid X4.out.drew
              have s0 := HSS.out _ Y0.out
              have DD : Hid (RS g (some M1) W4.drew) := D4.out.below (below_drewN 1 (Below.refl _ _))
              have TT : Hid (CmAt W4.drew y rs1 ws1) := T4.out.later (below_drewN 1 (Below.refl _ _))
              (clear y0 y1 y2 y3 y4 y5 y6 y7 y8 y9)
              go_region_held3 (fun W => ((W.cell? ⟨G, 0, none⟩ = some (.int .i64 y.k) ∧ W.cell? ⟨G, 1, none⟩ = some (.int .i64 y.s) ∧ W.cell? ⟨G, 2, none⟩ = some (.int .i64 y.q) ∧ W.cell? ⟨G, 3, none⟩ = some (.slice y.a y.n y.c) ∧ W.cell? ⟨G, 4, none⟩ = some (.slice y.b y.m y.d) ∧ W.cell? ⟨G, 5, none⟩ = some (.int .i64 y.i) ∧ W.cell? ⟨G, 6, none⟩ = some (.int .i64 y.j) ∧ W.cell? ⟨G, 7, none⟩ = some (.int .i64 y.g) ∧ W.cell? ⟨G, 8, none⟩ = some (.int .u64 ((y.st : Nat) : Int)) ∧ W.cell? ⟨G, 9, none⟩ = some (.bool y.y)) ∧ (W.cell? ⟨b0, off + j * 10, none⟩ = some (.int .i64 x.k) ∧ W.cell? ⟨b0, off + j * 10 + 1, none⟩ = some (.int .i64 x.s) ∧ W.cell? ⟨b0, off + j * 10 + 2, none⟩ = some (.int .i64 x.q) ∧ W.cell? ⟨b0, off + j * 10 + 3, none⟩ = some (.slice x.a x.n x.c) ∧ W.cell? ⟨b0, off + j * 10 + 4, none⟩ = some (.slice x.b x.m x.d) ∧ W.cell? ⟨b0, off + j * 10 + 5, none⟩ = some (.int .i64 x.i) ∧ W.cell? ⟨b0, off + j * 10 + 6, none⟩ = some (.int .i64 x.j) ∧ W.cell? ⟨b0, off + j * 10 + 7, none⟩ = some (.int .i64 x.g) ∧ W.cell? ⟨b0, off + j * 10 + 8, none⟩ = some (.int .u64 ((x.st : Nat) : Int)) ∧ W.cell? ⟨b0, off + j * 10 + 9, none⟩ = some (.bool x.y)))) (first | (with_reducible exact s0) | (with_reducible exact s1))
                (first | (go_at_call 21; ((with_reducible refine (cOK _ DD.out).mono ?_); rintro e w' ⟨rfl, rfl⟩)) | (go_at_call 14; ((with_reducible refine (cS _ Y0.out TT.out).mono ?_); rintro e v1 ⟨rfl, hbv⟩; have Y1 := Lib.hid (Y0.out.below hbv); have s1 := HSS.out _ Y1.out)))
              have RB : Hid (RS g (some M1) v1) := DD.out.below hbv
              have BB4 : Hid (Below V.heap.size V v1) := (below_drewN 1 B4.out).trans (hbv.mono (by have := B4.out.size; simpa using this))
              clear s0 s1
              go_wp2
              go_roundw
              case rel => exact ⟨j + 1, by omega, by go_num, by rw [HE1.out, HM1.out]; exact RB.out, BB4.out, by rw [HE1.out]; exact REL.out⟩
              case measure => simp [intOf]; omega
            · have hY := HN.out (by omega) hjr
              have e1 : st1 = none := by
                rcases R4.out with ⟨l, r', e, h2, _⟩ | ⟨_, e⟩
                · injection e with e; subst e
                  rw [hY] at h2; cases h2
                · exact e
              subst e1
              have Q := Lib.hid ((sameC_iff y zeroM rs1 [] ws1 []).2 (Z4.out rfl))
              have cS : Calls Tryd.prog 13 #[.agg (cmV y), .agg zeroV] W4 (Says W4 true) := by
                have h := kSame_any y zeroM rs1 [] ws1 [] W4 T4.out CmAt.zero ny my
                rw [Q.out] at h; exact h
              have i6 : (r : Int) < ((endC (cmL L) (j + 1) : Nat) : Int) := by omega
              clear hY HY HN R4 Z4 hM hz
              generalize endC (cmL L) (j + 1) = E1 at *
              go_wp2_with (first | (go_at_call 21; ((with_reducible refine (okS_any g none _ D4.out).mono ?_); rintro e w' ⟨rfl, rfl⟩)) | (go_at_call 13; ((with_reducible refine cS.mono ?_); rintro e w5 ⟨rfl, hb5⟩)))
              go_ret
              exact ⟨rfl, BW.out.trans (hb5.mono BW.out.size)⟩
          · obtain rfl : j = n := by omega
            have hM := HEND.out r RM.out hjr
            rw [hM] at D0
            have D1 : Hid (RdAt wr g [] true) := D0.out
            go_wp2_with (go_at_call 24; ((with_reducible refine (end_any g [] true _ D1.out).mono ?_); rintro e w' ⟨rfl, rfl⟩))
            go_ret
            exact ⟨rfl, B0.out⟩
  · have hd : decide ((20 : Int) < (n : Int)) = true := by simp; omega
    go_enter Tryd.func5, Tryd.ntmps5
    go_upto_region 2 with (go_at_call 7; ((with_reducible refine (cA _ (Below.refl _ _)).mono ?_); rintro e w1 ⟨rfl, hb1⟩))
    go_wp2_with (go_at_call 7; ((with_reducible refine (cA _ hb1).mono ?_); rintro e w2 ⟨rfl, hb2⟩))
    go_ret
    exact ⟨rfl, hb1.trans (hb2.mono hb1.size)⟩
end Go.Proofs.YtpkbjbhmghdnoaaDoor
