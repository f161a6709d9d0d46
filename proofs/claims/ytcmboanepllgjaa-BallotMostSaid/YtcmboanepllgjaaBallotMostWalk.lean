/- The walk of the statement BallotMost. Conditions: the list that came in lies in memory. -/
import Derived.Test.YtcmboanepllgjaaBallotMost

import Derived.Laws.StructEq

namespace Go.Proofs.Ytcmboanepllgjaa

open Go.RowKit

set_option linter.unusedVariables false

theorem Try.info24 : (Try.prog.info? 24).map (fun i => (i.zero, i.size, i.bytes)) = some (some (.agg #[.int .u32 0, .int .i64 0]), 2, 16) := by kernel_rfl
theorem Try.info28 : (Try.prog.info? 28).map (fun i => (i.zero, i.size, i.bytes)) = some (some (.agg #[.int .u32 0, .int .i64 0]), 2, 16) := by kernel_rfl

/-- Two lists that are made side by side. -/
def TwoB (w W : World) (v u : Value) (l m : List Bal) : Prop :=
  Below w.heap.size w W ∧ W.ownsRow w.heap.size 24 2 v l.length (l.flatMap balC) ∧ W.ownsRow w.heap.size 28 2 u m.length (m.flatMap balC) ∧ (∀ j, v.ownBlock = some j → u.ownBlock ≠ some j)
theorem flat_snoc (l : List Bal) (y : Bal) : l.flatMap balC ++ balC y = (l ++ [y]).flatMap balC := by simp [List.flatMap_append]
section

variable {w W W' : World} {v u v' u' : Value} {l m : List Bal} {y : Bal} {o : Obj}

theorem TwoB.bel (h : TwoB w W v u l m) : Below w.heap.size w W := h.1
theorem TwoB.ownV (h : TwoB w W v u l m) : W.ownsRow w.heap.size 24 2 v l.length (l.flatMap balC) := h.2.1
theorem TwoB.ownU (h : TwoB w W v u l m) : W.ownsRow w.heap.size 28 2 u m.length (m.flatMap balC) := h.2.2.1
theorem TwoB.pushV (h : TwoB w W v u l m) (ho : W'.ownsRow w.heap.size 24 2 v' (l.length + 1) (l.flatMap balC ++ balC y)) (hg : (W.alloc o).grownBy W' v.ownBlock) (hat : v'.ownBlock = v.ownBlock ∨ v'.ownBlock = some (W.alloc o).heap.size) : TwoB w W' v' u (l ++ [y]) m := by
  have hsz := h.1.size
  refine ⟨(h.1.alloc hsz o).grown hg (by simp; omega) (fun k hk => (h.2.1.lt k hk).1), by rw [flat_snoc] at ho; simpa using ho, ownk_grown (h.2.2.1.alloc o) hg (fun j hj e => h.2.2.2 j e hj), fun j hj e => ?_⟩
  rcases hat with e1 | e1
  · exact h.2.2.2 j (e1 ▸ hj) e
  · rw [e1] at hj; injection hj with hj
    have := (h.2.2.1.lt j e).2
    simp at hj; omega
theorem TwoB.pushU (h : TwoB w W v u l m) (ho : W'.ownsRow w.heap.size 28 2 u' (m.length + 1) (m.flatMap balC ++ balC y)) (hg : (W.alloc o).grownBy W' u.ownBlock) (hat : u'.ownBlock = u.ownBlock ∨ u'.ownBlock = some (W.alloc o).heap.size) : TwoB w W' v u' l (m ++ [y]) := by
  have hsz := h.1.size
  refine ⟨(h.1.alloc hsz o).grown hg (by simp; omega) (fun k hk => (h.2.2.1.lt k hk).1), ownk_grown (h.2.1.alloc o) hg (fun j hj e => h.2.2.2 j hj e), by rw [flat_snoc] at ho; simpa using ho, fun j hj e => ?_⟩
  rcases hat with e1 | e1
  · exact h.2.2.2 j hj (e1 ▸ e)
  · rw [e1] at e; injection e with e
    have := (h.2.1.lt j hj).2
    simp at e; omega
theorem RowAt.oneB (W : World) (y : Bal) (t : TypeId) : RowAt (W.alloc (.cells #[.int .u32 y.1, .int .i64 y.2] t)) (W.heap.size + 1) (some ⟨W.heap.size, 0, none⟩) 1 2 (balC y) := RowAt.one W #[.int .u32 y.1, .int .i64 y.2] t
theorem balC_cells (y : Bal) : ∀ u ∈ balC y, u.oneCell' = true := by
  intro u hu
  simp only [balC, List.mem_cons, List.not_mem_nil, or_false] at hu
  rcases hu with rfl | rfl <;> rfl
end

set_option maxHeartbeats 1000000 in
theorem most6_walk (a : Option Addr) (n c : Nat) (l : List Bal) (w : World) (hl : BalsAt w w.heap.size a n l) (hc : n ≤ c) (hm : c ≤ maxLen) :
    Calls Try.prog 4 #[.slice a n c] w (Says w true) := by
  obtain ⟨i0, hi, hz0, hz1, hz2⟩ := info_parts Try.info24
  obtain ⟨i1, hi', hz0', hz1', hz2'⟩ := info_parts Try.info28
  have hm' := hm
  unfold maxLen at hm'
  by_cases h100 : n ≤ 100
  · have d1 : decide ((100 : Int) < (n : Int)) = false := by simp; omega
    have hlen := hl.1
    have HB := Lib.hid hl
    clear hl
    go_enter Try.func4, Try.ntmps4
    go_upto_region 6 with (go_at_call 10; ((with_reducible refine (awake6_any _).mono ?_); rintro e w1 ⟨rfl, hb1⟩; have HB1 := Lib.hid (HB.out.below hb1 (Nat.le_refl _)); have HW := Lib.hid hb1; clear hb1))
    go_loopw [3, 4, 5] (fun v u i wr => ∃ k : Nat, k ≤ n ∧ i = .int .i64 k ∧ TwoB w wr v u (l.take k) (l.take k)) (fun _ _ i _ => n - (intOf i).toNat)
    case atStart => exact ⟨0, by omega, rfl, HW.out, World.ownsRow_nil _ _ _ _, World.ownsRow_nil _ _ _ _, fun j h => by cases h⟩
    case round =>
      obtain ⟨k, hk, rfl, hT⟩ := hrel
      have HT := Lib.hid hT
      clear hT HB1 HW
      have HSZ := Lib.hid HT.out.bel.size
      by_cases hlt : k < n
      · obtain ⟨b, off, rfl, hbB, y0, y1⟩ := (HB.out.below HT.out.bel (Nat.le_refl _)).at_ (i := k) (by omega)
        have hTk : l.take (k + 1) = l.take k ++ [l[k]'(by omega)] := by rw [List.take_succ_eq_append_getElem (by omega)]
        have HTk := Lib.hid hTk
        have HLt : Hid ((l.take k).length ≤ 100) := by unfold Hid; simp; omega
        clear hTk
        have hbw : b < wr.heap.size := Nat.lt_of_lt_of_le hbB HSZ.out
        generalize l[k]'(by omega) = y at y0 y1 HTk
        generalize l.take k = m at HT HTk HLt
        obtain ⟨r1, r2⟩ := y
        go_upto_region 9 with (at_builtin; (refine wpList_append_rowk _ rfl _ _ 37 rfl w.heap.size 24 i0 _ 2 16 Try.underlying37 hi hz0 hz1 hz2 rfl (by omega) _ m.length (m.flatMap balC) rfl (HT.out.ownV.alloc _) (wr.heap.size + 1) (some ⟨wr.heap.size, 0, none⟩) 1 1 (balC (r1, r2)) rfl (RowAt.oneB wr (r1, r2) _) (balC_cells _) (by have := HLt.out; unfold maxLen; omega) (by have := HLt.out; omega) (by have := HSZ.out; simp; omega) ?_; intro v2 w2 ho2 hg2 hat2; have R := Lib.hid (HT.out.pushV ho2 hg2 hat2); clear ho2 hg2 hat2))
        obtain ⟨b', off', e1, _, z0, z1⟩ : ∃ b' off', (some ⟨b, off, none⟩ : Option Addr) = some ⟨b', off', none⟩ ∧ b' < w.heap.size ∧ w2.cell? ⟨b', off' + k * 2, none⟩ = some (.int .u32 r1) ∧ w2.cell? ⟨b', off' + k * 2 + 1, none⟩ = some (.int .i64 r2) :=
          ⟨b, off, rfl, hbB, by rw [R.out.bel.cell (p := ⟨b, _, none⟩) hbB, ← HT.out.bel.cell (p := ⟨b, _, none⟩) hbB]; exact y0, by rw [R.out.bel.cell (p := ⟨b, _, none⟩) hbB, ← HT.out.bel.cell (p := ⟨b, _, none⟩) hbB]; exact y1⟩
        injection e1 with e1
        injection e1 with e1 e2
        subst e1; subst e2
        have HSZ2 := Lib.hid R.out.bel.size
        clear y0 y1 HT hbw
        have hbw : b < w2.heap.size := Nat.lt_of_lt_of_le hbB HSZ2.out
        go_wp2_with (at_builtin; (refine wpList_append_rowk _ rfl _ _ 38 rfl w.heap.size 28 i1 _ 2 16 Try.underlying38 hi' hz0' hz1' hz2' rfl (by omega) _ m.length (m.flatMap balC) rfl (R.out.ownU.alloc _) (w2.heap.size + 1) (some ⟨w2.heap.size, 0, none⟩) 1 1 (balC (r1, r2)) rfl (RowAt.oneB w2 (r1, r2) _) (balC_cells _) (by have := HLt.out; unfold maxLen; omega) (by have := HLt.out; omega) (by have := HSZ2.out; simp; omega) ?_; intro v3 w3 ho3 hg3 hat3; have R3 := Lib.hid (R.out.pushU ho3 hg3 hat3); clear ho3 hg3 hat3))
        go_roundw
        case rel => exact ⟨k + 1, by omega, by go_num, by rw [HTk.out]; exact R3.out⟩
        case measure => simp [intOf]; omega
      · have hkn : k = n := by omega
        subst hkn
        have eT : l.take k = l := List.take_of_length_le (by omega)
        rw [eT] at HT
        have hv := HT.out.ownV
        have hu := HT.out.ownU
        rw [hlen] at hv hu
        obtain ⟨a1, c1, rfl, p1, p2⟩ := ownk_form hv
        obtain ⟨a2, c2, rfl, p3, p4⟩ := ownk_form hu
        have V1 : Hid (BalsAt wr wr.heap.size a1 k l) := ⟨hlen, RowAt.of_own hv⟩
        have V2 : Hid (BalsAt wr wr.heap.size a2 k l) := ⟨hlen, RowAt.of_own hu⟩
        have P2 := Lib.hid p2
        have P4 := Lib.hid p4
        have HBl := Lib.hid HT.out.bel
        clear hv hu HT eT p2 p4
        have cM := bMost_any a1 k c1 l wr V1.out p1 P2.out
        have cR : ∀ W, BalsAt W wr.heap.size a2 k l → wr.heap.size ≤ W.heap.size → Calls Try.prog 16 #[.slice a2 k c2] W (AnsB W (mostB l)) := fun W h hs => rMost_any a2 k c2 l W ⟨h.1, h.2.more hs⟩ p3 P4.out
        generalize mostB l = M at cM cR
        obtain ⟨M1, M2⟩ := M
        go_wp2_with (first | (go_at_call 15; ((with_reducible refine cM.mono ?_); rintro e w5 ⟨rfl, hb5⟩; have V3 := Lib.hid (V2.out.below hb5 (Nat.le_refl _)); have S5 := Lib.hid hb5.size; have B5 := Lib.hid (HBl.out.trans (hb5.mono HBl.out.size)))) | (go_at_call 16; ((with_reducible refine (cR _ V3.out S5.out).mono ?_); rintro e w6 ⟨rfl, hb6⟩; have B6 := Lib.hid (B5.out.trans (hb6.mono B5.out.size)))))
        go_ret
        exact ⟨rfl, B6.out⟩
  · have d1 : decide ((100 : Int) < (n : Int)) = true := by simp; omega
    go_enter Try.func4, Try.ntmps4
    go_wp2_with (first | (go_at_call 10; ((with_reducible refine (awake6_any w).mono ?_); rintro e w1 ⟨rfl, hb1⟩; have H1 := Lib.hid hb1; clear hb1)) | (go_at_call 10; ((with_reducible refine (awake6_any _).mono ?_); rintro e w2 ⟨rfl, hb2⟩; have H2 := Lib.hid (H1.out.trans (hb2.mono H1.out.size)); clear hb2)))
    go_ret
    exact ⟨rfl, H2.out⟩
end Go.Proofs.Ytcmboanepllgjaa
