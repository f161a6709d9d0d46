/- Contract of the document's net's Bag. Condition: the net lies in memory. Contract of the document's net's Send. Condition: the net lies in memory. Contract of the document's net's Take. Condition: the net lies in memory. Contracts of the document's net's drop and Clear. Condition: the net lies in memory. -/
import Derived.Test.YtgdgjgcmglgfmaaNetRef
import Derived.RangeFuncBox
/- NetRefBag -/
namespace Go.Proofs.Ytgdgjgcmglgfmaa

open Go.RowKit

set_option linter.unusedVariables false
set_option linter.unusedSimpArgs false

/-- The packets of a link; their slices. -/
def fl (ps : List Pc) (k : Lk) : List Pc := ps.filter fun p => decide (p.k = k)
def slV (ps : List Pc) : List Value := ps.map fun p => .slice p.a p.n p.c
theorem fl_take (ps : List Pc) (k : Lk) (j : Nat) (hj : j < ps.length) : fl (ps.take (j + 1)) k = fl (ps.take j) k ++ if ps[j].k = k then [ps[j]] else [] := by
  rw [List.take_succ_eq_append_getElem hj]
  unfold fl
  rw [List.filter_append]
  congr 1
  by_cases h : ps[j].k = k <;> simp [h]
theorem fl_len (ps : List Pc) (k : Lk) : (fl ps k).length = cnt ps k := rfl
theorem slV_app (A B : List Pc) : slV (A ++ B) = slV A ++ slV B := by simp [slV]
theorem cells_one (w : World) (u : Value) (t : TypeId) : CellsAt (w.alloc (.cells #[u] t)) (some ⟨w.heap.size, 0, none⟩) 1 [u] := by
  refine ⟨rfl, .inr ⟨w.heap.size, 0, rfl, fun j x hx => ?_⟩⟩
  have hb := BoxC.new w #[u] t
  match j with
  | 0 => injection hx with hx; subst hx; exact hb.cell 0 _ rfl
  | j + 1 => simp at hx
/-- Which of two numbers differs first. -/
theorem lk_cases (k : Lk) (f t : Int) : (k.1 = f ∧ k.2 = t ∧ k = (f, t)) ∨ (k.1 = f ∧ ¬ k.2 = t ∧ ¬ k = (f, t)) ∨ (¬ k.1 = f ∧ ¬ k = (f, t)) := by
  by_cases h1 : k.1 = f
  · by_cases h2 : k.2 = t
    · exact .inl ⟨h1, h2, Prod.ext h1 h2⟩
    · exact .inr (.inl ⟨h1, h2, fun e => h2 (by rw [e])⟩)
  · exact .inr (.inr ⟨h1, fun e => h1 (by rw [e])⟩)

set_option maxRecDepth 100000 in
set_option maxHeartbeats 4000000 in
theorem bagR_any (W0 V : World) (h : Nat) (v : Value) (ps : List Pc) (H : RefIn W0 V h v ps) (hl : ps.length ≤ 1099511627776) (f t : Int) :
    Calls Try.prog 17 #[.pointer (some ⟨h, 0, none⟩), .int .i64 f, .int .i64 t] V fun e w' => ∃ a c, e = .returned (.slice a (cnt ps (f, t)) c) ∧ w'.ownsRow V.heap.size 32 1 (.slice a (cnt ps (f, t)) c) (cnt ps (f, t)) (slV (fl ps (f, t))) ∧ Below V.heap.size V w' := by
  obtain ⟨i0, hi, hz0, hz1, hz2⟩ := info_parts Try.info32
  obtain ⟨a, c, rfl, hnc, hcm⟩ := H.form
  have HH := Lib.hid H
  have HL := Lib.hid hl
  have CC := Lib.hid H.cell.1
  have c0 := CC.out
  clear H hl hnc hcm
  go_enter Try.func17, Try.ntmps17
  go_wp2
  go_loopw [7, 8] (fun o i wr => ∃ (j : Nat) (a1 : Option Addr) (c1 : Nat), i = .int .i64 j ∧ j ≤ ps.length ∧ o = .slice a1 (cnt (ps.take j) (f, t)) c1 ∧ wr.ownsRow V.heap.size 32 1 (.slice a1 (cnt (ps.take j) (f, t)) c1) (cnt (ps.take j) (f, t)) (slV (fl (ps.take j) (f, t))) ∧ Below V.heap.size V wr) (fun _ i _ => ps.length - (intOf i).toNat)
  case atStart => exact ⟨0, none, 0, rfl, Nat.zero_le _, rfl, World.ownsRow_nil _ _ _ _, Below.refl _ _⟩
  case round =>
    obtain ⟨j, a1, c1, rfl, hj, rfl, hrow, hB⟩ := hrel
    have RO := Lib.hid hrow
    have B := Lib.hid hB
    clear hrow hB c0
    have hV := Lib.hid (HH.out.below B.out)
    have c0 := hV.out.cell.1
    by_cases hlt : j < ps.length
    · obtain ⟨g, c', hv, y0, y1, y2⟩ := hV.out.at_ hlt
      have hd : decide ((j : Int) < (ps.length : Int)) = true := decide_eq_true (by omega)
      have hin : (j : Int) < (ps.length : Int) := by omega
      injection hv with hv1 hv2 hv3
      subst hv1
      clear hv2 hv3
      have hlen := HL.out
      have CT := Lib.hid (cnt_take ps (f, t) j hlt)
      have FT := Lib.hid (fl_take ps (f, t) j hlt)
      have hcl := cnt_le (ps.take j) (f, t)
      have hct : cnt (ps.take j) (f, t) ≤ 1099511627776 := by rw [List.length_take] at hcl; omega
      have EW : Hid (wrap64 ((j : Int) + 1) = ((j + 1 : Nat) : Int)) := by unfold Hid wrap64; omega
      have HC := Lib.hid hct
      clear hcl hct hlen
      obtain ⟨p, hp⟩ : ∃ p, ps[j] = p := ⟨_, rfl⟩
      rw [hp] at y0 y1 y2 CT FT
      rcases lk_cases p.k f t with ⟨h1, h2, h3⟩ | ⟨h1, h2, h3⟩ | ⟨h1, h3⟩
      · have CT2 : Hid (cnt (ps.take (j + 1)) (f, t) = cnt (ps.take j) (f, t) + 1) := by have := CT.out; rw [if_pos h3] at this; exact this
        have FT2 : Hid (slV (fl (ps.take (j + 1)) (f, t)) = slV (fl (ps.take j) (f, t)) ++ [.slice p.a p.n p.c]) := by have := FT.out; rw [if_pos h3] at this; unfold Hid; rw [this, slV_app]; rfl
        rw [h1] at y0
        rw [h2] at y1
        clear CT FT h1 h2 h3
        generalize hm : cnt (ps.take j) (f, t) = m at *
        generalize slV (fl (ps.take j) (f, t)) = xs at *
        have hs1 := B.out.size
        have hm1 := HC.out
        go_wp2_with (at_builtin; (refine wpList_append_row _ rfl _ _ 44 rfl V.heap.size 32 i0 (.slice none 0 0) 24 Try.underlying44 hi hz0 hz1 hz2 rfl _ m xs rfl (RO.out.alloc _) (some ⟨wr.heap.size, 0, none⟩) 1 1 [.slice p.a p.n p.c] rfl (cells_one _ _ _) (by intro x hx; simp at hx; subst hx; rfl) (by unfold maxLen; omega) (by omega) (by simp; omega) ?_; intro v3 w3 ho3 hg3 hat3; have B3 : Hid (Below V.heap.size V w3) := (B.out.alloc B.out.size _).grown hg3 (by simp; omega) (fun k e => (RO.out.lt k e).1); obtain ⟨a3, c3, rfl, _⟩ := own_form ho3; have R3 := Lib.hid ho3; clear ho3 hg3 hat3))
        go_roundw
        case rel => exact ⟨j + 1, a3, c3, by rw [EW.out], hlt, by rw [CT2.out], by rw [CT2.out, FT2.out]; exact R3.out, B3.out⟩
        case measure => exact mea_ps ps j EW.out hlt
      · have CT2 : Hid (cnt (ps.take (j + 1)) (f, t) = cnt (ps.take j) (f, t)) := by have := CT.out; rw [if_neg h3] at this; exact this
        have FT2 : Hid (fl (ps.take (j + 1)) (f, t) = fl (ps.take j) (f, t)) := by have := FT.out; rw [if_neg h3, List.append_nil] at this; exact this
        have h2b : (p.k.2 == t) = false := by simp [h2]
        rw [h1] at y0
        clear CT FT h1 h3 y2
        generalize p.k.2 = z at *
        go_wp2
        go_roundw
        case rel => exact ⟨j + 1, a1, c1, by rw [EW.out], hlt, by rw [CT2.out], by rw [CT2.out, FT2.out]; exact RO.out, B.out⟩
        case measure => exact mea_ps ps j EW.out hlt
      · have CT2 : Hid (cnt (ps.take (j + 1)) (f, t) = cnt (ps.take j) (f, t)) := by have := CT.out; rw [if_neg h3] at this; exact this
        have FT2 : Hid (fl (ps.take (j + 1)) (f, t) = fl (ps.take j) (f, t)) := by have := FT.out; rw [if_neg h3, List.append_nil] at this; exact this
        have h1b : (p.k.1 == f) = false := by simp [h1]
        clear CT FT h3 y2 y1
        generalize p.k.1 = z at *
        go_wp2
        go_roundw
        case rel => exact ⟨j + 1, a1, c1, by rw [EW.out], hlt, by rw [CT2.out], by rw [CT2.out, FT2.out]; exact RO.out, B.out⟩
        case measure => exact mea_ps ps j EW.out hlt
    · obtain rfl : j = ps.length := by omega
      have R2 := RO.out
      rw [List.take_length] at R2 ⊢
      have RR := Lib.hid R2
      clear hj R2
      generalize hm : cnt ps (f, t) = m at *
      have HM := Lib.hid hm
      clear hm
      go_wp2
      go_ret
      rw [HM.out]
      exact ⟨a1, c1, rfl, RR.out, B.out⟩
end Go.Proofs.Ytgdgjgcmglgfmaa

/- NetRefSend -/
namespace Go.Proofs.Ytgdgjgcmglgfmaa

open Go.RowKit

set_option linter.unusedVariables false
set_option linter.unusedSimpArgs false

/-- What a call that turns the document's net leaves. -/
def RStep (W0 V V' : World) (h : Nat) (own : List Nat) (ps' : List Pc) : Prop := ∃ own', RefC W0 V' h ps' own' ∧ Fr V V' own ∧ ∀ i ∈ own', i ∈ own ∨ V.heap.size ≤ i
theorem RStep.same {W0 V V' : World} {h : Nat} {v : Value} {ps : List Pc} (H : RefIn W0 V h v ps) (hb : Below V.heap.size V V') : RStep W0 V V' h (ownR h v) ps :=
  ⟨ownR h v, ⟨v, H.below hb, rfl⟩, Fr.of_below hb, fun i hi => .inl hi⟩
theorem Try.info70 : (Try.prog.info? 70).map (fun i => (i.zero, i.size, i.bytes)) = some (some (.agg #[.int .i64 0, .int .i64 0, .slice none 0 0]), 3, 40) := by kernel_rfl
theorem pcC_cells (p : Pc) : ∀ u ∈ pcC p, u.oneCell' = true := by
  intro u hu
  simp [pcC] at hu
  rcases hu with rfl | rfl | rfl <;> rfl
theorem pcCs_cells (ps : List Pc) : ∀ u ∈ ps.flatMap pcC, u.oneCell' = true := by
  intro u hu
  obtain ⟨p, _, hp⟩ := List.mem_flatMap.1 hu
  exact pcC_cells p u hp
theorem row_one (w : World) (p : Pc) (t : TypeId) : RowAt (w.alloc (.cells #[.int .i64 p.k.1, .int .i64 p.k.2, .slice p.a p.n p.c] t)) (w.heap.size + 1) (some ⟨w.heap.size, 0, none⟩) 1 3 (pcC p) := by
  refine ⟨rfl, .inr ⟨w.heap.size, 0, rfl, by omega, fun j x hx => ?_⟩⟩
  have hb := BoxC.new w #[.int .i64 p.k.1, .int .i64 p.k.2, .slice p.a p.n p.c] t
  match j with
  | 0 => injection hx with hx; subst hx; exact hb.cell 0 _ rfl
  | 1 => injection hx with hx; subst hx; exact hb.cell 1 _ rfl
  | 2 => injection hx with hx; subst hx; exact hb.cell 2 _ rfl
  | j + 3 => simp [pcC] at hx
theorem flC_snoc (ps : List Pc) (p : Pc) : (ps ++ [p]).flatMap pcC = ps.flatMap pcC ++ pcC p := by simp
/-- A row was made, and stored: it is a net of the document's again. -/
theorem ref_store {W0 V w3 : World} {h : Nat} {v v3 : Value} {ps ps' : List Pc} (H : RefIn W0 V h v ps) (hF : Fr V w3 v.ownBlock.toList) (hrow : w3.ownsRow W0.heap.size 70 3 v3 ps'.length (ps'.flatMap pcC))
    (hat : v3.ownBlock = v.ownBlock ∨ ∀ j, v3.ownBlock = some j → V.heap.size ≤ j) (hp : ∀ p ∈ ps', BAt V W0.heap.size p.a p.n p.l) :
    RStep W0 V (w3.setCell ⟨h, 0, none⟩ v3) h (ownR h v) ps' := by
  have hne := H.ne
  have hne3 : v3.ownBlock ≠ some h := by
    rcases hat with e | e
    · rw [e]; exact hne
    · intro e2
      have := e h e2
      have := H.box.lt
      omega
  have hB3 : Below W0.heap.size V w3 := Fr.below (Below.refl _ _) hF H.size (fun i hi => (H.lt i (List.mem_cons_of_mem _ hi)).1)
  have hbx : BoxC w3 h #[v] 30 := box_fr H.box hF (fun e => hne (by simpa using e))
  have hg := grownBy_setCell' w3 h v3
  refine ⟨ownR h v3, ⟨v3, ⟨hbx.set 0 v3, ownk_grown hrow hg (fun j hj e => hne3 (by rw [hj, e])), fun p hq => ?_, H.lo⟩, rfl⟩, ?_, fun i hi => ?_⟩
  · exact ((hp p hq).below hB3 (Nat.le_refl _)).below ((Below.refl W0.heap.size w3).setCell (p := ⟨h, 0, none⟩) H.lo v3) (Nat.le_refl _)
  · refine ⟨hF.os, hF.tape, hF.output, Nat.le_trans hF.size hg.size, fun i hi hn => ?_⟩
    have hih : i ≠ h := fun e => hn (by rw [e]; exact List.mem_cons_self ..)
    exact (Below.heap_setCell _ _ _ i (fun e => hih (by simpa using e))).trans (hF.block i hi (fun e => hn (List.mem_cons_of_mem _ e)))
  · rcases List.mem_cons.1 hi with rfl | hi
    · exact .inl (List.mem_cons_self ..)
    · rcases hat with e | e
      · rw [e] at hi; exact .inl (List.mem_cons_of_mem _ hi)
      · exact .inr (e i (by simpa using hi))
theorem fr_opt {W V : World} {v : Option Nat} (h : W.grownBy V v) : Fr W V v.toList :=
  ⟨h.os, h.tape, h.output, h.size, fun i hi hn => h.block i hi (fun e => hn (by rw [← e]; simp))⟩
/-- What Send answers. -/
def SendRR (W0 V : World) (h : Nat) (own : List Nat) (ps : List Pc) (p : Pc) (e : Ending) (w' : World) : Prop :=
  e = .returned (.bool (decide (cnt ps p.k < 64))) ∧ RStep W0 V w' h own (if cnt ps p.k < 64 then ps ++ [p] else ps)

set_option maxRecDepth 100000 in
set_option maxHeartbeats 4000000 in
theorem sendR_any (W0 V : World) (h : Nat) (v : Value) (ps : List Pc) (H : RefIn W0 V h v ps) (hl : ps.length ≤ 1099511627776) (f t : Int) (a : Option Addr) (n c : Nat) (l : Pk) (hb : BAt V W0.heap.size a n l) :
    Calls Try.prog 23 #[.pointer (some ⟨h, 0, none⟩), .int .i64 f, .int .i64 t, .slice a n c] V (SendRR W0 V h (ownR h v) ps ⟨(f, t), a, n, c, l⟩) := by
  obtain ⟨i0, hi, hz0, hz1, hz2⟩ := info_parts Try.info70
  have cB := bagR_any W0 V h v ps H hl f t
  by_cases h64 : cnt ps (f, t) < 64
  · have hd := decT h64
    have E1 : Hid (decide (cnt ps (f, t) < 64) = true) := decide_eq_true h64
    have HH := Lib.hid H
    have HL := Lib.hid hl
    have HB := Lib.hid hb
    have HX := Lib.hid h64
    clear hb h64
    generalize hm : cnt ps (f, t) = m at *
    have HM := Lib.hid hm
    clear hm
    go_enter Try.func23, Try.ntmps23
    go_upto_region 3 with (go_at_call 17; ((with_reducible refine cB.mono ?_); rintro e w1 ⟨a1, c1, rfl, hrow1, hb1⟩; have B1 := Lib.hid hb1; clear hrow1 hb1))
    have H1 := Lib.hid (HH.out.below B1.out)
    have c0 := H1.out.cell.1
    have f0 := H1.out.cell.2
    have hs0 := H1.out.size
    have hlen := HL.out
    have hrw := Lib.hid (H1.out.row.alloc (.cells #[.int .i64 f, .int .i64 t, .slice a n c] 70))
    go_wp2_with (at_builtin; (refine wpList_append_rowk _ rfl _ _ 28 rfl W0.heap.size 70 i0 _ 3 40 Try.underlying28 hi hz0 hz1 hz2 rfl (by omega) v ps.length (ps.flatMap pcC) rfl hrw.out (w1.heap.size + 1) (some ⟨w1.heap.size, 0, none⟩) 1 1 (pcC ⟨(f, t), a, n, c, l⟩) rfl (row_one w1 ⟨(f, t), a, n, c, l⟩ _) (pcC_cells _) (by unfold maxLen; omega) (by omega) (by simp; omega) ?_; intro v3 w3 ho3 hg3 hat3; have hF3 : Hid (Fr V w3 v.ownBlock.toList) := Fr.trans (Fr.of_below (own := v.ownBlock.toList) (B1.out.alloc B1.out.size _)) (fr_opt hg3) (fun i hi => .inl hi); have A3 := Lib.hid hat3; have O3 := Lib.hid ho3; obtain ⟨a3, c3, rfl, _⟩ := ownk_form ho3; have x0 := (box_fr HH.out.box hF3.out (fun e => HH.out.ne (by simpa using e))).cell 0 _ rfl; have x1 := (box_fr HH.out.box hF3.out (fun e => HH.out.ne (by simpa using e))).frozen 0; clear ho3 hg3 hat3))
    go_ret
    refine ⟨by show _ = Ending.returned (.bool (decide (cnt ps (f, t) < 64))); rw [HM.out, E1.out]; rfl, ?_⟩
    show RStep W0 V _ h (ownR h v) (if cnt ps (f, t) < 64 then ps ++ [⟨(f, t), a, n, c, l⟩] else ps)
    rw [HM.out, if_pos HX.out]
    refine ref_store HH.out hF3.out (by rw [flC_snoc, List.length_append]; exact O3.out) ?_ ?_
    · rcases A3.out with e | e
      · exact .inl e
      · exact .inr fun j hj => by rw [e] at hj; injection hj with hj; have := B1.out.size; simp at hj; omega
    · intro p hp
      rcases List.mem_append.1 hp with hp | hp
      · exact HH.out.pk p hp
      · simp at hp; subst hp; exact HB.out
  · have hd := decF h64
    have E1 : Hid (decide (cnt ps (f, t) < 64) = false) := decide_eq_false h64
    have HH := Lib.hid H
    have HX := Lib.hid h64
    clear hb h64 H
    generalize hm : cnt ps (f, t) = m at *
    have HM := Lib.hid hm
    clear hm
    go_enter Try.func23, Try.ntmps23
    go_wp2_with (go_at_call 17; ((with_reducible refine cB.mono ?_); rintro e w1 ⟨a1, c1, rfl, hrow1, hb1⟩; have B1 := Lib.hid hb1; clear hrow1 hb1))
    go_ret
    refine ⟨by show _ = Ending.returned (.bool (decide (cnt ps (f, t) < 64))); rw [HM.out, E1.out]; rfl, ?_⟩
    show RStep W0 V _ h (ownR h v) (if cnt ps (f, t) < 64 then ps ++ [⟨(f, t), a, n, c, l⟩] else ps)
    rw [HM.out, if_neg HX.out]
    exact RStep.same HH.out B1.out
end Go.Proofs.Ytgdgjgcmglgfmaa

/- NetRefTake -/
namespace Go.Proofs.Ytgdgjgcmglgfmaa

open Go.RowKit

set_option linter.unusedVariables false
set_option linter.unusedSimpArgs false

theorem cnt_mono (ps : List Pc) (k : Lk) : ∀ (i j : Nat), i ≤ j → cnt (ps.take i) k ≤ cnt (ps.take j) k := by
  intro i j hij
  have h : ps.take j = ps.take i ++ (ps.drop i).take (j - i) := by
    rw [show j = i + (j - i) by omega, List.take_add, show i + (j - i) - i = j - i by omega]
  rw [h, cnt_app]
  omega
theorem place_uniq {ps : List Pc} {k : Lk} {i j : Nat} (hi : i < ps.length) (hj : j < ps.length) (h1 : ps[i].k = k) (h2 : ps[j].k = k) (h : cnt (ps.take i) k = cnt (ps.take j) k) : i = j := by
  rcases Nat.lt_trichotomy i j with hlt | he | hlt
  · have h3 := cnt_take ps k i hi
    rw [if_pos h1] at h3
    have h4 := cnt_mono ps k (i + 1) j hlt
    omega
  · exact he
  · have h3 := cnt_take ps k j hj
    rw [if_pos h2] at h3
    have h4 := cnt_mono ps k (j + 1) i hlt
    omega
theorem place_ex (k : Lk) : ∀ (ps : List Pc) (m : Nat), m < cnt ps k → ∃ i, ∃ hi : i < ps.length, ps[i].k = k ∧ cnt (ps.take i) k = m
  | [], m, h => by simp [cnt] at h
  | p :: ps, m, h => by
    rw [cnt_cons] at h
    by_cases hk : p.k = k
    · rw [if_pos hk] at h
      cases m with
      | zero => exact ⟨0, by simp, hk, rfl⟩
      | succ m =>
        obtain ⟨i, hi, h1, h2⟩ := place_ex k ps m (by omega)
        exact ⟨i + 1, by simpa using hi, h1, by rw [List.take_succ_cons, cnt_cons, if_pos hk, h2]; omega⟩
    · rw [if_neg hk] at h
      obtain ⟨i, hi, h1, h2⟩ := place_ex k ps m (by omega)
      exact ⟨i + 1, by simpa using hi, h1, by rw [List.take_succ_cons, cnt_cons, if_neg hk, h2]; omega⟩
section

variable {W0 V : World} {h : Nat} {v : Value} {ps : List Pc}

theorem place_yes (H : RefIn W0 V h v ps) (hl : ps.length ≤ 1099511627776) (f t : Int) {i : Nat} (hi : i < ps.length) (hk : ps[i].k = (f, t)) :
    Calls Try.prog 39 #[.pointer (some ⟨h, 0, none⟩), .int .i64 f, .int .i64 t, .int .i64 (cnt (ps.take i) (f, t) : Nat)] V fun e w' => e = .returned (.int .i64 (i : Int)) ∧ V = w' := by
  have hc := cnt_le (ps.take i) (f, t)
  rw [List.length_take] at hc
  refine (place_any W0 V h v ps H hl f t (cnt (ps.take i) (f, t) : Nat) (by omega)).mono fun e w' ⟨hw, hr⟩ => ⟨?_, hw⟩
  rcases hr with ⟨j, hj, he, h1, h2⟩ | ⟨_, hno⟩
  · have := place_uniq hi hj hk h1 (by omega)
    subst this
    exact he
  · refine absurd ⟨by omega, ?_⟩ hno
    have h3 := cnt_take ps (f, t) i hi
    rw [if_pos hk] at h3
    have h4 := cnt_mono ps (f, t) (i + 1) ps.length hi
    rw [List.take_length] at h4
    omega
theorem place_no (H : RefIn W0 V h v ps) (hl : ps.length ≤ 1099511627776) (f t at_ : Int) (hat : -9223372036854775808 ≤ at_ ∧ at_ < 9223372036854775808) (hno : ¬ (0 ≤ at_ ∧ at_ < (cnt ps (f, t) : Int))) :
    Calls Try.prog 39 #[.pointer (some ⟨h, 0, none⟩), .int .i64 f, .int .i64 t, .int .i64 at_] V fun e w' => e = .returned (.int .i64 (-1)) ∧ V = w' := by
  refine (place_any W0 V h v ps H hl f t at_ hat).mono fun e w' ⟨hw, hr⟩ => ⟨?_, hw⟩
  rcases hr with ⟨j, hj, he, h1, h2⟩ | ⟨he, _⟩
  · refine absurd ⟨by omega, ?_⟩ hno
    have h3 := cnt_take ps (f, t) j hj
    rw [if_pos h1] at h3
    have h4 := cnt_mono ps (f, t) (j + 1) ps.length hj
    rw [List.take_length] at h4
    omega
  · exact he
end

/-- Some packets of the row. -/
theorem ref_part {V : World} {base g n c : Nat} {e : TypeId} {ps : List Pc} (H : V.ownsRow base e 3 (.slice (some ⟨g, 0, none⟩) n c) n (ps.flatMap pcC)) (i m : Nat) (hm : i + m ≤ ps.length) : RowAt V V.heap.size (some ⟨g, i * 3, none⟩) m 3 (((ps.drop i).take m).flatMap pcC) := by
  refine ⟨by rw [flat_len pcC 3 pcC_len, List.length_take, List.length_drop]; congr 1; omega, .inr ⟨g, i * 3, rfl, (H.lt g rfl).2, fun j u hu => ?_⟩⟩
  have h1 := H.cells (g := g) rfl (i * 3 + j) u ?_
  · rw [add_plain] at h1
    simpa using h1
  · have e1 : ps = ps.take i ++ ((ps.drop i).take m ++ (ps.drop i).drop m) := by rw [List.take_append_drop, List.take_append_drop]
    have hl : ((ps.take i).flatMap pcC).length = i * 3 := by rw [flat_len pcC 3 pcC_len, List.length_take]; congr 1; omega
    have hj : j < (((ps.drop i).take m).flatMap pcC).length := by
      rcases Nat.lt_or_ge j (((ps.drop i).take m).flatMap pcC).length with hlt | hge
      · exact hlt
      · rw [List.getElem?_eq_none hge] at hu; cases hu
    conv => lhs; rw [e1]
    rw [List.flatMap_append, List.getElem?_append_right (by omega), hl, List.flatMap_append, show i * 3 + j - i * 3 = j by omega, List.getElem?_append_left hj]
    exact hu
theorem erase_row {w : World} {B e i : Nat} {v : Value} {ps : List Pc} (h : w.ownsRow B e 3 v (i + (ps.length - (i + 1))) ((ps.take i).flatMap pcC ++ ((ps.drop (i + 1)).take (ps.length - (i + 1))).flatMap pcC)) (hi : i < ps.length) : w.ownsRow B e 3 v (ps.eraseIdx i).length ((ps.eraseIdx i).flatMap pcC) := by
  have e1 : (ps.drop (i + 1)).take (ps.length - (i + 1)) = ps.drop (i + 1) := List.take_of_length_le (by rw [List.length_drop]; omega)
  rw [e1] at h
  have e2 : (ps.eraseIdx i).length = i + (ps.length - (i + 1)) := by rw [List.length_eraseIdx, if_pos hi]; omega
  rw [e2, List.eraseIdx_eq_take_drop_succ, List.flatMap_append]
  exact h
theorem erase_below {V w3 w4 : World} {v3 : Value} (hb : Below V.heap.size V w3) (ha : v3.ownBlock = (Value.slice none 0 0).ownBlock ∨ v3.ownBlock = some V.heap.size) (hg : w3.grownBy w4 v3.ownBlock) : Below V.heap.size V w4 :=
  hb.grown hg hb.size fun k e => by
    rcases ha with e2 | e2
    · rw [e2] at e; cases e
    · rw [e2] at e; injection e with e; omega
theorem erase_new {V w3 : World} {v3 v4 : Value} (hb : Below V.heap.size V w3) (ha : v3.ownBlock = (Value.slice none 0 0).ownBlock ∨ v3.ownBlock = some V.heap.size) (hat : v4.ownBlock = v3.ownBlock ∨ v4.ownBlock = some w3.heap.size) : ∀ j, v4.ownBlock = some j → V.heap.size ≤ j := by
  intro j hj
  rcases hat with e | e
  · rw [e] at hj
    rcases ha with e2 | e2
    · rw [e2] at hj; cases hj
    · rw [e2] at hj; injection hj with hj; omega
  · rw [e] at hj; injection hj with hj; have := hb.size; omega
/-- What Take answers. -/
def TakeRR (W0 V : World) (h : Nat) (own : List Nat) (ps : List Pc) (k : Lk) (at_ : Int) (e : Ending) (w' : World) : Prop :=
  (∃ i : Nat, ∃ hi : i < ps.length, ps[i].k = k ∧ at_ = (cnt (ps.take i) k : Int) ∧ e = .returned (.tuple #[.slice ps[i].a ps[i].n ps[i].c, .bool true]) ∧ RStep W0 V w' h own (ps.eraseIdx i)) ∨ (¬ (0 ≤ at_ ∧ at_ < (cnt ps k : Int)) ∧ e = .returned (.tuple #[.slice none 0 0, .bool false]) ∧ V = w')

set_option maxRecDepth 100000 in
set_option maxHeartbeats 4000000 in
theorem takeR_yes (W0 V : World) (h : Nat) (g c : Nat) (ps : List Pc) (H : RefIn W0 V h (.slice (some ⟨g, 0, none⟩) ps.length c) ps) (hl : ps.length ≤ 1099511627776) (f t : Int) (i : Nat) (hi : i < ps.length) (hk : ps[i].k = (f, t)) (p : Pc) (hp : ps[i] = p) :
    Calls Try.prog 24 #[.pointer (some ⟨h, 0, none⟩), .int .i64 f, .int .i64 t, .int .i64 (cnt (ps.take i) (f, t) : Nat)] V fun e w' => e = .returned (.tuple #[.slice p.a p.n p.c, .bool true]) ∧ RStep W0 V w' h (ownR h (.slice (some ⟨g, 0, none⟩) ps.length c)) (ps.eraseIdx i) := by
  obtain ⟨i0, hz, hz0, hz1, hz2⟩ := info_parts Try.info70
  have cP := place_yes H hl f t hi hk
  obtain ⟨g', c', hv, y0, y1, y2⟩ := H.at_ hi
  injection hv with hv1 hv2 hv3
  injection hv1 with hv1
  injection hv1 with hv1
  subst hv1
  clear hv2 hv3 y0 y1
  have hform := H.form
  have hcap : ps.length ≤ c ∧ c ≤ maxLen := by
    obtain ⟨a2, c2, e2, h1, h2⟩ := hform
    injection e2 with _ _ e3
    subst e3
    exact ⟨h1, h2⟩
  have HH := Lib.hid H
  have HL := Lib.hid hl
  have HI := Lib.hid hi
  have HC := Lib.hid hcap
  have c0 := H.cell.1
  have R1 := Lib.hid (ref_part H.row 0 i (by omega))
  have R2 := Lib.hid (ref_part H.row (i + 1) (ps.length - (i + 1)) (by omega))
  have PK := Lib.hid H.pk
  clear H hl hk hform hcap
  rw [hp] at y2
  have hin : (i : Int) < (ps.length : Int) := by omega
  have hge : decide ((i : Int) < 0) = false := decide_eq_false (by omega)
  have EW : wrap64 ((i : Int) + 1) = ((i + 1 : Nat) : Int) := by have := HL.out; unfold wrap64; omega
  clear hp hi
  go_enter Try.func24, Try.ntmps24
  go_upto_region 6 with (go_at_call 39; ((with_reducible refine cP.mono ?_); rintro e w1 ⟨rfl, rfl⟩))
  have hi1 : (i : Int) ≤ (c : Int) := by have := HC.out; have := HI.out; omega
  have hi2 : ((i + 1 : Nat) : Int) ≤ (ps.length : Int) := by have := HI.out; omega
  have hi3 : (ps.length : Int) ≤ (c : Int) := by have := HC.out; omega
  have hlen := HL.out
  have hilt := HI.out
  have hsz := HH.out.size
  have E1 : RowAt V V.heap.size (some ⟨g, 0, none⟩) i 3 ((ps.take i).flatMap pcC) := by have := R1.out; simpa using this
  go_upto_region 7 with (at_builtin; (refine wpList_append_rowk _ rfl _ _ 28 rfl W0.heap.size 70 i0 _ 3 40 Try.underlying28 hz hz0 hz1 hz2 rfl (by omega) _ 0 [] rfl (World.ownsRow_nil _ _ _ _) V.heap.size (some ⟨g, 0, none⟩) i c ((ps.take i).flatMap pcC) rfl E1 (pcCs_cells _) (by unfold maxLen; omega) (by omega) hsz ?_; intro v3 w3 ho3 hg3 hat3; rw [Nat.zero_add, List.nil_append] at ho3; have B3 : Hid (Below V.heap.size V w3) := (Below.refl _ _).grown hg3 (Nat.le_refl _) (fun k e => by cases e); obtain ⟨a3, c3, rfl, _⟩ := ownk_form ho3; have O3 := Lib.hid ho3; have A3 := Lib.hid hat3; clear ho3 hg3 hat3))
  have H3 := Lib.hid (HH.out.below B3.out)
  have z0 := H3.out.cell.1
  have zf := H3.out.cell.2
  clear c0 y2
  have T2 : RowAt w3 V.heap.size (some ⟨g, (i + 1) * 3, none⟩) (ps.length - (i + 1)) 3 (((ps.drop (i + 1)).take (ps.length - (i + 1))).flatMap pcC) := R2.out.below B3.out (Nat.le_refl _)
  have T1 : ps.length - (i + 1) = 0 → RowAt w3 V.heap.size (some ⟨g, 0, none⟩) (ps.length - (i + 1)) 3 (((ps.drop (i + 1)).take (ps.length - (i + 1))).flatMap pcC) := fun h0 => ⟨T2.1, .inl h0⟩
  by_cases hcap : c = i + 1
  · have S1 := T1 (by omega)
    subst hcap
    go_upto_region 8 with (at_builtin; (refine wpList_append_rowk _ rfl _ _ 28 rfl W0.heap.size 70 i0 _ 3 40 Try.underlying28 hz hz0 hz1 hz2 rfl (by omega) _ i ((ps.take i).flatMap pcC) rfl O3.out V.heap.size (some ⟨g, 0, none⟩) (ps.length - (i + 1)) 0 (((ps.drop (i + 1)).take (ps.length - (i + 1))).flatMap pcC) rfl S1 (pcCs_cells _) (by unfold maxLen; omega) (by omega) (by have := B3.out.size; omega) ?_; intro v4 w4 ho4 hg4 hat4; have B4 := Lib.hid (erase_below B3.out A3.out hg4); have N4 := Lib.hid (erase_new B3.out A3.out hat4); obtain ⟨a4, c4, rfl, _⟩ := ownk_form ho4; have O4 := Lib.hid ho4; clear ho4 hg4 hat4))
    have H4 := Lib.hid (HH.out.below B4.out)
    have z0 := H4.out.cell.1
    have zf := H4.out.cell.2
    go_wp2
    go_ret2
    refine ⟨rfl, ref_store HH.out (Fr.of_below B4.out) (erase_row O4.out hilt) (.inr N4.out) fun q hq => PK.out q (List.mem_of_mem_eraseIdx hq)⟩
  · go_upto_region 8 with (at_builtin; (refine wpList_append_rowk _ rfl _ _ 28 rfl W0.heap.size 70 i0 _ 3 40 Try.underlying28 hz hz0 hz1 hz2 rfl (by omega) _ i ((ps.take i).flatMap pcC) rfl O3.out V.heap.size (some ⟨g, (i + 1) * 3, none⟩) (ps.length - (i + 1)) (c - (i + 1)) (((ps.drop (i + 1)).take (ps.length - (i + 1))).flatMap pcC) rfl T2 (pcCs_cells _) (by unfold maxLen; omega) (by omega) (by have := B3.out.size; omega) ?_; intro v4 w4 ho4 hg4 hat4; have B4 := Lib.hid (erase_below B3.out A3.out hg4); have N4 := Lib.hid (erase_new B3.out A3.out hat4); obtain ⟨a4, c4, rfl, _⟩ := ownk_form ho4; have O4 := Lib.hid ho4; clear ho4 hg4 hat4))
    have H4 := Lib.hid (HH.out.below B4.out)
    have z0 := H4.out.cell.1
    have zf := H4.out.cell.2
    go_wp2
    go_ret2
    refine ⟨rfl, ref_store HH.out (Fr.of_below B4.out) (erase_row O4.out hilt) (.inr N4.out) fun q hq => PK.out q (List.mem_of_mem_eraseIdx hq)⟩
set_option maxHeartbeats 1000000 in
theorem takeR_no (W0 V : World) (h : Nat) (v : Value) (ps : List Pc) (H : RefIn W0 V h v ps) (hl : ps.length ≤ 1099511627776) (f t at_ : Int) (hat : -9223372036854775808 ≤ at_ ∧ at_ < 9223372036854775808) (hno : ¬ (0 ≤ at_ ∧ at_ < (cnt ps (f, t) : Int))) :
    Calls Try.prog 24 #[.pointer (some ⟨h, 0, none⟩), .int .i64 f, .int .i64 t, .int .i64 at_] V fun e w' => e = .returned (.tuple #[.slice none 0 0, .bool false]) ∧ V = w' := by
  have cP := place_no H hl f t at_ hat hno
  clear hno hat hl H
  go_enter Try.func24, Try.ntmps24
  go_wp2_with (go_at_call 39; ((with_reducible refine cP.mono ?_); rintro e w1 ⟨rfl, rfl⟩))
  go_ret2
  exact ⟨rfl, rfl⟩
theorem takeR_any (W0 V : World) (h : Nat) (v : Value) (ps : List Pc) (H : RefIn W0 V h v ps) (hl : ps.length ≤ 1099511627776) (f t at_ : Int) (hat : -9223372036854775808 ≤ at_ ∧ at_ < 9223372036854775808) :
    Calls Try.prog 24 #[.pointer (some ⟨h, 0, none⟩), .int .i64 f, .int .i64 t, .int .i64 at_] V (TakeRR W0 V h (ownR h v) ps (f, t) at_) := by
  by_cases hx : 0 ≤ at_ ∧ at_ < (cnt ps (f, t) : Int)
  · obtain ⟨i, hi, hk, hc⟩ := place_ex (f, t) ps at_.toNat (by omega)
    obtain ⟨g, c, rfl, _⟩ := H.at_ hi
    have e : at_ = (cnt (ps.take i) (f, t) : Int) := by omega
    rw [e]
    exact (takeR_yes W0 V h g c ps H hl f t i hi hk _ rfl).mono fun e w' ⟨h1, h2⟩ => .inl ⟨i, hi, hk, rfl, h1, h2⟩
  · exact (takeR_no W0 V h v ps H hl f t at_ hat hx).mono fun e w' ⟨h1, h2⟩ => .inr ⟨hx, h1, h2⟩
/-- What Double answers. -/
def DoubRR (W0 V : World) (h : Nat) (own : List Nat) (ps : List Pc) (k : Lk) (at_ : Int) (e : Ending) (w' : World) : Prop :=
  (∃ i : Nat, ∃ hi : i < ps.length, ps[i].k = k ∧ at_ = (cnt (ps.take i) k : Int) ∧ SendRR W0 V h own ps ps[i] e w') ∨ (¬ (0 ≤ at_ ∧ at_ < (cnt ps k : Int)) ∧ e = .returned (.bool false) ∧ V = w')
theorem pc_eta (p : Pc) (k : Lk) (h : p.k = k) : (⟨k, p.a, p.n, p.c, p.l⟩ : Pc) = p := by subst h; rfl
set_option maxHeartbeats 1000000 in
theorem doubleR_yes (W0 V : World) (h : Nat) (v : Value) (ps : List Pc) (H : RefIn W0 V h v ps) (hl : ps.length ≤ 1099511627776) (f t : Int) (i : Nat) (hi : i < ps.length) (hk : ps[i].k = (f, t)) (p : Pc) (hp : ps[i] = p) :
    Calls Try.prog 26 #[.pointer (some ⟨h, 0, none⟩), .int .i64 f, .int .i64 t, .int .i64 (cnt (ps.take i) (f, t) : Nat)] V (SendRR W0 V h (ownR h v) ps p) := by
  have cP := place_yes H hl f t hi hk
  have hpk := H.pk _ (List.getElem_mem hi)
  rw [hp] at hpk hk
  have cS := sendR_any W0 V h v ps H hl f t p.a p.n p.c p.l hpk
  rw [pc_eta p (f, t) hk] at cS
  obtain ⟨g, c, rfl, y0, y1, y2⟩ := H.at_ hi
  have c0 := H.cell.1
  have hin : (i : Int) < (ps.length : Int) := by omega
  have hge : decide ((i : Int) ≥ 0) = true := decide_eq_true (by omega)
  rw [hp] at y2
  generalize cnt (ps.take i) (f, t) = m at *
  clear hk hpk y0 y1 H hp
  go_enter Try.func26, Try.ntmps26
  go_wp2_with (first | (go_at_call 39; ((with_reducible refine cP.mono ?_); rintro e w1 ⟨rfl, rfl⟩)) | (go_at_call 23; ((with_reducible refine cS.mono ?_); rintro e w2 hr; have RR := Lib.hid hr; obtain ⟨rfl, _⟩ := hr)))
  go_ret
  exact RR.out
set_option maxHeartbeats 1000000 in
theorem doubleR_any (W0 V : World) (h : Nat) (v : Value) (ps : List Pc) (H : RefIn W0 V h v ps) (hl : ps.length ≤ 1099511627776) (f t at_ : Int) (hat : -9223372036854775808 ≤ at_ ∧ at_ < 9223372036854775808) :
    Calls Try.prog 26 #[.pointer (some ⟨h, 0, none⟩), .int .i64 f, .int .i64 t, .int .i64 at_] V (DoubRR W0 V h (ownR h v) ps (f, t) at_) := by
  by_cases hx : 0 ≤ at_ ∧ at_ < (cnt ps (f, t) : Int)
  · obtain ⟨i, hi, hk, hc⟩ := place_ex (f, t) ps at_.toNat (by omega)
    have e : at_ = (cnt (ps.take i) (f, t) : Int) := by omega
    rw [e]
    exact (doubleR_yes W0 V h v ps H hl f t i hi hk _ rfl).mono fun e w' hr => .inl ⟨i, hi, hk, rfl, hr⟩
  · have cP := place_no H hl f t at_ hat hx
    have HX := Lib.hid hx
    clear hx hat hl H
    go_enter Try.func26, Try.ntmps26
    go_wp2_with (go_at_call 39; ((with_reducible refine cP.mono ?_); rintro e w1 ⟨rfl, rfl⟩))
    go_ret
    exact .inr ⟨HX.out, rfl, rfl⟩
end Go.Proofs.Ytgdgjgcmglgfmaa

/- NetRefDrop -/
namespace Go.Proofs.Ytgdgjgcmglgfmaa

open Go.RowKit

set_option linter.unusedVariables false
set_option linter.unusedSimpArgs false

/-- What drop leaves. -/
def keepQ (f t : Int) (one : Bool) (p : Pc) : Bool := !(decide (p.k.2 = t) && (!one || decide (p.k.1 = f)))
def flt (ps : List Pc) (f t : Int) (one : Bool) : List Pc := ps.filter (keepQ f t one)
theorem flt_take (ps : List Pc) (f t : Int) (one : Bool) (j : Nat) (hj : j < ps.length) : flt (ps.take (j + 1)) f t one = flt (ps.take j) f t one ++ if keepQ f t one ps[j] then [ps[j]] else [] := by
  rw [List.take_succ_eq_append_getElem hj]
  unfold flt
  rw [List.filter_append]
  congr 1
  cases h : keepQ f t one ps[j] <;> simp [h]
theorem flt_le (ps : List Pc) (f t : Int) (one : Bool) : (flt ps f t one).length ≤ ps.length := List.length_filter_le _ _

theorem ownk_base {w : World} {B B' e n k : Nat} {v : Value} {xs : List Value} (h : w.ownsRow B' e k v n xs) (hB : B ≤ B') : w.ownsRow B e k v n xs := by
  refine ⟨h.1, ?_⟩
  rcases h.2 with h1 | ⟨g, cap, cur, hv, h1, hr⟩
  · exact .inl h1
  · exact .inr ⟨g, cap, cur, hv, Nat.le_trans hB h1, hr⟩

set_option maxRecDepth 100000 in
set_option maxHeartbeats 4000000 in
theorem dropR_any (W0 V : World) (h : Nat) (v : Value) (ps : List Pc) (H : RefIn W0 V h v ps) (hl : ps.length ≤ 1099511627776) (f t : Int) (one : Bool) :
    Calls Try.prog 40 #[.pointer (some ⟨h, 0, none⟩), .int .i64 f, .int .i64 t, .bool one] V fun e w' => e = .returned (.int .i64 ((ps.length - (flt ps f t one).length : Nat) : Int)) ∧ RStep W0 V w' h (ownR h v) (flt ps f t one) := by
  obtain ⟨i0, hi, hz0, hz1, hz2⟩ := info_parts Try.info70
  have HH0 := Lib.hid H
  obtain ⟨a, c, rfl, hnc, hcm⟩ := H.form
  have HH := Lib.hid H
  have HL := Lib.hid hl
  have c0 := H.cell.1
  clear H hl hnc hcm
  go_enter Try.func40, Try.ntmps40
  go_wp2
  go_loopw [9, 10] (fun o i wr => ∃ (j : Nat) (a1 : Option Addr) (c1 : Nat), i = .int .i64 j ∧ j ≤ ps.length ∧ o = .slice a1 (flt (ps.take j) f t one).length c1 ∧ wr.ownsRow V.heap.size 70 3 (.slice a1 (flt (ps.take j) f t one).length c1) (flt (ps.take j) f t one).length ((flt (ps.take j) f t one).flatMap pcC) ∧ Below V.heap.size V wr) (fun _ i _ => ps.length - (intOf i).toNat)
  case atStart => exact ⟨0, none, 0, rfl, Nat.zero_le _, rfl, World.ownsRow_nil _ _ _ _, Below.refl _ _⟩
  case round =>
    obtain ⟨j, a1, c1, rfl, hj, rfl, hrow, hB⟩ := hrel
    have RO := Lib.hid hrow
    have B := Lib.hid hB
    clear hrow hB c0
    have hV := Lib.hid (HH.out.below B.out)
    have c0 := hV.out.cell.1
    by_cases hlt : j < ps.length
    · obtain ⟨g, c', hv, y0, y1, y2⟩ := hV.out.at_ hlt
      have hd : decide ((j : Int) < (ps.length : Int)) = true := decide_eq_true (by omega)
      have hin : (j : Int) < (ps.length : Int) := by omega
      injection hv with hv1 hv2 hv3
      subst hv1
      clear hv2 hv3
      have hlen := HL.out
      have FT := Lib.hid (flt_take ps f t one j hlt)
      have hcl := flt_le (ps.take j) f t one
      have hct : (flt (ps.take j) f t one).length ≤ 1099511627776 := by rw [List.length_take] at hcl; omega
      have EW : Hid (wrap64 ((j : Int) + 1) = ((j + 1 : Nat) : Int)) := by unfold Hid wrap64; omega
      have HC := Lib.hid hct
      clear hcl hct hlen
      obtain ⟨p, hp⟩ : ∃ p, ps[j] = p := ⟨_, rfl⟩
      rw [hp] at y0 y1 y2 FT
      have hsz1 := B.out.size
      have hm1 := HC.out
      have YES : Hid (keepQ f t one p = true → flt (ps.take (j + 1)) f t one = flt (ps.take j) f t one ++ [p]) := fun h0 => by have := FT.out; rw [if_pos h0] at this; exact this
      have NO : Hid (keepQ f t one p = false → flt (ps.take (j + 1)) f t one = flt (ps.take j) f t one) := fun h0 => by have := FT.out; rw [if_neg (by rw [h0]; simp), List.append_nil] at this; exact this
      clear FT
      have RW := row_one wr p 70
      generalize hq : flt (ps.take j) f t one = qs at *
      have HQ := Lib.hid hq
      clear hq
      by_cases h2 : p.k.2 = t
      · by_cases hk : one = true ∧ ¬ p.k.1 = f
        · obtain ⟨rfl, h1⟩ := hk
          have K := Lib.hid (YES.out (by unfold keepQ; simp [h1]))
          have h1b : (p.k.1 == f) = false := by simp [h1]
          rw [h2] at y1 RW
          clear h1 h2
          generalize he1 : p.k.1 = x1 at *
          have HE1 := Lib.hid he1
          clear he1
          go_wp2_with (at_builtin; (refine wpList_append_rowk _ rfl _ _ 28 rfl V.heap.size 70 i0 _ 3 40 Try.underlying28 hi hz0 hz1 hz2 rfl (by omega) _ qs.length (qs.flatMap pcC) rfl (RO.out.alloc _) (wr.heap.size + 1) (some ⟨wr.heap.size, 0, none⟩) 1 1 (pcC p) rfl RW (pcC_cells _) (by unfold maxLen; omega) (by omega) (by simp; omega) ?_; intro v3 w3 ho3 hg3 hat3; have B3 : Hid (Below V.heap.size V w3) := (B.out.alloc B.out.size _).grown hg3 (by simp; omega) (fun k e => (RO.out.lt k e).1); obtain ⟨a3, c3, rfl, _⟩ := ownk_form ho3; have R3 := Lib.hid ho3; clear ho3 hg3 hat3))
          go_roundw
          case rel => exact ⟨j + 1, a3, c3, by rw [EW.out], hlt, by rw [K.out, List.length_append]; rfl, by rw [K.out, List.length_append, flC_snoc]; exact R3.out, B3.out⟩
          case measure => exact mea_ps ps j EW.out hlt
        · have K := Lib.hid (NO.out (by unfold keepQ; cases one <;> simp [h2]; simp at hk; exact hk))
          have HK := Lib.hid hk
          rw [h2] at y1
          clear YES NO RW y2
          cases one with
          | false =>
            clear h2 hk
            go_wp2
            go_roundw
            case rel => exact ⟨j + 1, a1, c1, by rw [EW.out], hlt, by rw [K.out], by rw [K.out]; exact RO.out, B.out⟩
            case measure => exact mea_ps ps j EW.out hlt
          | true =>
            rw [show p.k.1 = f by simp at hk; exact hk] at y0
            clear h2 hk
            go_wp2
            go_roundw
            case rel => exact ⟨j + 1, a1, c1, by rw [EW.out], hlt, by rw [K.out], by rw [K.out]; exact RO.out, B.out⟩
            case measure => exact mea_ps ps j EW.out hlt
      · have K := Lib.hid (YES.out (by unfold keepQ; simp [h2]))
        have h2b : (p.k.2 == t) = false := by simp [h2]
        have h2n : (p.k.2 != t) = true := by simp [h2]
        clear h2
        generalize he1 : p.k.1 = x1 at *
        generalize he2 : p.k.2 = x2 at *
        have HE1 := Lib.hid he1
        have HE2 := Lib.hid he2
        clear he1 he2
        go_wp2_with (at_builtin; (refine wpList_append_rowk _ rfl _ _ 28 rfl V.heap.size 70 i0 _ 3 40 Try.underlying28 hi hz0 hz1 hz2 rfl (by omega) _ qs.length (qs.flatMap pcC) rfl (RO.out.alloc _) (wr.heap.size + 1) (some ⟨wr.heap.size, 0, none⟩) 1 1 (pcC p) rfl RW (pcC_cells _) (by unfold maxLen; omega) (by omega) (by simp; omega) ?_; intro v3 w3 ho3 hg3 hat3; have B3 : Hid (Below V.heap.size V w3) := (B.out.alloc B.out.size _).grown hg3 (by simp; omega) (fun k e => (RO.out.lt k e).1); obtain ⟨a3, c3, rfl, _⟩ := ownk_form ho3; have R3 := Lib.hid ho3; clear ho3 hg3 hat3))
        all_goals trace_state
        go_roundw
        case rel => exact ⟨j + 1, a3, c3, by rw [EW.out], hlt, by rw [K.out, List.length_append]; rfl, by rw [K.out, List.length_append, flC_snoc]; exact R3.out, B3.out⟩
        case measure => exact mea_ps ps j EW.out hlt
    · obtain rfl : j = ps.length := by omega
      have R2 := RO.out
      rw [List.take_length] at R2 ⊢
      have RR := Lib.hid R2
      have LE := flt_le ps f t one
      have f0 := hV.out.cell.2
      have hlen := HL.out
      have EX : Hid (wrap64 ((ps.length : Int) - ((flt ps f t one).length : Int)) = ((ps.length - (flt ps f t one).length : Nat) : Int)) := by unfold Hid wrap64; omega
      clear hj R2 hlen LE
      generalize hq : flt ps f t one = qs at *
      have HQ := Lib.hid hq
      clear hq
      go_wp2
      go_ret
      rw [HQ.out]
      refine ⟨by (try rw [EX.out]); rfl, ref_store HH.out (Fr.of_below B.out) (ownk_base RR.out HH.out.size) (.inr fun k hk => (RR.out.lt k hk).1) fun q hq => HH.out.pk q ?_⟩
      rw [← HQ.out] at hq
      exact (List.mem_filter.1 hq).1
set_option maxHeartbeats 1000000 in
theorem clearR_any (W0 V : World) (h : Nat) (v : Value) (ps : List Pc) (H : RefIn W0 V h v ps) (hl : ps.length ≤ 1099511627776) (t : Int) :
    Calls Try.prog 28 #[.pointer (some ⟨h, 0, none⟩), .int .i64 t] V fun e w' => e = .returned (.int .i64 ((ps.length - (flt ps 0 t false).length : Nat) : Int)) ∧ RStep W0 V w' h (ownR h v) (flt ps 0 t false) := by
  have cD := dropR_any W0 V h v ps H hl 0 t false
  clear H hl
  go_enter Try.func28, Try.ntmps28
  go_wp2_with (go_at_call 40; ((with_reducible refine cD.mono ?_); rintro e w1 ⟨rfl, hr⟩; have R := Lib.hid hr; clear hr))
  go_ret
  exact ⟨rfl, R.out⟩
end Go.Proofs.Ytgdgjgcmglgfmaa
