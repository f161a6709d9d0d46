/- Contracts of the document's disk: New, goes, Append, Bytes. Conditions: the disk lies in memory, and what is appended. -/
import Derived.Test.YtclfgkeepmdmjaaDiskReplace

namespace Go.Proofs.Ytclfgkeepmdmjaa

open Go.RowKit

set_option linter.unusedVariables false
set_option linter.unusedSimpArgs false

section

variable {W w1 w2 V : World} {g : Nat} {d : Dk} {vl vr vh v1 : Value} {own : List Nat} {l : List UInt8}

theorem DkR.setDown (h : DkR W g d vl vr vh) : DkR (W.setCell ⟨g, 4, none⟩ (.bool true)) g (downD d) vl vr vh :=
  ⟨h.box.set 4 (.bool true), h.rl.set h.far_box.1 _ _, h.rr.set h.far_box.2.1 _ _, h.rh.set h.far_box.2.2 _ _, h.sz, h.f1, h.f2, h.f3⟩
theorem DkR.setFuse (h : DkR W g d vl vr vh) (n : Int) : DkR (W.setCell ⟨g, 3, none⟩ (.int .i64 n)) g { d with fuse := n } vl vr vh :=
  ⟨h.box.set 3 (.int .i64 n), h.rl.set h.far_box.1 _ _, h.rr.set h.far_box.2.1 _ _, h.rh.set h.far_box.2.2 _ _, h.sz, h.f1, h.f2, h.f3⟩
theorem DkR.box_grown {v : Value} (h : DkR W g d vl vr vh) (hg : W.grownBy w1 v.ownBlock) (hv : v.ownBlock ≠ some g) : BoxC w1 g #[.int .i64 d.size, vl, vr, .int .i64 d.fuse, .bool d.down, .bool d.torn, vh] 37 := h.box.grown hg (fun e => hv e.symm)
/-- What does not last is appended to. -/
theorem DkR.appended {k n : Nat} (h : DkR W g d vl vr vh) (ho : w1.ownsRow 0 5 1 v1 (k + n) (bcells d.re ++ bcells l)) (hg : W.grownBy w1 vr.ownBlock) (hat : v1.ownBlock = vr.ownBlock ∨ v1.ownBlock = some W.heap.size) :
    DkR (w1.setCell ⟨g, 2, none⟩ v1) g { d with re := d.re ++ l } vl v1 vh ∧ Fr W (w1.setCell ⟨g, 2, none⟩ v1) (g :: bk vr) := by
  have hb := h.box_grown hg h.far_box.2.1
  have ho1 : OwnB w1 v1 (d.re ++ l) := by
    rw [← bcells_app] at ho
    exact OwnB.of_own ho
  have hne : v1.ownBlock ≠ some g := ho1.not_box hb (by decide)
  have hl : OwnB w1 vl d.la := h.rl.fr (Fr.grown hg) fun j hj e => h.f1 j hj (bk_mem.1 e)
  have hh : OwnB w1 vh d.half := h.rh.fr (Fr.grown hg) fun j hj e => h.f3 j (bk_mem.1 e) hj
  refine ⟨⟨hb.set 2 v1, hl.set h.far_box.1 _ _, ho1.set hne _ _, hh.set h.far_box.2.2 _ _, h.sz, (h.f1.symm.grown h.rl hat).symm, h.f2, h.f3.grown h.rh hat⟩, ?_⟩
  exact ((Fr.grown hg).wide (fun i hi => List.mem_cons_of_mem _ hi)).trans (Fr.set w1 g 2 v1) (fun i hi => .inl (by simp at hi; simp [hi]))
/-- What lasts is appended to, by what does not. -/
theorem DkR.synced {k n : Nat} (h : DkR W g d vl vr vh) (ho : w1.ownsRow 0 5 1 v1 (k + n) (bcells d.la ++ bcells d.re)) (hg : W.grownBy w1 vl.ownBlock) (hat : v1.ownBlock = vl.ownBlock ∨ v1.ownBlock = some W.heap.size) :
    DkR ((w1.setCell ⟨g, 1, none⟩ v1).setCell ⟨g, 2, none⟩ (.slice none 0 0)) g { d with la := d.la ++ d.re, re := [] } v1 (.slice none 0 0) vh ∧ Fr W ((w1.setCell ⟨g, 1, none⟩ v1).setCell ⟨g, 2, none⟩ (.slice none 0 0)) (g :: bk vl) := by
  have hb := h.box_grown hg h.far_box.1
  have ho1 : OwnB w1 v1 (d.la ++ d.re) := by
    rw [← bcells_app] at ho
    exact OwnB.of_own ho
  have hne : v1.ownBlock ≠ some g := ho1.not_box hb (by decide)
  have hh : OwnB w1 vh d.half := h.rh.fr (Fr.grown hg) fun j hj e => h.f2 j (bk_mem.1 e) hj
  refine ⟨⟨(hb.set 1 v1).set 2 _, (ho1.set hne _ _).set hne _ _, OwnB.nil _, (hh.set h.far_box.2.2 _ _).set h.far_box.2.2 _ _, h.sz, Far.nil, h.f2.grown h.rh hat, Far.nil'⟩, ?_⟩
  exact (((Fr.grown hg).wide (fun i hi => List.mem_cons_of_mem _ hi)).trans (Fr.set w1 g 1 v1) (fun i hi => .inl (by simp at hi; simp [hi]))).trans (Fr.set _ g 2 _) (fun i hi => .inl (by simp at hi; simp [hi]))
theorem DkR.setTorn (h : DkR V g d vl vr vh) (hF : Fresh W V v1 l) (hg : g < W.heap.size) (hv : (∀ j, vl.ownBlock = some j → j < W.heap.size) ∧ ∀ j, vr.ownBlock = some j → j < W.heap.size) : DkR ((V.setCell ⟨g, 5, none⟩ (.bool true)).setCell ⟨g, 6, none⟩ v1) g { d with torn := true, half := l } vl vr v1 :=
  ⟨(h.box.set 5 (.bool true)).set 6 v1, (h.rl.set h.far_box.1 _ _).set h.far_box.1 _ _, (h.rr.set h.far_box.2.1 _ _).set h.far_box.2.1 _ _, ((hF.set hg _ _).set hg _ _).own, h.sz, h.f1, fun j hj e => (by have := hv.1 j hj; have := hF.new j e; omega), fun j hj e => (by have := hv.2 j hj; have := hF.new j e; omega)⟩
theorem DkR.setNew (h : DkR V g d vl vr vh) (hF : Fresh W V v1 l) (hg : g < W.heap.size) (hv : ∀ j, vh.ownBlock = some j → j < W.heap.size) : DkR ((V.setCell ⟨g, 1, none⟩ v1).setCell ⟨g, 2, none⟩ (.slice none 0 0)) g { d with la := l, re := [] } v1 (.slice none 0 0) vh :=
  ⟨(h.box.set 1 v1).set 2 _, ((hF.set hg _ _).set hg _ _).own, OwnB.nil _, (h.rh.set h.far_box.2.2 _ _).set h.far_box.2.2 _ _, h.sz, Far.nil, fun j hj e => (by have := hv j e; have := hF.new j hj; omega), Far.nil'⟩
theorem Stp.ref {W' : World} {vl' vr' vh' : Value} {d' : Dk} (hF : Fr W W' own) (h' : DkR W' g d' vl' vr' vh') (hg : g ∈ own) (hl : ∀ j, vl'.ownBlock = some j → j ∈ own ∨ W.heap.size ≤ j) (hr : ∀ j, vr'.ownBlock = some j → j ∈ own ∨ W.heap.size ≤ j) (hh : ∀ j, vh'.ownBlock = some j → j ∈ own ∨ W.heap.size ≤ j) :
    Stp (fun V own => RD V g d' own) W W' own := by
  refine ⟨_, ⟨vl', vr', vh', h', rfl⟩, hF, fun i hi => ?_⟩
  rcases List.mem_cons.1 hi with rfl | hi
  · exact .inl hg
  · rcases List.mem_append.1 hi with hi | hi
    · rcases List.mem_append.1 hi with hi | hi
      · exact hl i (bk_mem.1 hi)
      · exact hr i (bk_mem.1 hi)
    · exact hh i (bk_mem.1 hi)
theorem Stp.at_ {v' v : Value} (hat : v'.ownBlock = v.ownBlock ∨ v'.ownBlock = some W.heap.size) (hv : ∀ j, v.ownBlock = some j → j ∈ own) : ∀ j, v'.ownBlock = some j → j ∈ own ∨ W.heap.size ≤ j := by
  intro j hj
  rcases hat with e | e
  · exact .inl (hv j (e ▸ hj))
  · rw [hj] at e; injection e with e; exact .inr (by omega)
theorem own_l : ∀ j, vl.ownBlock = some j → j ∈ g :: (bk vl ++ bk vr ++ bk vh) := fun j hj => List.mem_cons_of_mem _ (List.mem_append_left _ (List.mem_append_left _ (bk_mem.2 hj)))
theorem own_r : ∀ j, vr.ownBlock = some j → j ∈ g :: (bk vl ++ bk vr ++ bk vh) := fun j hj => List.mem_cons_of_mem _ (List.mem_append_left _ (List.mem_append_right _ (bk_mem.2 hj)))
theorem own_h : ∀ j, vh.ownBlock = some j → j ∈ g :: (bk vl ++ bk vr ++ bk vh) := fun j hj => List.mem_cons_of_mem _ (List.mem_append_right _ (bk_mem.2 hj))

theorem rgoes_any (h : DkR W g d vl vr vh) (hl : d.fuse < 9223372036854775808) : Calls Try.prog 31 #[.pointer (some ⟨g, 0, none⟩)] W fun e w' => e = .returned (.bool (goesB d)) ∧ DkR w' g (goesD d) vl vr vh ∧ Fr W w' [g] := by
  obtain ⟨y0, y1, y2, y3, y4, y5, y6⟩ := h.box.seven
  have z3 := h.box.frozen 3
  have z4 := h.box.frozen 4
  by_cases hz : d.fuse = 0
  · rw [hz] at y3
    have HR : Hid (DkR (W.setCell ⟨g, 4, none⟩ (.bool true)) g (goesD d) vl vr vh ∧ Fr W (W.setCell ⟨g, 4, none⟩ (.bool true)) [g]) := ⟨by unfold goesD; rw [if_pos hz]; exact h.setDown, Fr.set W g 4 _⟩
    have eg : goesB d = true := decide_eq_true hz
    rw [eg]
    clear h hz eg hl
    go_enter Try.func31, Try.ntmps31
    go_wp2
    go_ret
    exact ⟨rfl, HR.out⟩
  · have eg : goesB d = false := decide_eq_false hz
    have hd0 : (d.fuse == 0) = false := by simpa using hz
    by_cases hp : 0 < d.fuse
    · have HR : Hid (DkR (W.setCell ⟨g, 3, none⟩ (.int .i64 (d.fuse - 1))) g (goesD d) vl vr vh ∧ Fr W (W.setCell ⟨g, 3, none⟩ (.int .i64 (d.fuse - 1))) [g]) := ⟨by unfold goesD; rw [if_neg hz, if_pos hp]; exact h.setFuse _, Fr.set W g 3 _⟩
      have hd : decide (d.fuse > 0) = true := decide_eq_true hp
      rw [eg]
      generalize d.fuse = f at *
      clear h eg hz
      go_enter Try.func31, Try.ntmps31
      go_wp2
      go_ret
      exact ⟨rfl, HR.out⟩
    · have hd : decide (d.fuse > 0) = false := decide_eq_false hp
      have ed : goesD d = d := by unfold goesD; rw [if_neg hz, if_neg hp]
      have HR : Hid (DkR W g d vl vr vh ∧ Fr W W [g]) := ⟨h, Fr.refl W [g]⟩
      rw [eg, ed]
      generalize d.fuse = f at *
      clear h eg hz ed
      go_enter Try.func31, Try.ntmps31
      go_wp2
      go_ret
      exact ⟨rfl, HR.out⟩

set_option maxHeartbeats 1000000 in
theorem rbytes_any (h : DkR W g d vl vr vh) (hM : d.la.length + d.re.length ≤ 1099511627776) : Calls Try.prog 17 #[.pointer (some ⟨g, 0, none⟩)] W (NewB W (d.la ++ d.re)) := by
  obtain ⟨al, nl, cl, rfl, hnl, hol, hbl, hcl, hml⟩ := h.rl.parts
  obtain ⟨ar, nr, cr, rfl, hnr, hor, hbr, hcr, hmr⟩ := h.rr.parts
  obtain ⟨i0, hi, hz0, hz1, hz2⟩ := info_parts Try.info5
  obtain ⟨y0, y1, y2, y3, y4, y5, y6⟩ := h.box.seven
  have HH := Lib.hid h
  have L := Lib.hid hbl
  have R := Lib.hid hbr
  have hlr : nl + nr ≤ 1099511627776 := by omega
  clear h hnl hol hbl hnr hor hbr hM
  go_enter Try.func17, Try.ntmps17
  go_upto_region 3 with (at_builtin; (refine wpList_append_bytes _ rfl _ _ 33 rfl W.heap.size 5 i0 Try.underlying33 hi hz0 hz1 hz2 _ 0 [] rfl (World.ownsRow_nil _ _ _ _) W.heap.size al nl d.la cl rfl L.out (by omega) (Nat.le_refl _) ?_; intro v1 w1 ho1 hg1; rw [Nat.zero_add] at ho1; have P1 : Hid (PutIn W w1 v1 nl d.la) := ⟨ho1, (Below.refl _ _).grown hg1 (Nat.le_refl _) (fun j hj => by cases hj)⟩; obtain ⟨a1, c1, rfl, _, _, _⟩ := own_form ho1; have X1 := HH.out.box.below P1.out.2; obtain ⟨x0, x1, x2, x3, x4, x5, x6⟩ := X1.seven; clear X1 ho1 hg1))
  go_wp2_with (at_builtin; (refine wpList_append_bytes _ rfl _ _ 33 rfl W.heap.size 5 i0 Try.underlying33 hi hz0 hz1 hz2 _ nl d.la rfl P1.out.1 w1.heap.size ar nr d.re cr rfl ((R.out.below P1.out.2 (Nat.le_refl _)).more P1.out.2.size) (by omega) P1.out.2.size ?_; intro v2 w2 ho2 hg2; have P2 := Lib.hid (P1.out.next0 ho2 hg2); clear ho2 hg2))
  go_ret
  exact P2.out.out
end

theorem rnew_any (n : Int) (hn : n < 9223372036854775808) (W : World) : Calls Try.prog 11 #[.int .i64 n] W fun e w' => e = .returned (.pointer (some ⟨W.heap.size, 0, none⟩)) ∧ Below W.heap.size W w' ∧ DkR w' W.heap.size (newD n) (.slice none 0 0) (.slice none 0 0) (.slice none 0 0) := by
  have HR : ∀ m : Int, m = max n 0 → Hid (Below W.heap.size W (W.alloc (.cells #[.int .i64 m, .slice none 0 0, .slice none 0 0, .int .i64 (-1), .bool false, .bool false, .slice none 0 0] 37)) ∧ DkR (W.alloc (.cells #[.int .i64 m, .slice none 0 0, .slice none 0 0, .int .i64 (-1), .bool false, .bool false, .slice none 0 0] 37)) W.heap.size (newD n) (.slice none 0 0) (.slice none 0 0) (.slice none 0 0)) := by
    intro m hm
    subst hm
    exact ⟨(Below.refl _ _).alloc (Nat.le_refl _) _, ⟨BoxC.new _ _ _, OwnB.nil _, OwnB.nil _, OwnB.nil _, ⟨by show 0 ≤ max n 0; omega, by show max n 0 < _; omega⟩, Far.nil, Far.nil, Far.nil⟩⟩
  by_cases h : 0 ≤ n
  · have hm := HR n (by omega)
    clear HR
    have hd : decide (n < 0) = false := decide_eq_false (by omega)
    go_enter Try.func11, Try.ntmps11
    go_wp2
    go_ret
    exact ⟨rfl, hm.out⟩
  · have hm := HR 0 (by omega)
    clear HR
    have hd : decide (n < 0) = true := decide_eq_true (by omega)
    go_enter Try.func11, Try.ntmps11
    go_wp2
    go_ret
    exact ⟨rfl, hm.out⟩
end Go.Proofs.Ytclfgkeepmdmjaa
