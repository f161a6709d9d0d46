/- Contract of the document's Replace. Conditions: the disk lies in memory, and what is laid. -/
import Derived.Test.YtclfgkeepmdmjaaDiskRefSync

namespace Go.Proofs.Ytclfgkeepmdmjaa

open Go.RowKit

set_option linter.unusedVariables false
set_option linter.unusedSimpArgs false

section

variable {W w1 w2 : World} {g : Nat} {d : Dk} {own : List Nat} {l : List UInt8} {v1 : Value}

theorem Fresh.grown {n : Nat} (ho : w1.ownsRow 0 5 1 v1 n (bcells l)) (hg : W.grownBy w1 none) (hat : v1.ownBlock = none ∨ v1.ownBlock = some W.heap.size) : Fresh W w1 v1 l ∧ Below W.heap.size W w1 := by
  refine ⟨⟨OwnB.of_own ho, fun j hj => ?_⟩, (Below.refl _ _).grown hg (Nat.le_refl _) (fun j hj => by cases hj)⟩
  rcases hat with e | e
  · rw [hj] at e; cases e
  · rw [hj] at e; injection e with e; omega
set_option maxHeartbeats 1000000 in
theorem rreplace_any {a : Option Addr} {n c : Nat} (h : RD W g d own) (hl : d.fuse < 9223372036854775808) (hb : BAt W W.heap.size a n l) (hn : n ≤ 1099511627776) :
    Calls Try.prog 26 #[.pointer (some ⟨g, 0, none⟩), .slice a n c] W fun e w' => e = .returned (.int .i64 (repE d l)) ∧ Stp (fun V own => RD V g (repD d l) own) W w' own := by
  have h0 := h
  have hlt := h.lt
  obtain ⟨vl, vr, vh, hp, rfl⟩ := h
  have HS : Hid (Stp (fun V own => RD V g d own) W W (g :: (bk vl ++ bk vr ++ bk vh))) := Stp.same h0 (Below.refl _ _)
  obtain ⟨y0, y1, y2, y3, y4, y5, y6⟩ := hp.box.seven
  clear h0
  by_cases hd : d.down = true
  · rw [hd] at y4
    have e1 : repE d l = 8 := by unfold repE; rw [if_pos hd]
    have e2 : repD d l = d := by unfold repD; rw [if_pos hd]
    rw [e1, e2]
    clear hp e1 e2 hd hl hb hlt
    go_enter Try.func26, Try.ntmps26
    go_wp2
    go_ret
    exact ⟨rfl, HS.out⟩
  · have hd0 : d.down = false := by simpa using hd
    rw [hd0] at y4
    have hlen := hb.len
    have fA : fullR d l = decide ((n : Int) > d.size) := by
      unfold fullR
      rw [← hlen]
    by_cases hf : fullR d l = true
    · have e1 : repE d l = 7 := by unfold repE; rw [if_neg hd, if_pos hf]
      have e2 : repD d l = d := by unfold repD; rw [if_neg hd, if_pos hf]
      rw [e1, e2]
      rw [hf] at fA
      have fA' := fA.symm
      generalize d.size = s at *
      clear hp e1 e2 hd hd0 hl hf hlen fA hb hlt
      go_enter Try.func26, Try.ntmps26
      go_wp2
      go_ret
      exact ⟨rfl, HS.out⟩
    · have hf0 : fullR d l = false := by simpa using hf
      rw [hf0] at fA
      have fA' := fA.symm
      obtain ⟨i0, hi, hz0, hz1, hz2⟩ := info_parts Try.info5
      have HG : Hid (∀ i ∈ g :: (bk vl ++ bk vr ++ bk vh), i < W.heap.size) := hlt
      have HV : Hid ((∀ j, vl.ownBlock = some j → j < W.heap.size) ∧ (∀ j, vr.ownBlock = some j → j < W.heap.size) ∧ ∀ j, vh.ownBlock = some j → j < W.heap.size) := ⟨hp.rl.lt, hp.rr.lt, hp.rh.lt⟩
      have HB := Lib.hid hb
      have cG : ∀ V, Below W.heap.size W V → Calls Try.prog 31 #[.pointer (some ⟨g, 0, none⟩)] V fun e w' => e = .returned (.bool (goesB d)) ∧ DkR w' g (goesD d) vl vr vh ∧ Fr V w' [g] := fun V hb => rgoes_any (hp.below hb) hl
      clear hb hlt hlen hp fA
      cases hz : goesB d with
      | true =>
        have e1 : repE d l = 8 := by unfold repE; rw [if_neg hd, if_neg hf, if_pos hz]
        have e2 : repD d l = { goesD d with torn := true, half := l } := by unfold repD; rw [if_neg hd, if_neg hf, if_pos hz]
        rw [e1, e2]
        rw [hz] at cG
        clear e1 e2 hd hd0 hf hf0 hl
        go_enter Try.func26, Try.ntmps26
        go_upto_region 8 with (first
          | (at_builtin; (refine wpList_append_row _ rfl _ _ 33 rfl 0 5 i0 _ 1 Try.underlying33 hi hz0 hz1 hz2 rfl (.slice none 0 0) 0 (bcells []) rfl (World.ownsRow_nil _ _ _ _) a n c (bcells l) rfl HB.out.cells (bcells_one l) (by unfold maxLen; omega) (by omega) (Nat.zero_le _) ?_; intro v1 w1 ho1 hg1 hat1; rw [Nat.zero_add] at ho1; obtain ⟨a1, c1, rfl, _, _, _⟩ := own_form ho1; have N1 := Lib.hid (Fresh.grown (l := l) ho1 hg1 hat1); clear ho1 hg1 hat1))
          | (go_at_call 31; ((with_reducible refine (cG _ N1.out.2).mono ?_); rintro e w2 ⟨rfl, h2, hf2⟩; have H2 := Lib.hid h2; have F2 := Lib.hid hf2; obtain ⟨x0, x1, x2, x3, x4, x5, x6⟩ := h2.box.seven; have z1 := h2.box.frozen 5; have z2 := h2.box.frozen 6; clear h2 hf2)))
        have N2 : Hid (Fresh W w2 (.slice a1 n c1) l) := N1.out.1.fr F2.out (fun i hi => HG.out i (by simp at hi; simp [hi]))
        have hg0 := HG.out g (List.mem_cons_self ..)
        have HR : Hid (Stp (fun V own => RD V g { goesD d with torn := true, half := l } own) W ((w2.setCell ⟨g, 5, none⟩ (.bool true)).setCell ⟨g, 6, none⟩ (.slice a1 n c1)) (g :: (bk vl ++ bk vr ++ bk vh))) := by
          refine Stp.ref ?_ (H2.out.setTorn N2.out hg0 ⟨HV.out.1, HV.out.2.1⟩) (List.mem_cons_self ..) (fun j hj => .inl (own_l j hj)) (fun j hj => .inl (own_r j hj)) (fun j hj => .inr (N2.out.new j hj))
          exact (((Fr.of_below N1.out.2).trans F2.out (fun i hi => .inl (by simp at hi; simp [hi]))).trans (Fr.set _ g 5 _) (fun i hi => .inl (by simp at hi; simp [hi]))).trans (Fr.set _ g 6 _) (fun i hi => .inl (by simp at hi; simp [hi]))
        clear cG
        go_wp2
        go_ret
        have h := HR.out
        simp only [List.append_assoc] at h
        exact ⟨rfl, h⟩
      | false =>
        have e1 : repE d l = 0 := by unfold repE; rw [if_neg hd, if_neg hf, if_neg (by rw [hz]; exact Bool.false_ne_true)]
        have e2 : repD d l = { goesD d with la := l, re := [] } := by unfold repD; rw [if_neg hd, if_neg hf, if_neg (by rw [hz]; exact Bool.false_ne_true)]
        rw [e1, e2]
        rw [hz] at cG
        clear e1 e2 hd hd0 hf hf0 hl
        go_enter Try.func26, Try.ntmps26
        go_upto_region 11 with (first
          | (at_builtin; (refine wpList_append_row _ rfl _ _ 33 rfl 0 5 i0 _ 1 Try.underlying33 hi hz0 hz1 hz2 rfl (.slice none 0 0) 0 (bcells []) rfl (World.ownsRow_nil _ _ _ _) a n c (bcells l) rfl HB.out.cells (bcells_one l) (by unfold maxLen; omega) (by omega) (Nat.zero_le _) ?_; intro v1 w1 ho1 hg1 hat1; rw [Nat.zero_add] at ho1; obtain ⟨a1, c1, rfl, _, _, _⟩ := own_form ho1; have N1 := Lib.hid (Fresh.grown (l := l) ho1 hg1 hat1); clear ho1 hg1 hat1))
          | (go_at_call 31; ((with_reducible refine (cG _ N1.out.2).mono ?_); rintro e w2 ⟨rfl, h2, hf2⟩; have H2 := Lib.hid h2; have F2 := Lib.hid hf2; obtain ⟨x0, x1, x2, x3, x4, x5, x6⟩ := h2.box.seven; have z1 := h2.box.frozen 1; have z2 := h2.box.frozen 2; clear h2 hf2)))
        have N2 : Hid (Fresh W w2 (.slice a1 n c1) l) := N1.out.1.fr F2.out (fun i hi => HG.out i (by simp at hi; simp [hi]))
        have hg0 := HG.out g (List.mem_cons_self ..)
        have HR : Hid (Stp (fun V own => RD V g { goesD d with la := l, re := [] } own) W ((w2.setCell ⟨g, 1, none⟩ (.slice a1 n c1)).setCell ⟨g, 2, none⟩ (.slice none 0 0)) (g :: (bk vl ++ bk vr ++ bk vh))) := by
          refine Stp.ref ?_ (H2.out.setNew N2.out hg0 HV.out.2.2) (List.mem_cons_self ..) (fun j hj => .inr (N2.out.new j hj)) (fun j hj => by cases hj) (fun j hj => .inl (own_h j hj))
          exact (((Fr.of_below N1.out.2).trans F2.out (fun i hi => .inl (by simp at hi; simp [hi]))).trans (Fr.set _ g 1 _) (fun i hi => .inl (by simp at hi; simp [hi]))).trans (Fr.set _ g 2 _) (fun i hi => .inl (by simp at hi; simp [hi]))
        clear cG
        go_wp2
        go_ret
        have h := HR.out
        simp only [List.append_assoc] at h
        exact ⟨rfl, h⟩
end

end Go.Proofs.Ytclfgkeepmdmjaa
