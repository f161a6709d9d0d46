/- Contracts of the document's disk: Append, Sync, Replace. Conditions: the disk lies in memory, and what is laid. -/
import Derived.Test.YtclfgkeepmdmjaaDiskRef

namespace Go.Proofs.Ytclfgkeepmdmjaa

open Go.RowKit

set_option linter.unusedVariables false
set_option linter.unusedSimpArgs false

theorem OwnB.ats {W : World} {v : Value} {l : List UInt8} {n : Nat} (h : OwnB W v l) (hn : n = l.length) : W.ownsRow 0 5 1 v n (bcells l) := by subst hn; exact h
section

variable {W : World} {g : Nat} {d : Dk} {own : List Nat} {l : List UInt8}

set_option maxHeartbeats 1000000 in
theorem rappend_any {a : Option Addr} {n c : Nat} (h : RD W g d own) (hl : d.fuse < 9223372036854775808) (hM : d.la.length + d.re.length ≤ 1099511627776) (hb : BAt W W.heap.size a n l) (hn : n ≤ 1099511627776) (hG : ∀ b off, a = some ⟨b, off, none⟩ → 0 < n → b ≠ g) :
    Calls Try.prog 24 #[.pointer (some ⟨g, 0, none⟩), .slice a n c] W fun e w' => e = .returned (.int .i64 (appE d l)) ∧ Stp (fun V own => RD V g (appD d l) own) W w' own := by
  have h0 := h
  obtain ⟨vl, vr, vh, hp, rfl⟩ := h
  have HS : Hid (∀ q, Stp (fun V own => RD V g d own) W (W.drewN q) (g :: (bk vl ++ bk vr ++ bk vh))) := fun q => Stp.same (h0.below (below_drewN q (Below.refl _ _))) (below_drewN q (Below.refl _ _))
  obtain ⟨y0, y1, y2, y3, y4, y5, y6⟩ := hp.box.seven
  clear h0
  by_cases hd : d.down = true
  · rw [hd] at y4
    have e1 : appE d l = 8 := by unfold appE; rw [if_pos hd]
    have e2 : appD d l = d := by unfold appD; rw [if_pos hd]
    rw [e1, e2]
    clear hp e1 e2 hd hl hb hM
    go_enter Try.func24, Try.ntmps24
    go_wp2
    go_ret
    exact ⟨rfl, HS.out 0⟩
  · have hd0 : d.down = false := by simpa using hd
    rw [hd0] at y4
    obtain ⟨al, nl, cl, rfl, hnl, _, _, hcl, hml⟩ := hp.rl.parts
    obtain ⟨ar, nr, cr, rfl, hnr, _, _, hcr, hmr⟩ := hp.rr.parts
    have hlen := hb.len
    have hlr : nl + nr ≤ 1099511627776 := by omega
    obtain ⟨hs0, hs1⟩ := hp.sz
    have fA : fullA d l = decide ((nl : Int) + (nr : Int) + (n : Int) > d.size) := by
      unfold fullA
      rw [← hlen, ← hnl, ← hnr]
    by_cases hf : fullA d l = true
    · have e1 : appE d l = 7 := by unfold appE; rw [if_neg hd, if_pos hf]
      have e2 : appD d l = d := by unfold appD; rw [if_neg hd, if_pos hf]
      rw [e1, e2]
      rw [hf] at fA
      have fA' := fA.symm
      generalize d.size = s at *
      clear hp e1 e2 hd hd0 hl hM hnl hnr hf hlen fA hb
      go_enter Try.func24, Try.ntmps24
      go_upto_region 3 with (fail)
      go_quiet (fail)
      go_wp2
      go_ret
      exact ⟨rfl, HS.out _⟩
    · have hf0 : fullA d l = false := by simpa using hf
      rw [hf0] at fA
      have fA' := fA.symm
      have HP := Lib.hid hp
      obtain ⟨i0, hi, hz0, hz1, hz2⟩ := info_parts Try.info5
      have e2 : appD d l = { goesD d with re := (goesD d).re ++ l } := by unfold appD; rw [if_neg hd, if_neg hf, goes_re]
      have NR : Hid (nr = (goesD d).re.length) := by unfold Hid; rw [goes_re]; exact hnr
      rw [e2]
      have HB : Hid (∀ V, Fr W V [g] → BAt V V.heap.size a n l) := fun V hF => hb.moved hF.size fun b off ha hn hlt => hF.block b hlt (fun e => hG b off ha hn (by simpa using e))
      clear e2 hnl hnr hlen hb hM
      cases hgz : goesB d with
      | true =>
        have e1 : appE d l = 8 := by unfold appE; rw [if_neg hd, if_neg hf, if_pos hgz]
        rw [e1]
        have cG : ∀ q, Calls Try.prog 31 #[.pointer (some ⟨g, 0, none⟩)] (W.drewN q) fun e w' => e = .returned (.bool true) ∧ DkR w' g (goesD d) (.slice al nl cl) (.slice ar nr cr) vh ∧ Fr (W.drewN q) w' [g] := fun q => hgz ▸ rgoes_any (hp.below (below_drewN q (Below.refl _ _))) hl
        clear hp e1 hd hd0 hf hf0 fA hl
        go_enter Try.func24, Try.ntmps24
        go_upto_region 3 with (fail)
        go_quiet (fail)
        go_wp2_with (first
          | (go_at_call 31; ((with_reducible refine (cG _).mono ?_); rintro e w1 ⟨rfl, h1, hf1⟩; have H1 := Lib.hid h1; have F1 : Hid (Fr W w1 [g]) := ⟨hf1.os, hf1.tape, hf1.output, hf1.size, hf1.block⟩; obtain ⟨x0, x1, x2, x3, x4, x5, x6⟩ := h1.box.seven; clear h1 hf1))
          | (at_builtin; (refine wpList_append_row _ rfl _ _ 33 rfl 0 5 i0 _ 1 Try.underlying33 hi hz0 hz1 hz2 rfl (.slice ar nr cr) nr (bcells (goesD d).re) rfl (H1.out.rr.ats NR.out) a n c (bcells l) rfl (HB.out _ F1.out).cells (bcells_one l) (by unfold maxLen; omega) (by omega) (Nat.zero_le _) ?_; intro v2 w2 ho hg hat; obtain ⟨a2, c2, rfl, _, _, _⟩ := own_form ho; have X2 := Lib.hid (H1.out.appended ho hg hat); have T2 := Lib.hid hat; have bx := H1.out.box_grown hg H1.out.far_box.2.1; have z2 := bx.frozen 2; obtain ⟨u0, u1, u2, u3, u4, u5, u6⟩ := bx.seven; clear bx ho hg hat)))
        go_ret
        refine ⟨rfl, Stp.ref (F1.out.wide (fun i hi => by simp at hi; simp [hi]) |>.trans X2.out.2 (fun i hi => ?_)) X2.out.1 (List.mem_cons_self ..) (fun j hj => .inl (own_l j hj)) (fun j hj => ?_) (fun j hj => .inl (own_h j hj))⟩
        · rcases List.mem_cons.1 hi with rfl | hi
          · exact .inl (List.mem_cons_self ..)
          · exact .inl (own_r i (bk_mem.1 hi))
        · rcases T2.out with e | e
          · exact .inl (own_r j (e ▸ hj))
          · rw [hj] at e; injection e with e; exact .inr (by have := F1.out.size; omega)
      | false =>
        have e1 : appE d l = 0 := by unfold appE; rw [if_neg hd, if_neg hf, if_neg (by rw [hgz]; exact Bool.false_ne_true)]
        rw [e1]
        have cG : ∀ q, Calls Try.prog 31 #[.pointer (some ⟨g, 0, none⟩)] (W.drewN q) fun e w' => e = .returned (.bool false) ∧ DkR w' g (goesD d) (.slice al nl cl) (.slice ar nr cr) vh ∧ Fr (W.drewN q) w' [g] := fun q => hgz ▸ rgoes_any (hp.below (below_drewN q (Below.refl _ _))) hl
        clear hp e1 hd hd0 hf hf0 fA hl
        go_enter Try.func24, Try.ntmps24
        go_upto_region 3 with (fail)
        go_quiet (fail)
        go_wp2_with (first
          | (go_at_call 31; ((with_reducible refine (cG _).mono ?_); rintro e w1 ⟨rfl, h1, hf1⟩; have H1 := Lib.hid h1; have F1 : Hid (Fr W w1 [g]) := ⟨hf1.os, hf1.tape, hf1.output, hf1.size, hf1.block⟩; obtain ⟨x0, x1, x2, x3, x4, x5, x6⟩ := h1.box.seven; clear h1 hf1))
          | (at_builtin; (refine wpList_append_row _ rfl _ _ 33 rfl 0 5 i0 _ 1 Try.underlying33 hi hz0 hz1 hz2 rfl (.slice ar nr cr) nr (bcells (goesD d).re) rfl (H1.out.rr.ats NR.out) a n c (bcells l) rfl (HB.out _ F1.out).cells (bcells_one l) (by unfold maxLen; omega) (by omega) (Nat.zero_le _) ?_; intro v2 w2 ho hg hat; obtain ⟨a2, c2, rfl, _, _, _⟩ := own_form ho; have X2 := Lib.hid (H1.out.appended ho hg hat); have T2 := Lib.hid hat; have bx := H1.out.box_grown hg H1.out.far_box.2.1; have z2 := bx.frozen 2; obtain ⟨u0, u1, u2, u3, u4, u5, u6⟩ := bx.seven; clear bx ho hg hat)))
        go_ret
        refine ⟨rfl, Stp.ref (F1.out.wide (fun i hi => by simp at hi; simp [hi]) |>.trans X2.out.2 (fun i hi => ?_)) X2.out.1 (List.mem_cons_self ..) (fun j hj => .inl (own_l j hj)) (fun j hj => ?_) (fun j hj => .inl (own_h j hj))⟩
        · rcases List.mem_cons.1 hi with rfl | hi
          · exact .inl (List.mem_cons_self ..)
          · exact .inl (own_r i (bk_mem.1 hi))
        · rcases T2.out with e | e
          · exact .inl (own_r j (e ▸ hj))
          · rw [hj] at e; injection e with e; exact .inr (by have := F1.out.size; omega)
end

end Go.Proofs.Ytclfgkeepmdmjaa
