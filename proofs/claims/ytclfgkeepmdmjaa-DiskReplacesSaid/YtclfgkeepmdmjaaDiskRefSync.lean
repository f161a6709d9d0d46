/- Contract of the document's Sync. Condition: the disk lies in memory. -/
import Derived.Test.YtclfgkeepmdmjaaDiskRefAppend

import Derived.Deep.RegionLaw

namespace Go.Proofs.Ytclfgkeepmdmjaa

open Go.RowKit

set_option linter.unusedVariables false
set_option linter.unusedSimpArgs false

section

variable {W : World} {g : Nat} {d : Dk} {own : List Nat} {l : List UInt8}

theorem DkR.sync_close {w1 w2 : World} {vl vr vh v1 : Value} {d' : Dk} (F1 : Fr W w1 [g]) (X : DkR w2 g d' v1 (.slice none 0 0) vh) (F2 : Fr w1.drew w2 (g :: bk vl)) (hat : v1.ownBlock = vl.ownBlock ∨ v1.ownBlock = some w1.drew.heap.size) :
    Stp (fun V own => RD V g d' own) W w2 (g :: (bk vl ++ bk vr ++ bk vh)) := by
  have F2' : Fr w1 w2 (g :: bk vl) := ⟨F2.os, F2.tape, F2.output, F2.size, F2.block⟩
  refine Stp.ref ((F1.wide (fun i hi => by simp at hi; simp [hi])).trans F2' (fun i hi => ?_)) X (List.mem_cons_self ..) (fun j hj => ?_) (fun j hj => by cases hj) (fun j hj => .inl (own_h j hj))
  · rcases List.mem_cons.1 hi with rfl | hi
    · exact .inl (List.mem_cons_self ..)
    · exact .inl (own_l i (bk_mem.1 hi))
  · rcases hat with e | e
    · exact .inl (own_l j (e ▸ hj))
    · rw [hj] at e; injection e with e
      have h1 := F1.size
      have h2 : w1.drew.heap.size = w1.heap.size := rfl
      exact .inr (by omega)
set_option maxHeartbeats 1000000 in
theorem rsync_any (h : RD W g d own) (hl : d.fuse < 9223372036854775808) (hM : d.la.length + d.re.length ≤ 1099511627776) :
    Calls Try.prog 25 #[.pointer (some ⟨g, 0, none⟩)] W fun e w' => e = .returned (.int .i64 (synE d)) ∧ Stp (fun V own => RD V g (synD d) own) W w' own := by
  have h0 := h
  obtain ⟨vl, vr, vh, hp, rfl⟩ := h
  obtain ⟨y0, y1, y2, y3, y4, y5, y6⟩ := hp.box.seven
  by_cases hd : d.down = true
  · have HS : Hid (Stp (fun V own => RD V g d own) W W (g :: (bk vl ++ bk vr ++ bk vh))) := Stp.same h0 (Below.refl _ _)
    rw [hd] at y4
    have e1 : synE d = 8 := by unfold synE; rw [if_pos hd]
    have e2 : synD d = d := by unfold synD; rw [if_pos hd]
    rw [e1, e2]
    clear hp e1 e2 hd hl h0
    go_enter Try.func25, Try.ntmps25
    go_wp2
    go_ret
    exact ⟨rfl, HS.out⟩
  · have hd0 : d.down = false := by simpa using hd
    rw [hd0] at y4
    have cG := rgoes_any hp hl
    by_cases hz : goesB d = true
    · rw [hz] at cG
      have e1 : synE d = 8 := by unfold synE; rw [if_neg hd, if_pos hz]
      have e2 : synD d = goesD d := by unfold synD; rw [if_neg hd, if_pos hz]
      rw [e1, e2]
      clear hp e1 e2 hd hd0 hz h0
      go_enter Try.func25, Try.ntmps25
      go_wp2_with (go_at_call 31; ((with_reducible refine cG.mono ?_); rintro e w1 ⟨rfl, h1, hf1⟩; have H1 := Lib.hid h1; have F1 := Lib.hid hf1; clear h1 hf1))
      go_ret
      exact ⟨rfl, Stp.ref (F1.out.wide (fun i hi => by simp at hi; simp [hi])) H1.out (List.mem_cons_self ..) (fun j hj => .inl (own_l j hj)) (fun j hj => .inl (own_r j hj)) (fun j hj => .inl (own_h j hj))⟩
    · have hz0 : goesB d = false := by simpa using hz
      rw [hz0] at cG
      have e1 : synE d = 0 := by unfold synE; rw [if_neg hd, if_neg hz]
      have e2 : synD d = { goesD d with la := (goesD d).la ++ (goesD d).re, re := [] } := by unfold synD; rw [if_neg hd, if_neg hz, goes_la, goes_re]
      rw [e1, e2]
      obtain ⟨al, nl, cl, rfl, hnl, _, _, hcl, hml⟩ := hp.rl.parts
      obtain ⟨ar, nr, cr, rfl, hnr, _, _, hcr, hmr⟩ := hp.rr.parts
      obtain ⟨i0, hi, hz0, hz1, hz2⟩ := info_parts Try.info5
      have NL : Hid (nl = (goesD d).la.length) := by unfold Hid; rw [goes_la]; exact hnl
      have NR : Hid (nr = (goesD d).re.length) := by unfold Hid; rw [goes_re]; exact hnr
      have hlr : nl + nr ≤ 1099511627776 := by omega
      clear hp e1 e2 hd hd0 hz h0 hnl hnr hM
      go_enter Try.func25, Try.ntmps25
      go_upto_region 3 with (go_at_call 31; ((with_reducible refine cG.mono ?_); rintro e w1 ⟨rfl, h1, hf1⟩; have H1 := Lib.hid h1; have F1 := Lib.hid hf1; have s0 := h1.box.seven; obtain ⟨x0, x1, x2, x3, x4, x5, x6⟩ := h1.box.seven; clear h1 hf1))
      have D1 : Hid (DkR w1.drew g (goesD d) (.slice al nl cl) (.slice ar nr cr) vh) := H1.out.below (below_drewN 1 (Below.refl _ _))
      obtain ⟨t0, t1, t2, t3, t4, t5, t6⟩ := D1.out.box.seven
      go_region_law (first | (refine step_append_row1 _ rfl _ _ 33 rfl 0 5 i0 _ 1 Try.underlying33 hi hz0 hz1 hz2 rfl (.slice al nl cl) nl (bcells (goesD d).la) rfl (D1.out.rl.ats NL.out) ar nr cr (bcells (goesD d).re) rfl (D1.out.rr.bat NR.out).cells (bcells_one _) (by unfold maxLen; omega) (by omega) (Nat.zero_le _) ?_; intro v2 w2 ho hg hat; obtain ⟨a2, c2, rfl, _, _, _⟩ := own_form ho; have X2 := Lib.hid (D1.out.synced ho hg hat); have T2 := Lib.hid hat; have bx := D1.out.box_grown hg D1.out.far_box.1; have z1 := bx.frozen 1; have z2 := bx.frozen 2; obtain ⟨u0, u1, u2, u3, u4, u5, u6⟩ := bx.seven; clear bx ho hg hat))
      all_goals (try go_wp2)
      all_goals (go_ret; exact ⟨rfl, DkR.sync_close F1.out X2.out.1 X2.out.2 T2.out⟩)
end

end Go.Proofs.Ytclfgkeepmdmjaa
