/- Contract of disk's Append. Conditions: the disk lies in memory, and what is appended. -/
import Derived.Test.YtclfgkeepmdmjaaDiskAct

namespace Go.Proofs.Ytclfgkeepmdmjaa

open Go.RowKit

set_option linter.unusedVariables false
set_option linter.unusedSimpArgs false

section

variable {W : World} {g : Nat} {d : Dk} {v nx : Value} {left : Int} {own : List Nat} {l : List UInt8}

theorem Stp.app {w2 w3 : World} {v1 : Value} {left' : Int} (h : DkP W g d v nx left) (hat : v1.ownBlock = v.ownBlock ∨ v1.ownBlock = some W.heap.size) (hF : Fr W w2 (g :: (bk v ++ bk nx))) (hf : Fr w2 w3 [g]) {d' : Dk} (h3 : DkP w3 g d' v1 nx left') :
    Stp (fun V own => PD V g d' own) W w3 (g :: (bk v ++ bk nx)) := by
  refine ⟨g :: (bk v1 ++ bk nx), ⟨v1, nx, left', h3, rfl⟩, hF.trans hf (fun i hi => .inl (by simp at hi; simp [hi])), fun i hi => ?_⟩
  rcases List.mem_cons.1 hi with rfl | hi
  · exact .inl (List.mem_cons_self ..)
  · rcases List.mem_append.1 hi with hi | hi
    · rcases hat with e | e
      · exact .inl (List.mem_cons_of_mem _ (List.mem_append_left _ (bk_mem.2 (e ▸ bk_mem.1 hi))))
      · have h1 := bk_mem.1 hi
        rw [e] at h1; injection h1 with h1
        exact .inr (by omega)
    · exact .inl (List.mem_cons_of_mem _ (List.mem_append_right _ hi))

theorem Stp.from_drew {K : World → List Nat → Prop} {W W' : World} {own : List Nat} {q : Nat} (h : Stp K (W.drewN q) W' own) : Stp K W W' own := by
  obtain ⟨o, k, f, m⟩ := h
  exact ⟨o, k, ⟨f.os, f.tape, f.output, f.size, f.block⟩, m⟩
set_option maxHeartbeats 1000000 in
theorem append_any {a : Option Addr} {n c : Nat} (h : PD W g d own) (hl : d.fuse < 9223372036854775808) (hM : d.la.length + d.re.length ≤ 1099511627776) (hb : BAt W W.heap.size a n l) (hn : n ≤ 1099511627776) :
    Calls Try.prog 18 #[.pointer (some ⟨g, 0, none⟩), .slice a n c] W fun e w' => e = .returned (.int .i64 (appE d l)) ∧ Stp (fun V own => PD V g (appD d l) own) W w' own := by
  have h0 := h
  obtain ⟨v, nx, left, hp, rfl⟩ := h
  have HS : Hid (∀ q, Stp (fun V own => PD V g d own) W (W.drewN q) (g :: (bk v ++ bk nx))) := fun q => Stp.same (h0.below (below_drewN q (Below.refl _ _))) (below_drewN q (Below.refl _ _))
  have cD := down_any hp.box
  clear h0
  by_cases hd : d.down = true
  · rw [hd] at cD
    have e1 : appE d l = 8 := by unfold appE; rw [if_pos hd]
    have e2 : appD d l = d := by unfold appD; rw [if_pos hd]
    rw [e1, e2]
    clear hp e1 e2 hd hl hb hM
    go_enter Try.func18, Try.ntmps18
    go_wp2_with (go_at_call 13; ((with_reducible refine cD.mono ?_); rintro e w1 ⟨rfl, rfl⟩))
    go_ret
    exact ⟨rfl, HS.out 0⟩
  · have hd0 : d.down = false := by simpa using hd
    rw [hd0] at cD
    obtain ⟨a0, k, c0, rfl, hk, ho, hbk, hkc, hcm⟩ := hp.row.parts
    have hlen := hb.len
    have hkM : k ≤ 1099511627776 := by rw [hk, List.length_append]; exact hM
    obtain ⟨y0, y1, y2, y3, y4, y5, y6, y7⟩ := hp.box.eight
    obtain ⟨hs0, hs1⟩ := hp.sz
    have fA : fullA d l = decide ((n : Int) > d.size - (k : Int)) := by
      unfold fullA
      rw [hk, List.length_append, ← hlen]
      refine decide_eq_decide.2 ⟨fun h => by omega, fun h => by omega⟩
    by_cases hf : fullA d l = true
    · have e1 : appE d l = 7 := by unfold appE; rw [if_neg hd, if_pos hf]
      have e2 : appD d l = d := by unfold appD; rw [if_neg hd, if_pos hf]
      rw [e1, e2]
      rw [hf] at fA
      have fA' := fA.symm
      generalize d.size = s at *
      clear hp e1 e2 hd hd0 hl hM hk ho hbk hf hlen fA hb
      go_enter Try.func18, Try.ntmps18
      go_upto_region 3 with (go_at_call 13; ((with_reducible refine cD.mono ?_); rintro e w1 ⟨rfl, rfl⟩))
      go_quiet (fail)
      go_wp2
      go_ret
      exact ⟨rfl, HS.out _⟩
    · have hf0 : fullA d l = false := by simpa using hf
      rw [hf0] at fA
      have fA' := fA.symm
      have HP := Lib.hid hp
      obtain ⟨i0, hi, hz0, hz1, hz2⟩ := info_parts Try.info5
      have e1 : appE d l = if goesB d then 8 else 0 := by unfold appE; rw [if_neg hd, if_neg hf]
      have e2 : appD d l = goesD { d with re := d.re ++ l } := by
        unfold appD goesD
        rw [if_neg hd, if_neg hf]
        split
        · rfl
        · split <;> rfl
      have eg : goesB { d with re := d.re ++ l } = goesB d := rfl
      rw [e1, e2, ← eg]
      have OB := Lib.hid ho
      have HB := Lib.hid hb
      clear e1 e2 hd hd0 hM hk ho hbk hf hlen fA hb eg hf0
      cases hgz : goesB { d with re := d.re ++ l } with
      | true =>
        rw [if_pos rfl]
        go_enter Try.func18, Try.ntmps18
        go_upto_region 3 with (go_at_call 13; ((with_reducible refine cD.mono ?_); rintro e w1 ⟨rfl, rfl⟩))
        go_quiet (fail)
        have HQ := Lib.hid (HP.out.below (below_drewN nq (Below.refl _ _)))
        go_upto_region 6 with (at_builtin; (refine wpList_append_row _ rfl _ _ 33 rfl 0 5 i0 _ 1 Try.underlying33 hi hz0 hz1 hz2 rfl (.slice a0 k c0) k (bcells (d.la ++ d.re)) rfl OB.out a n c (bcells l) rfl HB.out.cells (bcells_one l) (by unfold maxLen; omega) (by omega) (Nat.zero_le _) ?_; intro v1 w1 ho1 hg hat; obtain ⟨a1, c1, rfl, _, _, _⟩ := own_form ho1; have X1 := Lib.hid (HQ.out.appended ho1 hg hat); have T1 := Lib.hid hat; have bx := HQ.out.box_grown hg; have z1 := bx.frozen 1; obtain ⟨x0, x1, x2, x3, x4, x5, x6, x7⟩ := bx.eight; clear bx ho1 hg hat))
        have cB := blows_any X1.out.1 hl
        rw [hgz] at cB
        clear hp cD y0 y1 y2 y3 y4 y5 y6 y7 x0 x1 x2 x3 x4 x5 x6 x7 z1 hgz
        go_wp2_with (go_at_call 29; ((with_reducible refine cB.mono ?_); rintro e w2 ⟨rfl, ⟨left', h2⟩, hf⟩; have R := Lib.hid (Stp.app HQ.out T1.out X1.out.2 hf h2); clear h2 hf))
        go_ret
        exact ⟨rfl, R.out.from_drew⟩
      | false =>
        rw [if_neg Bool.false_ne_true]
        go_enter Try.func18, Try.ntmps18
        go_upto_region 3 with (go_at_call 13; ((with_reducible refine cD.mono ?_); rintro e w1 ⟨rfl, rfl⟩))
        go_quiet (fail)
        have HQ := Lib.hid (HP.out.below (below_drewN nq (Below.refl _ _)))
        go_upto_region 6 with (at_builtin; (refine wpList_append_row _ rfl _ _ 33 rfl 0 5 i0 _ 1 Try.underlying33 hi hz0 hz1 hz2 rfl (.slice a0 k c0) k (bcells (d.la ++ d.re)) rfl OB.out a n c (bcells l) rfl HB.out.cells (bcells_one l) (by unfold maxLen; omega) (by omega) (Nat.zero_le _) ?_; intro v1 w1 ho1 hg hat; obtain ⟨a1, c1, rfl, _, _, _⟩ := own_form ho1; have X1 := Lib.hid (HQ.out.appended ho1 hg hat); have T1 := Lib.hid hat; have bx := HQ.out.box_grown hg; have z1 := bx.frozen 1; obtain ⟨x0, x1, x2, x3, x4, x5, x6, x7⟩ := bx.eight; clear bx ho1 hg hat))
        have cB := blows_any X1.out.1 hl
        rw [hgz] at cB
        clear hp cD y0 y1 y2 y3 y4 y5 y6 y7 x0 x1 x2 x3 x4 x5 x6 x7 z1 hgz
        go_wp2_with (go_at_call 29; ((with_reducible refine cB.mono ?_); rintro e w2 ⟨rfl, ⟨left', h2⟩, hf⟩; have R := Lib.hid (Stp.app HQ.out T1.out X1.out.2 hf h2); clear h2 hf))
        go_ret
        exact ⟨rfl, R.out.from_drew⟩
end

end Go.Proofs.Ytclfgkeepmdmjaa
