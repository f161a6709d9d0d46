/- Contract of disk's Replace. Conditions: the disk lies in memory, and what is laid. -/
import Derived.Test.YtclfgkeepmdmjaaDiskAppend

namespace Go.Proofs.Ytclfgkeepmdmjaa

open Go.RowKit

set_option linter.unusedVariables false
set_option linter.unusedSimpArgs false

/-- A row just made, beside a world W. -/
structure Fresh (W V : World) (v1 : Value) (l : List UInt8) : Prop where
  own : OwnB V v1 l
  new : ∀ j, v1.ownBlock = some j → W.heap.size ≤ j
section

variable {W w1 w2 V : World} {g : Nat} {d : Dk} {v nx v1 : Value} {left left' : Int} {own : List Nat} {l m : List UInt8}

theorem Fresh.made {n : Nat} (ho : w1.ownsRow W.heap.size 5 1 v1 n (bcells l)) : Fresh W w1 v1 l := ⟨OwnB.of_own ho, own_block ho⟩
theorem Fresh.far (h : Fresh W V v1 l) (hv : OwnB W v m) : Far v v1 := fun j hj e => by have := hv.lt j hj; have := h.new j e; omega
theorem Fresh.not_in (h : Fresh W V v1 l) (ho : ∀ i ∈ own, i < W.heap.size) : ∀ j, v1.ownBlock = some j → j ∉ own := fun j hj e => by have := ho j e; have := h.new j hj; omega
theorem Fresh.fr (h : Fresh W w1 v1 l) (hf : Fr w1 w2 own) (ho : ∀ i ∈ own, i < W.heap.size) : Fresh W w2 v1 l := ⟨h.own.fr hf (h.not_in ho), h.new⟩
theorem Fresh.set (h : Fresh W V v1 l) (hg : g < W.heap.size) (i : Nat) (u : Value) : Fresh W (V.setCell ⟨g, i, none⟩ u) v1 l := ⟨h.own.set (fun e => by have := h.new _ e; omega) _ _, h.new⟩
theorem Fresh.below (h : Fresh W w1 v1 l) (hb : Below w1.heap.size w1 w2) : Fresh W w2 v1 l := ⟨h.own.below hb, h.new⟩
theorem DkP.setTorn (h : DkP V g d v nx left) (hF : Fresh W V v1 l) (hg : g < W.heap.size) (hv : ∀ j, v.ownBlock = some j → j < W.heap.size) : DkP ((V.setCell ⟨g, 6, none⟩ (.bool true)).setCell ⟨g, 7, none⟩ v1) g { d with torn := true, half := l } v v1 left := by
  refine ⟨(h.box.set 6 (.bool true)).set 7 v1, (h.row.set h.far_box.1 _ _).set h.far_box.1 _ _, ((hF.set hg _ _).set hg _ _).own, h.left, h.sz, fun j hj e => ?_⟩
  have := hv j hj; have := hF.new j e; omega
theorem DkP.setNew {n : Nat} (h : DkP V g d v nx left) (hF : Fresh W V v1 l) (hn : n = l.length) (hg : g < W.heap.size) (hv : ∀ j, nx.ownBlock = some j → j < W.heap.size) : DkP ((V.setCell ⟨g, 1, none⟩ v1).setCell ⟨g, 2, none⟩ (.int .i64 n)) g { d with la := l, re := [] } v1 nx left := by
  subst hn
  refine ⟨(h.box.set 1 v1).set 2 _, ?_, (h.nxt.set h.far_box.2 _ _).set h.far_box.2 _ _, h.left, h.sz, fun j hj e => ?_⟩
  · show OwnB _ v1 (l ++ [])
    rw [List.append_nil]
    exact ((hF.set hg _ _).set hg _ _).own
  · have := hv j e; have := hF.new j hj; omega

set_option maxHeartbeats 1000000 in
theorem replace_any {a : Option Addr} {n c : Nat} (h : PD W g d own) (hl : d.fuse < 9223372036854775808) (hb : BAt W W.heap.size a n l) (hn : n ≤ 1099511627776) :
    Calls Try.prog 23 #[.pointer (some ⟨g, 0, none⟩), .slice a n c] W fun e w' => e = .returned (.int .i64 (repE d l)) ∧ Stp (fun V own => PD V g (repD d l) own) W w' own := by
  have h0 := h
  have hlt := h.lt
  obtain ⟨v, nx, left, hp, rfl⟩ := h
  have HS : Hid (Stp (fun V own => PD V g d own) W W (g :: (bk v ++ bk nx))) := Stp.same h0 (Below.refl _ _)
  have cD := down_any hp.box
  clear h0
  by_cases hd : d.down = true
  · rw [hd] at cD
    have e1 : repE d l = 8 := by unfold repE; rw [if_pos hd]
    have e2 : repD d l = d := by unfold repD; rw [if_pos hd]
    rw [e1, e2]
    clear hp e1 e2 hd hl hb hlt
    go_enter Try.func23, Try.ntmps23
    go_wp2_with (go_at_call 13; ((with_reducible refine cD.mono ?_); rintro e w1 ⟨rfl, rfl⟩))
    go_ret
    exact ⟨rfl, HS.out⟩
  · have hd0 : d.down = false := by simpa using hd
    rw [hd0] at cD
    have hlen := hb.len
    obtain ⟨y0, y1, y2, y3, y4, y5, y6, y7⟩ := hp.box.eight
    have fA : fullR d l = decide ((n : Int) > d.size) := by
      unfold fullR
      rw [← hlen]
    by_cases hf : fullR d l = true
    · have e1 : repE d l = 7 := by unfold repE; rw [if_neg hd, if_pos hf]
      have e2 : repD d l = d := by unfold repD; rw [if_neg hd, if_pos hf]
      rw [e1, e2]
      rw [hf] at fA
      have fA' := fA.symm
      generalize d.size = s at *
      clear hp e1 e2 hd hd0 hl hf hlen fA hb hlt
      go_enter Try.func23, Try.ntmps23
      go_wp2_with (go_at_call 13; ((with_reducible refine cD.mono ?_); rintro e w1 ⟨rfl, rfl⟩))
      go_ret
      exact ⟨rfl, HS.out⟩
    · have hf0 : fullR d l = false := by simpa using hf
      rw [hf0] at fA
      have fA' := fA.symm
      have cC := bclone_any a n c l W hb hn
      have HP := Lib.hid hp
      have HG : Hid (∀ i ∈ g :: (bk v ++ bk nx), i < W.heap.size) := hlt
      have HV : Hid ((∀ j, v.ownBlock = some j → j < W.heap.size) ∧ ∀ j, nx.ownBlock = some j → j < W.heap.size) := ⟨hp.row.lt, hp.nxt.lt⟩
      have hB : ∀ V, Below W.heap.size W V → DkP V g d v nx left := fun V hb => hp.below hb
      have HB := Lib.hid hB
      cases hz : goesB d with
      | true =>
        have e1 : repE d l = 8 := by unfold repE; rw [if_neg hd, if_neg hf, if_pos hz]
        have e2 : repD d l = { goesD d with torn := true, half := l } := by unfold repD; rw [if_neg hd, if_neg hf, if_pos hz]
        rw [e1, e2]
        clear hp e1 e2 hd hd0 hf hf0 hlen fA hb hlt hB
        go_enter Try.func23, Try.ntmps23
        go_upto_region 7 with (first | (go_at_call 13; ((with_reducible refine cD.mono ?_); rintro e w1 ⟨rfl, rfl⟩)) | (go_at_call 28; ((with_reducible refine cC.mono ?_); rintro e w1 ⟨a1, n1, c1, rfl, ho, hb1⟩; have N1 := Lib.hid (Fresh.made ho); have B1 := Lib.hid hb1; have cB := blows_any (HB.out _ hb1) hl; rw [hz] at cB; clear ho hb1)) | (go_at_call 29; ((with_reducible refine cB.mono ?_); rintro e w2 ⟨rfl, ⟨left', h2⟩, hf⟩; have H2 := Lib.hid h2; have F2 := Lib.hid hf; obtain ⟨x0, x1, x2, x3, x4, x5, x6, x7⟩ := h2.box.eight; have z6 := h2.box.frozen 6; have z7 := h2.box.frozen 7; clear h2 hf)))
        have N2 : Hid (Fresh W w2 (.slice a1 n1 c1) l) := N1.out.fr F2.out (fun i hi => HG.out i (by simp at hi; simp [hi]))
        have hg0 := HG.out g (List.mem_cons_self ..)
        have HR : Hid (Stp (fun V own => PD V g { goesD d with torn := true, half := l } own) W ((w2.setCell ⟨g, 6, none⟩ (.bool true)).setCell ⟨g, 7, none⟩ (.slice a1 n1 c1)) (g :: (bk v ++ bk nx))) := by
          refine ⟨_, ⟨v, _, left', H2.out.setTorn N2.out hg0 HV.out.1, rfl⟩, ?_, fun i hi => ?_⟩
          · exact (((Fr.of_below B1.out).trans F2.out (fun i hi => .inl (by simp at hi; simp [hi]))).trans (Fr.set _ g 6 _) (fun i hi => .inl (by simp at hi; simp [hi]))).trans (Fr.set _ g 7 _) (fun i hi => .inl (by simp at hi; simp [hi]))
          · rcases List.mem_cons.1 hi with rfl | hi
            · exact .inl (List.mem_cons_self ..)
            · rcases List.mem_append.1 hi with hi | hi
              · exact .inl (List.mem_cons_of_mem _ (List.mem_append_left _ hi))
              · exact .inr (N2.out.new i (bk_mem.1 hi))
        clear cB cC cD
        go_wp2
        go_ret
        exact ⟨rfl, HR.out⟩
      | false =>
        have e1 : repE d l = 0 := by unfold repE; rw [if_neg hd, if_neg hf, if_neg (by rw [hz]; exact Bool.false_ne_true)]
        have e2 : repD d l = { goesD d with la := l, re := [] } := by unfold repD; rw [if_neg hd, if_neg hf, if_neg (by rw [hz]; exact Bool.false_ne_true)]
        rw [e1, e2]
        have HL := Lib.hid hlen
        clear hp e1 e2 hd hd0 hf hf0 hlen fA hb hlt hB
        go_enter Try.func23, Try.ntmps23
        go_upto_region 9 with (first | (go_at_call 13; ((with_reducible refine cD.mono ?_); rintro e w1 ⟨rfl, rfl⟩)) | (go_at_call 28; ((with_reducible refine cC.mono ?_); rintro e w1 ⟨a1, n1, c1, rfl, ho, hb1⟩; have N1 := Lib.hid (Fresh.made ho); have B1 := Lib.hid hb1; have L1 := Lib.hid (own_len ho); have cB := blows_any (HB.out _ hb1) hl; rw [hz] at cB; clear ho hb1)) | (go_at_call 29; ((with_reducible refine cB.mono ?_); rintro e w2 ⟨rfl, ⟨left', h2⟩, hf⟩; have H2 := Lib.hid h2; have F2 := Lib.hid hf; obtain ⟨x0, x1, x2, x3, x4, x5, x6, x7⟩ := h2.box.eight; have z6 := h2.box.frozen 1; have z7 := h2.box.frozen 2; clear h2 hf)))
        have N2 : Hid (Fresh W w2 (.slice a1 n1 c1) l) := N1.out.fr F2.out (fun i hi => HG.out i (by simp at hi; simp [hi]))
        have hg0 := HG.out g (List.mem_cons_self ..)
        have HR : Hid (Stp (fun V own => PD V g { goesD d with la := l, re := [] } own) W ((w2.setCell ⟨g, 1, none⟩ (.slice a1 n1 c1)).setCell ⟨g, 2, none⟩ (.int .i64 n1)) (g :: (bk v ++ bk nx))) := by
          refine ⟨_, ⟨_, nx, left', H2.out.setNew N2.out L1.out.symm hg0 HV.out.2, rfl⟩, ?_, fun i hi => ?_⟩
          · exact (((Fr.of_below B1.out).trans F2.out (fun i hi => .inl (by simp at hi; simp [hi]))).trans (Fr.set _ g 1 _) (fun i hi => .inl (by simp at hi; simp [hi]))).trans (Fr.set _ g 2 _) (fun i hi => .inl (by simp at hi; simp [hi]))
          · rcases List.mem_cons.1 hi with rfl | hi
            · exact .inl (List.mem_cons_self ..)
            · rcases List.mem_append.1 hi with hi | hi
              · exact .inr (N2.out.new i (bk_mem.1 hi))
              · exact .inl (List.mem_cons_of_mem _ (List.mem_append_right _ hi))
        clear cB cC cD
        go_wp2
        go_ret
        exact ⟨rfl, HR.out⟩
end

end Go.Proofs.Ytclfgkeepmdmjaa
