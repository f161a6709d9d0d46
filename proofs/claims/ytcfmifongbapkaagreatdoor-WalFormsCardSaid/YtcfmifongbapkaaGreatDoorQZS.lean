
/- Contract of disk's Append. Conditions: the disk lies in memory, and what is appended. Contract of disk's Replace. Conditions: the disk lies in memory, and what is laid. Contracts of disk's behind and Cut. Conditions: the disk lies in memory. The disk's contracts in a law's words: a disk that the law made, its rows beside it; the law's awake. No condition. -/
import Derived.Test.YtcfmifongbapkaaGreatDoorQZR
import Derived.Lib.SlBytesConst
/- DiskAppend -/
namespace Go.Proofs.YtcfmifongbapkaaGreatDoor

open Go.RowKit

set_option linter.unusedVariables false
set_option linter.unusedSimpArgs false

section

variable {W : World} {g : Nat} {d : Dk} {v nx : Value} {left : Int} {own : List Nat} {l : List UInt8}

theorem Stp.app {w2 w3 : World} {v1 : Value} {left' : Int} (h : DkP W g d v nx left) (hat : v1.ownBlock = v.ownBlock ∨ v1.ownBlock = some W.heap.size) (hF : Fr W w2 (g :: (bk v ++ bk nx))) (hf : Fr w2 w3 [g]) {d' : Dk} (h3 : DkP w3 g d' v1 nx left') :
    Stp (fun V own => PD V g d' own) W w3 (g :: (bk v ++ bk nx)) := by
  refine ⟨g :: (bk v1 ++ bk nx), ⟨v1, nx, left', h3, rfl⟩, hF.trans hf (fun i hi => .inl (by simp at hi; simp [hi])), fun i hi => ?_⟩
  rcases List.mem_cons.1 hi with rfl | hi
  · exact .inl (List.mem_cons_self ..)
  · rcases List.mem_append.1 hi with hi | hi
    · rcases hat with e | e
      · exact .inl (List.mem_cons_of_mem _ (List.mem_append_left _ (bk_mem.2 (e ▸ bk_mem.1 hi))))
      · have h1 := bk_mem.1 hi
        rw [e] at h1; injection h1 with h1
        exact .inr (by omega)
    · exact .inl (List.mem_cons_of_mem _ (List.mem_append_right _ hi))

theorem Stp.from_drew {K : World → List Nat → Prop} {W W' : World} {own : List Nat} {q : Nat} (h : Stp K (W.drewN q) W' own) : Stp K W W' own := by
  obtain ⟨o, k, f, m⟩ := h
  exact ⟨o, k, ⟨f.os, f.tape, f.output, f.size, f.block⟩, m⟩
set_option maxHeartbeats 1000000 in
theorem append_any {a : Option Addr} {n c : Nat} (h : PD W g d own) (hl : d.fuse < 9223372036854775808) (hM : d.la.length + d.re.length ≤ 1099511627776) (hb : BAt W W.heap.size a n l) (hn : n ≤ 1099511627776) :
    Calls Tryz.prog 63 #[.pointer (some ⟨g, 0, none⟩), .slice a n c] W fun e w' => e = .returned (.int .i64 (appE d l)) ∧ Stp (fun V own => PD V g (appD d l) own) W w' own := by
  have h0 := h
  obtain ⟨v, nx, left, hp, rfl⟩ := h
  have HS : Hid (∀ q, Stp (fun V own => PD V g d own) W (W.drewN q) (g :: (bk v ++ bk nx))) := fun q => Stp.same (h0.below (below_drewN q (Below.refl _ _))) (below_drewN q (Below.refl _ _))
  have cD := down_any hp.box
  clear h0
  by_cases hd : d.down = true
  · rw [hd] at cD
    have e1 : appE d l = 8 := by unfold appE; rw [if_pos hd]
    have e2 : appD d l = d := by unfold appD; rw [if_pos hd]
    rw [e1, e2]
    clear hp e1 e2 hd hl hb hM
    go_enter Tryz.func63, Tryz.ntmps63
    go_wp2_with (go_at_call 66; ((with_reducible refine cD.mono ?_); rintro e w1 ⟨rfl, rfl⟩))
    go_ret
    exact ⟨rfl, HS.out 0⟩
  · have hd0 : d.down = false := by simpa using hd
    rw [hd0] at cD
    obtain ⟨a0, k, c0, rfl, hk, ho, hbk, hkc, hcm⟩ := hp.row.parts
    have hlen := hb.len
    have hkM : k ≤ 1099511627776 := by rw [hk, List.length_append]; exact hM
    obtain ⟨y0, y1, y2, y3, y4, y5, y6, y7⟩ := hp.box.eight
    obtain ⟨hs0, hs1⟩ := hp.sz
    have fA : fullA d l = decide ((n : Int) > d.size - (k : Int)) := by
      unfold fullA
      rw [hk, List.length_append, ← hlen]
      refine decide_eq_decide.2 ⟨fun h => by omega, fun h => by omega⟩
    by_cases hf : fullA d l = true
    · have e1 : appE d l = 7 := by unfold appE; rw [if_neg hd, if_pos hf]
      have e2 : appD d l = d := by unfold appD; rw [if_neg hd, if_pos hf]
      rw [e1, e2]
      rw [hf] at fA
      have fA' := fA.symm
      generalize d.size = s at *
      clear hp e1 e2 hd hd0 hl hM hk ho hbk hf hlen fA hb
      go_enter Tryz.func63, Tryz.ntmps63
      go_upto_region 3 with (go_at_call 66; ((with_reducible refine cD.mono ?_); rintro e w1 ⟨rfl, rfl⟩))
      go_quiet (fail)
      go_wp2
      go_ret
      exact ⟨rfl, HS.out _⟩
    · have hf0 : fullA d l = false := by simpa using hf
      rw [hf0] at fA
      have fA' := fA.symm
      have HP := Lib.hid hp
      obtain ⟨i0, hi, hz0, hz1, hz2⟩ := info_parts Tryz.info5
      have e1 : appE d l = if goesB d then 8 else 0 := by unfold appE; rw [if_neg hd, if_neg hf]
      have e2 : appD d l = goesD { d with re := d.re ++ l } := by
        unfold appD goesD
        rw [if_neg hd, if_neg hf]
        split
        · rfl
        · split <;> rfl
      have eg : goesB { d with re := d.re ++ l } = goesB d := rfl
      rw [e1, e2, ← eg]
      have OB := Lib.hid ho
      have HB := Lib.hid hb
      clear e1 e2 hd hd0 hM hk ho hbk hf hlen fA hb eg hf0
      cases hgz : goesB { d with re := d.re ++ l } with
      | true =>
        rw [if_pos rfl]
        go_enter Tryz.func63, Tryz.ntmps63
        go_upto_region 3 with (go_at_call 66; ((with_reducible refine cD.mono ?_); rintro e w1 ⟨rfl, rfl⟩))
        go_quiet (fail)
        have HQ := Lib.hid (HP.out.below (below_drewN nq (Below.refl _ _)))
        go_upto_region 6 with (at_builtin; (refine wpList_append_row _ rfl _ _ 34 rfl 0 5 i0 _ 1 Tryz.underlying34 hi hz0 hz1 hz2 rfl (.slice a0 k c0) k (bcells (d.la ++ d.re)) rfl OB.out a n c (bcells l) rfl HB.out.cells (bcells_one l) (by unfold maxLen; omega) (by omega) (Nat.zero_le _) ?_; intro v1 w1 ho1 hg hat; obtain ⟨a1, c1, rfl, _, _, _⟩ := own_form ho1; have X1 := Lib.hid (HQ.out.appended ho1 hg hat); have T1 := Lib.hid hat; have bx := HQ.out.box_grown hg; have z1 := bx.frozen 1; obtain ⟨x0, x1, x2, x3, x4, x5, x6, x7⟩ := bx.eight; clear bx ho1 hg hat))
        have cB := blows_any X1.out.1 hl
        rw [hgz] at cB
        clear hp cD y0 y1 y2 y3 y4 y5 y6 y7 x0 x1 x2 x3 x4 x5 x6 x7 z1 hgz
        go_wp2_with (go_at_call 67; ((with_reducible refine cB.mono ?_); rintro e w2 ⟨rfl, ⟨left', h2⟩, hf⟩; have R := Lib.hid (Stp.app HQ.out T1.out X1.out.2 hf h2); clear h2 hf))
        go_ret
        exact ⟨rfl, R.out.from_drew⟩
      | false =>
        rw [if_neg Bool.false_ne_true]
        go_enter Tryz.func63, Tryz.ntmps63
        go_upto_region 3 with (go_at_call 66; ((with_reducible refine cD.mono ?_); rintro e w1 ⟨rfl, rfl⟩))
        go_quiet (fail)
        have HQ := Lib.hid (HP.out.below (below_drewN nq (Below.refl _ _)))
        go_upto_region 6 with (at_builtin; (refine wpList_append_row _ rfl _ _ 34 rfl 0 5 i0 _ 1 Tryz.underlying34 hi hz0 hz1 hz2 rfl (.slice a0 k c0) k (bcells (d.la ++ d.re)) rfl OB.out a n c (bcells l) rfl HB.out.cells (bcells_one l) (by unfold maxLen; omega) (by omega) (Nat.zero_le _) ?_; intro v1 w1 ho1 hg hat; obtain ⟨a1, c1, rfl, _, _, _⟩ := own_form ho1; have X1 := Lib.hid (HQ.out.appended ho1 hg hat); have T1 := Lib.hid hat; have bx := HQ.out.box_grown hg; have z1 := bx.frozen 1; obtain ⟨x0, x1, x2, x3, x4, x5, x6, x7⟩ := bx.eight; clear bx ho1 hg hat))
        have cB := blows_any X1.out.1 hl
        rw [hgz] at cB
        clear hp cD y0 y1 y2 y3 y4 y5 y6 y7 x0 x1 x2 x3 x4 x5 x6 x7 z1 hgz
        go_wp2_with (go_at_call 67; ((with_reducible refine cB.mono ?_); rintro e w2 ⟨rfl, ⟨left', h2⟩, hf⟩; have R := Lib.hid (Stp.app HQ.out T1.out X1.out.2 hf h2); clear h2 hf))
        go_ret
        exact ⟨rfl, R.out.from_drew⟩
end

end Go.Proofs.YtcfmifongbapkaaGreatDoor

/- DiskReplace -/
namespace Go.Proofs.YtcfmifongbapkaaGreatDoor

open Go.RowKit

set_option linter.unusedVariables false
set_option linter.unusedSimpArgs false

/-- A row just made, beside a world W. -/
structure Fresh (W V : World) (v1 : Value) (l : List UInt8) : Prop where
  own : OwnB V v1 l
  new : ∀ j, v1.ownBlock = some j → W.heap.size ≤ j
section

variable {W w1 w2 V : World} {g : Nat} {d : Dk} {v nx v1 : Value} {left left' : Int} {own : List Nat} {l m : List UInt8}

theorem Fresh.made {n : Nat} (ho : w1.ownsRow W.heap.size 5 1 v1 n (bcells l)) : Fresh W w1 v1 l := ⟨OwnB.of_own ho, own_block ho⟩
theorem Fresh.not_in (h : Fresh W V v1 l) (ho : ∀ i ∈ own, i < W.heap.size) : ∀ j, v1.ownBlock = some j → j ∉ own := fun j hj e => by have := ho j e; have := h.new j hj; omega
theorem Fresh.fr (h : Fresh W w1 v1 l) (hf : Fr w1 w2 own) (ho : ∀ i ∈ own, i < W.heap.size) : Fresh W w2 v1 l := ⟨h.own.fr hf (h.not_in ho), h.new⟩
theorem Fresh.set (h : Fresh W V v1 l) (hg : g < W.heap.size) (i : Nat) (u : Value) : Fresh W (V.setCell ⟨g, i, none⟩ u) v1 l := ⟨h.own.set (fun e => by have := h.new _ e; omega) _ _, h.new⟩
theorem DkP.setTorn (h : DkP V g d v nx left) (hF : Fresh W V v1 l) (hg : g < W.heap.size) (hv : ∀ j, v.ownBlock = some j → j < W.heap.size) : DkP ((V.setCell ⟨g, 6, none⟩ (.bool true)).setCell ⟨g, 7, none⟩ v1) g { d with torn := true, half := l } v v1 left := by
  refine ⟨(h.box.set 6 (.bool true)).set 7 v1, (h.row.set h.far_box.1 _ _).set h.far_box.1 _ _, ((hF.set hg _ _).set hg _ _).own, h.left, h.sz, fun j hj e => ?_⟩
  have := hv j hj; have := hF.new j e; omega
theorem DkP.setNew {n : Nat} (h : DkP V g d v nx left) (hF : Fresh W V v1 l) (hn : n = l.length) (hg : g < W.heap.size) (hv : ∀ j, nx.ownBlock = some j → j < W.heap.size) : DkP ((V.setCell ⟨g, 1, none⟩ v1).setCell ⟨g, 2, none⟩ (.int .i64 n)) g { d with la := l, re := [] } v1 nx left := by
  subst hn
  refine ⟨(h.box.set 1 v1).set 2 _, ?_, (h.nxt.set h.far_box.2 _ _).set h.far_box.2 _ _, h.left, h.sz, fun j hj e => ?_⟩
  · show OwnB _ v1 (l ++ [])
    rw [List.append_nil]
    exact ((hF.set hg _ _).set hg _ _).own
  · have := hv j e; have := hF.new j hj; omega

set_option maxHeartbeats 1000000 in
theorem replace_any {a : Option Addr} {n c : Nat} (h : PD W g d own) (hl : d.fuse < 9223372036854775808) (hb : BAt W W.heap.size a n l) (hn : n ≤ 1099511627776) :
    Calls Tryz.prog 71 #[.pointer (some ⟨g, 0, none⟩), .slice a n c] W fun e w' => e = .returned (.int .i64 (repE d l)) ∧ Stp (fun V own => PD V g (repD d l) own) W w' own := by
  have h0 := h
  have hlt := h.lt
  obtain ⟨v, nx, left, hp, rfl⟩ := h
  have HS : Hid (Stp (fun V own => PD V g d own) W W (g :: (bk v ++ bk nx))) := Stp.same h0 (Below.refl _ _)
  have cD := down_any hp.box
  clear h0
  by_cases hd : d.down = true
  · rw [hd] at cD
    have e1 : repE d l = 8 := by unfold repE; rw [if_pos hd]
    have e2 : repD d l = d := by unfold repD; rw [if_pos hd]
    rw [e1, e2]
    clear hp e1 e2 hd hl hb hlt
    go_enter Tryz.func71, Tryz.ntmps71
    go_wp2_with (go_at_call 66; ((with_reducible refine cD.mono ?_); rintro e w1 ⟨rfl, rfl⟩))
    go_ret
    exact ⟨rfl, HS.out⟩
  · have hd0 : d.down = false := by simpa using hd
    rw [hd0] at cD
    have hlen := hb.len
    obtain ⟨y0, y1, y2, y3, y4, y5, y6, y7⟩ := hp.box.eight
    have fA : fullR d l = decide ((n : Int) > d.size) := by
      unfold fullR
      rw [← hlen]
    by_cases hf : fullR d l = true
    · have e1 : repE d l = 7 := by unfold repE; rw [if_neg hd, if_pos hf]
      have e2 : repD d l = d := by unfold repD; rw [if_neg hd, if_pos hf]
      rw [e1, e2]
      rw [hf] at fA
      have fA' := fA.symm
      generalize d.size = s at *
      clear hp e1 e2 hd hd0 hl hf hlen fA hb hlt
      go_enter Tryz.func71, Tryz.ntmps71
      go_wp2_with (go_at_call 66; ((with_reducible refine cD.mono ?_); rintro e w1 ⟨rfl, rfl⟩))
      go_ret
      exact ⟨rfl, HS.out⟩
    · have hf0 : fullR d l = false := by simpa using hf
      rw [hf0] at fA
      have fA' := fA.symm
      have cC := bclone_any a n c l W hb hn
      have HP := Lib.hid hp
      have HG : Hid (∀ i ∈ g :: (bk v ++ bk nx), i < W.heap.size) := hlt
      have HV : Hid ((∀ j, v.ownBlock = some j → j < W.heap.size) ∧ ∀ j, nx.ownBlock = some j → j < W.heap.size) := ⟨hp.row.lt, hp.nxt.lt⟩
      have hB : ∀ V, Below W.heap.size W V → DkP V g d v nx left := fun V hb => hp.below hb
      have HB := Lib.hid hB
      cases hz : goesB d with
      | true =>
        have e1 : repE d l = 8 := by unfold repE; rw [if_neg hd, if_neg hf, if_pos hz]
        have e2 : repD d l = { goesD d with torn := true, half := l } := by unfold repD; rw [if_neg hd, if_neg hf, if_pos hz]
        rw [e1, e2]
        clear hp e1 e2 hd hd0 hf hf0 hlen fA hb hlt hB
        go_enter Tryz.func71, Tryz.ntmps71
        go_upto_region 7 with (first | (go_at_call 66; ((with_reducible refine cD.mono ?_); rintro e w1 ⟨rfl, rfl⟩)) | (go_at_call 65; ((with_reducible refine cC.mono ?_); rintro e w1 ⟨a1, n1, c1, rfl, ho, hb1⟩; have N1 := Lib.hid (Fresh.made ho); have B1 := Lib.hid hb1; have cB := blows_any (HB.out _ hb1) hl; rw [hz] at cB; clear ho hb1)) | (go_at_call 67; ((with_reducible refine cB.mono ?_); rintro e w2 ⟨rfl, ⟨left', h2⟩, hf⟩; have H2 := Lib.hid h2; have F2 := Lib.hid hf; obtain ⟨x0, x1, x2, x3, x4, x5, x6, x7⟩ := h2.box.eight; have z6 := h2.box.frozen 6; have z7 := h2.box.frozen 7; clear h2 hf)))
        have N2 : Hid (Fresh W w2 (.slice a1 n1 c1) l) := N1.out.fr F2.out (fun i hi => HG.out i (by simp at hi; simp [hi]))
        have hg0 := HG.out g (List.mem_cons_self ..)
        have HR : Hid (Stp (fun V own => PD V g { goesD d with torn := true, half := l } own) W ((w2.setCell ⟨g, 6, none⟩ (.bool true)).setCell ⟨g, 7, none⟩ (.slice a1 n1 c1)) (g :: (bk v ++ bk nx))) := by
          refine ⟨_, ⟨v, _, left', H2.out.setTorn N2.out hg0 HV.out.1, rfl⟩, ?_, fun i hi => ?_⟩
          · exact (((Fr.of_below B1.out).trans F2.out (fun i hi => .inl (by simp at hi; simp [hi]))).trans (Fr.set _ g 6 _) (fun i hi => .inl (by simp at hi; simp [hi]))).trans (Fr.set _ g 7 _) (fun i hi => .inl (by simp at hi; simp [hi]))
          · rcases List.mem_cons.1 hi with rfl | hi
            · exact .inl (List.mem_cons_self ..)
            · rcases List.mem_append.1 hi with hi | hi
              · exact .inl (List.mem_cons_of_mem _ (List.mem_append_left _ hi))
              · exact .inr (N2.out.new i (bk_mem.1 hi))
        clear cB cC cD
        go_wp2
        go_ret
        exact ⟨rfl, HR.out⟩
      | false =>
        have e1 : repE d l = 0 := by unfold repE; rw [if_neg hd, if_neg hf, if_neg (by rw [hz]; exact Bool.false_ne_true)]
        have e2 : repD d l = { goesD d with la := l, re := [] } := by unfold repD; rw [if_neg hd, if_neg hf, if_neg (by rw [hz]; exact Bool.false_ne_true)]
        rw [e1, e2]
        have HL := Lib.hid hlen
        clear hp e1 e2 hd hd0 hf hf0 hlen fA hb hlt hB
        go_enter Tryz.func71, Tryz.ntmps71
        go_upto_region 9 with (first | (go_at_call 66; ((with_reducible refine cD.mono ?_); rintro e w1 ⟨rfl, rfl⟩)) | (go_at_call 65; ((with_reducible refine cC.mono ?_); rintro e w1 ⟨a1, n1, c1, rfl, ho, hb1⟩; have N1 := Lib.hid (Fresh.made ho); have B1 := Lib.hid hb1; have L1 := Lib.hid (own_len ho); have cB := blows_any (HB.out _ hb1) hl; rw [hz] at cB; clear ho hb1)) | (go_at_call 67; ((with_reducible refine cB.mono ?_); rintro e w2 ⟨rfl, ⟨left', h2⟩, hf⟩; have H2 := Lib.hid h2; have F2 := Lib.hid hf; obtain ⟨x0, x1, x2, x3, x4, x5, x6, x7⟩ := h2.box.eight; have z6 := h2.box.frozen 1; have z7 := h2.box.frozen 2; clear h2 hf)))
        have N2 : Hid (Fresh W w2 (.slice a1 n1 c1) l) := N1.out.fr F2.out (fun i hi => HG.out i (by simp at hi; simp [hi]))
        have hg0 := HG.out g (List.mem_cons_self ..)
        have HR : Hid (Stp (fun V own => PD V g { goesD d with la := l, re := [] } own) W ((w2.setCell ⟨g, 1, none⟩ (.slice a1 n1 c1)).setCell ⟨g, 2, none⟩ (.int .i64 n1)) (g :: (bk v ++ bk nx))) := by
          refine ⟨_, ⟨_, nx, left', H2.out.setNew N2.out L1.out.symm hg0 HV.out.2, rfl⟩, ?_, fun i hi => ?_⟩
          · exact (((Fr.of_below B1.out).trans F2.out (fun i hi => .inl (by simp at hi; simp [hi]))).trans (Fr.set _ g 1 _) (fun i hi => .inl (by simp at hi; simp [hi]))).trans (Fr.set _ g 2 _) (fun i hi => .inl (by simp at hi; simp [hi]))
          · rcases List.mem_cons.1 hi with rfl | hi
            · exact .inl (List.mem_cons_self ..)
            · rcases List.mem_append.1 hi with hi | hi
              · exact .inr (N2.out.new i (bk_mem.1 hi))
              · exact .inl (List.mem_cons_of_mem _ (List.mem_append_right _ hi))
        clear cB cC cD
        go_wp2
        go_ret
        exact ⟨rfl, HR.out⟩
end

end Go.Proofs.YtcfmifongbapkaaGreatDoor

/- DiskCut -/
namespace Go.Proofs.YtcfmifongbapkaaGreatDoor

open Go.RowKit

set_option linter.unusedVariables false
set_option linter.unusedSimpArgs false

section

variable {W : World} {g : Nat} {d : Dk} {v nx : Value} {left : Int} {own : List Nat}

def BehR (W : World) (l : List UInt8) (e : Ending) (w' : World) : Prop := ∃ a n c q, e = .returned (.slice a n c) ∧ BAt W W.heap.size a n l ∧ w' = W.drewN q

/-- What Cut answers and leaves. -/
def CutR (K : World → Nat → Dk → List Nat → Prop) (W : World) (g : Nat) (own : List Nat) (d : Dk) (k : Int) (e : Ending) (w' : World) : Prop :=
  ∃ g' own', e = .returned (.pointer (some ⟨g', 0, none⟩)) ∧ K w' g (downD d) own ∧ K w' g' (cutD d k) own' ∧ Fr W w' [g] ∧ ∀ i ∈ own', W.heap.size ≤ i
end

end Go.Proofs.YtcfmifongbapkaaGreatDoor

/- DiskLaw -/
namespace Go.Proofs.YtcfmifongbapkaaGreatDoor

open Go.RowKit

set_option linter.unusedVariables false
set_option linter.unusedSimpArgs false

/-- Rows of bytes of the law's own: the slice, its bytes. -/
abbrev Rws := List (Value × List UInt8)
/-- The law's disk, rows beside it, and nothing that was there at W has turned. -/
def LawD (W V : World) (g : Nat) (d : Dk) (R : Rws) : Prop := ∃ own, PD V g d own ∧ Below W.heap.size W V ∧ (∀ i ∈ own, W.heap.size ≤ i) ∧ ∀ r ∈ R, OwnB V r.1 r.2 ∧ ∀ j, r.1.ownBlock = some j → W.heap.size ≤ j ∧ j ∉ own
section

variable {W V V' : World} {g : Nat} {d d' : Dk} {R : Rws}

end

def Quiet2 (W : World) (v : Value) (e : Ending) (w' : World) : Prop := e = .returned v ∧ Below W.heap.size W w'
section

variable {W V : World} {g : Nat} {d d' : Dk} {R : Rws} {x : Int}

end

end Go.Proofs.YtcfmifongbapkaaGreatDoor
