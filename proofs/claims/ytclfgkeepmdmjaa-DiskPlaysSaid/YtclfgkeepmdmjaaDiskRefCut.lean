/- Contract of the document's Cut. Condition: the disk lies in memory. -/
import Derived.Test.YtclfgkeepmdmjaaDiskRefReplace

import Derived.Test.YtclfgkeepmdmjaaDiskCut

import Derived.Deep.RegionLaw

namespace Go.Proofs.Ytclfgkeepmdmjaa

open Go.RowKit

set_option linter.unusedVariables false
set_option linter.unusedSimpArgs false

theorem beh_stop (d : Dk) (k : Int) (j : Nat) (hc : ¬ (d.torn = true ∧ 0 < k)) (hj : j ≤ d.re.length) (hi : j = 0 ∨ (j : Int) ≤ k) (hs : j = d.re.length ∨ k ≤ (j : Int)) : behD d k = d.la ++ d.re.take j := by
  unfold behD
  cases ht : d.torn with
  | true =>
    rw [ht] at hc
    have hk : ¬ 0 < k := fun h => hc ⟨rfl, h⟩
    have h0 : j = 0 := by omega
    subst h0
    rw [if_pos rfl, if_neg hk]; simp
  | false =>
    rw [if_neg Bool.false_ne_true]
    congr 1
    by_cases e : k.toNat = j
    · rw [e]
    · have hl : d.re.length ≤ k.toNat ∧ j = d.re.length := by omega
      rw [List.take_of_length_le hl.1, List.take_of_length_le (by omega)]
/-- The disk that comes of a cut, while it is made. -/
def oD (d : Dk) (x : List UInt8) : Dk := ⟨d.size, x, [], -1, false, false, []⟩
structure OutS (W V : World) (g go : Nat) (d : Dk) (vl vr vh v : Value) (x : List UInt8) : Prop where
  src : DkR V g (downD d) vl vr vh
  out : DkR V go (oD d x) v (.slice none 0 0) (.slice none 0 0)
  ge : W.heap.size ≤ go
  new : ∀ j, v.ownBlock = some j → W.heap.size ≤ j
  fr : Fr W V [g]
  old : g < W.heap.size
  ol : ∀ j ∈ bk vl ++ bk vr ++ bk vh, j < W.heap.size
section

variable {W V V' : World} {g go : Nat} {d : Dk} {vl vr vh v v1 : Value} {x y : List UInt8} {own : List Nat}

theorem OutS.below (h : OutS W V g go d vl vr vh v x) (hb : Below V.heap.size V V') : OutS W V' g go d vl vr vh v x :=
  ⟨h.src.below hb, h.out.below hb, h.ge, h.new, h.fr.trans (Fr.of_below hb (own := [])) (fun i hi => by cases hi), h.old, h.ol⟩
theorem OutS.box_grown (h : OutS W V g go d vl vr vh v x) (hg : V.grownBy V' v.ownBlock) : BoxC V' go #[.int .i64 (oD d x).size, v, .slice none 0 0, .int .i64 (oD d x).fuse, .bool (oD d x).down, .bool (oD d x).torn, .slice none 0 0] 37 := h.out.box_grown hg h.out.far_box.1
/-- Bytes are appended to what lasts. -/
theorem OutS.grow {m : Nat} (h : OutS W V g go d vl vr vh v x) (ho : V'.ownsRow 0 5 1 v1 m (bcells x ++ bcells y)) (hg : V.grownBy V' v.ownBlock) (hat : v1.ownBlock = v.ownBlock ∨ v1.ownBlock = some V.heap.size) :
    OutS W (V'.setCell ⟨go, 1, none⟩ v1) g go d vl vr vh v1 (x ++ y) := by
  have hb := h.box_grown hg
  have ho1 : OwnB V' v1 (x ++ y) := by
    rw [← bcells_app] at ho
    exact OwnB.of_own ho
  have hne : v1.ownBlock ≠ some go := ho1.not_box hb (by decide)
  have hs := h.fr.size
  have hgo : g ≠ go := by have := h.old; have := h.ge; omega
  have hf : Fr V V' (bk v) := Fr.grown hg
  have hf2 := hf.wide (own' := go :: bk v) (fun i hi => List.mem_cons_of_mem _ hi)
  have hF : Fr V (V'.setCell ⟨go, 1, none⟩ v1) (go :: bk v) := hf2.trans (Fr.set V' go 1 v1) (fun i hi => .inl (by simp at hi; simp [hi]))
  refine ⟨h.src.kept fun j hj hlt => hF.block j hlt fun e => ?_, ⟨hb.set 1 v1, ho1.set hne _ _, OwnB.nil _, OwnB.nil _, h.out.sz, Far.nil, Far.nil, Far.nil'⟩, h.ge, fun j hj => ?_, ?_, h.old, h.ol⟩
  · have hjl : j < W.heap.size := by
      rcases List.mem_cons.1 hj with rfl | hj
      · exact h.old
      · exact h.ol j hj
    rcases List.mem_cons.1 e with rfl | e
    · have := h.ge; omega
    · have := h.new j (bk_mem.1 e); omega
  · rcases hat with e | e
    · exact h.new j (e ▸ hj)
    · rw [hj] at e; injection e with e; omega
  · refine h.fr.trans hF fun i hi => ?_
    rcases List.mem_cons.1 hi with rfl | hi
    · exact .inr h.ge
    · exact .inr (h.new i (bk_mem.1 hi))
theorem OutS.done {k : Int} (h : OutS W V g go d vl vr vh v x) (hx : behD d k = x) (ho : own = g :: (bk vl ++ bk vr ++ bk vh)) : CutR RD W g own d k (.returned (.pointer (some ⟨go, 0, none⟩))) V := by
  subst hx
  refine ⟨go, _, rfl, ⟨vl, vr, vh, h.src, ho⟩, ⟨v, _, _, h.out, rfl⟩, h.fr, fun i hi => ?_⟩
  rcases List.mem_cons.1 hi with rfl | hi
  · exact h.ge
  · rcases List.mem_append.1 hi with hi | hi
    · rcases List.mem_append.1 hi with hi | hi
      · exact h.new i (bk_mem.1 hi)
      · rw [bk_nil] at hi; cases hi
    · rw [bk_nil] at hi; cases hi
theorem bcells_u (c : UInt8) : bcells [c] = [.int .u8 (c.toNat : Int)] := rfl

set_option maxRecDepth 100000 in
set_option maxHeartbeats 2000000 in
theorem rcut_any (k : Int) (h : RD W g d own) (hM : BndD d 1099511627776) (hk1 : -9223372036854775808 ≤ k) (hk2 : k < 9223372036854775808) :
    Calls Try.prog 27 #[.pointer (some ⟨g, 0, none⟩), .int .i64 k] W (CutR RD W g own d k) := by
  have hlt := h.lt
  obtain ⟨vl, vr, vh, hp, hown⟩ := h
  have h1 := hp.setDown
  have H1 := Lib.hid h1
  have F1 := Lib.hid (Fr.set W g 4 (.bool true))
  obtain ⟨y0, y1, y2, y3, y4, y5, y6⟩ := hp.box.seven
  have z4 := hp.box.frozen 4
  have hsz := hp.sz
  have cN := rnew_any d.size hsz.2 (W.setCell ⟨g, 4, none⟩ (.bool true))
  have hW : (W.setCell ⟨g, 4, none⟩ (.bool true)).heap.size = W.heap.size := by simp [World.setCell]
  have hnew : newD d.size = oD d [] := by unfold newD oD; rw [show max d.size 0 = d.size by have := hsz.1; omega]
  rw [hnew] at cN
  have HW := Lib.hid hW
  have HG : Hid (g < W.heap.size ∧ ∀ j ∈ bk vl ++ bk vr ++ bk vh, j < W.heap.size) := ⟨hlt _ (by rw [hown]; exact List.mem_cons_self ..), fun j hj => hlt j (by rw [hown]; exact List.mem_cons_of_mem _ hj)⟩
  obtain ⟨hM1, hM2⟩ := hM
  obtain ⟨al, nl, cl, rfl, hnl, _, _, hcl, hml⟩ := hp.rl.parts
  obtain ⟨ar, nr, cr, rfl, hnr, _, _, hcr, hmr⟩ := hp.rr.parts
  obtain ⟨ah, nh, ch, rfl, hnh, _, _, hch, hmh⟩ := hp.rh.parts
  have HO := Lib.hid hown
  have NL := Lib.hid hnl
  have NR := Lib.hid hnr
  have NH := Lib.hid hnh
  have nlr : nl + nr ≤ 1099511627776 := by omega
  have nhb : nh ≤ 1099511627776 := by omega
  obtain ⟨i0, hi, hz0, hz1, hz2⟩ := info_parts Try.info5
  have mk : ∀ w1, Below (W.setCell ⟨g, 4, none⟩ (.bool true)).heap.size (W.setCell ⟨g, 4, none⟩ (.bool true)) w1 → DkR w1 (W.setCell ⟨g, 4, none⟩ (.bool true)).heap.size (oD d []) (.slice none 0 0) (.slice none 0 0) (.slice none 0 0) → Hid (OutS W w1 g (W.setCell ⟨g, 4, none⟩ (.bool true)).heap.size d (.slice al nl cl) (.slice ar nr cr) (.slice ah nh ch) (.slice none 0 0) []) :=
    fun w1 hb hd => ⟨H1.out.below hb, hd, by rw [HW.out]; exact Nat.le_refl _, (fun j hj => by cases hj), F1.out.trans (Fr.of_below hb (own := [])) (fun i hi => by cases hi), HG.out.1, HG.out.2⟩
  clear hown hp h1 hlt hnl hnr hnh hM1 hM2 hnew
  obtain ⟨go, hgo⟩ : ∃ go, go = (W.setCell ⟨g, 4, none⟩ (.bool true)).heap.size := ⟨_, rfl⟩
  rw [← hgo] at cN mk
  clear hgo hW
  by_cases hA : d.torn = true ∧ 0 < k
  · obtain ⟨ht, hk⟩ := hA
    have EB : Hid (behD d k = [] ++ d.half) := by unfold Hid behD; rw [if_pos ht, if_pos hk]; rfl
    have hd : decide (k > 0) = true := decide_eq_true hk
    rw [ht] at y5
    go_enter Try.func27, Try.ntmps27
    go_upto_region 4 with (go_at_call 11; ((with_reducible refine cN.mono ?_); rintro e w1 ⟨rfl, hb1, hd1⟩; have S1 := mk _ hb1 hd1; have q5 := S1.out.src.box.seven.2.2.2.2.2.1; rw [show (downD d).torn = true from ht] at q5; clear hb1 hd1))
    have S2 : Hid (OutS W w1.drew g go d (.slice al nl cl) (.slice ar nr cr) (.slice ah nh ch) (.slice none 0 0) []) := S1.out.below (below_drewN 1 (Below.refl _ _))
    obtain ⟨x0, x1, x2, x3, x4, x5, x6⟩ := S2.out.src.box.seven
    obtain ⟨t0, t1, t2, t3, t4, t5, t6⟩ := S2.out.out.box.seven
    go_region_law (first | (refine step_append_row1 _ rfl _ _ 33 rfl 0 5 i0 _ 1 Try.underlying33 hi hz0 hz1 hz2 rfl (.slice none 0 0) 0 (bcells []) rfl (World.ownsRow_nil _ _ _ _) ah nh ch (bcells d.half) rfl (S2.out.src.rh.bat NH.out).cells (bcells_one _) (by unfold maxLen; omega) (by omega) (Nat.zero_le _) ?_; intro v2 w2 ho hg hat; rw [Nat.zero_add] at ho; have X2 := Lib.hid (S2.out.grow ho hg hat); obtain ⟨a2, c2, rfl, _, _, _⟩ := own_form ho; have bx := S2.out.box_grown hg; have z1 := bx.frozen 1; obtain ⟨u0, u1, u2, u3, u4, u5, u6⟩ := bx.seven; clear bx ho hg hat))
    all_goals (try go_wp2)
    all_goals (go_ret; exact X2.out.done EB.out HO.out)
  · have EA := Lib.hid hA
    have hT : 0 < k → d.torn = false := fun hk => by
      cases ht : d.torn with
      | true => exact absurd ⟨ht, hk⟩ hA
      | false => rfl
    have HT := Lib.hid hT
    have hcond : (d.torn = true ∧ decide (k > 0) = false) ∨ d.torn = false := by
      cases ht : d.torn with
      | true => exact .inl ⟨rfl, decide_eq_false fun hk => hA ⟨ht, hk⟩⟩
      | false => exact .inr rfl
    clear hA hT
    have key : ∀ b : Bool, b = d.torn → (b = true → decide (k > 0) = false) → Calls Try.prog 27 #[.pointer (some ⟨g, 0, none⟩), .int .i64 k] W (CutR RD W g own d k) := by
      intro b hb hbk
      rw [← hb] at y5
      clear hcond
      go_enter Try.func27, Try.ntmps27
      go_upto_region 3 with (go_at_call 11; ((with_reducible refine cN.mono ?_); rintro e w1 ⟨rfl, hb1, hd1⟩; have S1 := mk _ hb1 hd1; have q5 := S1.out.src.box.seven.2.2.2.2.2.1; rw [show (downD d).torn = b from hb.symm] at q5; clear hb1 hd1))
      have HB := Lib.hid hb
      clear hb y0 y1 y2 y3 y4 y5 y6 z4 cN
      go_cut [22] (fun v wr => v = .bool false ∧ wr = w1)
      case first =>
        cases b with
        | true =>
          have hk := hbk rfl
          go_wp2
          go_meet
          case rel => exact ⟨rfl, rfl⟩
        | false =>
          go_wp2
          go_meet
          case rel => exact ⟨rfl, rfl⟩
      case rest =>
      obtain ⟨rfl, hwr⟩ := hcut
      obtain rfl := hwr.symm
      go_upto_region 6 with (fail)
      have S2 : Hid (OutS W w1.drew g go d (.slice al nl cl) (.slice ar nr cr) (.slice ah nh ch) (.slice none 0 0) []) := S1.out.below (below_drewN 1 (Below.refl _ _))
      obtain ⟨x0, x1, x2, x3, x4, x5, x6⟩ := S2.out.src.box.seven
      obtain ⟨t0, t1, t2, t3, t4, t5, t6⟩ := S2.out.out.box.seven
      go_cut [47] (fun _ wr => ∃ v, OutS W wr g go d (.slice al nl cl) (.slice ar nr cr) (.slice ah nh ch) v d.la)
      case first =>
        go_region_law (first | (refine step_append_row1 _ rfl _ _ 33 rfl 0 5 i0 _ 1 Try.underlying33 hi hz0 hz1 hz2 rfl (.slice none 0 0) 0 (bcells []) rfl (World.ownsRow_nil _ _ _ _) al nl cl (bcells d.la) rfl (S2.out.src.rl.bat NL.out).cells (bcells_one _) (by unfold maxLen; omega) (by omega) (Nat.zero_le _) ?_; intro v2 w2 ho hg hat; rw [Nat.zero_add] at ho; have X2 := Lib.hid (S2.out.grow ho hg hat); obtain ⟨a2, c2, rfl, _, _, _⟩ := own_form ho; have bx := S2.out.box_grown hg; have z1 := bx.frozen 1; obtain ⟨u0, u1, u2, u3, u4, u5, u6⟩ := bx.seven; clear bx ho hg hat))
        all_goals (go_wp2_with fail; go_meet)
        all_goals (case rel => exact ⟨_, X2.out⟩)
      case rest =>
      obtain ⟨v0, hS0⟩ := hcut
      have S3 := Lib.hid hS0
      clear hS0 x0 x1 x2 x3 x4 x5 x6 t0 t1 t2 t3 t4 t5 t6 S2 S1 q5 mk
      go_wp2_with (fail)
      go_loopw [6] (fun i wr => ∃ (j : Nat) (v : Value), j ≤ nr ∧ i = .int .i64 j ∧ (j = 0 ∨ (j : Int) ≤ k) ∧ OutS W wr g go d (.slice al nl cl) (.slice ar nr cr) (.slice ah nh ch) v (d.la ++ d.re.take j)) (fun i _ => nr - (intOf i).toNat)
      case atStart => exact ⟨0, v0, by omega, rfl, .inl rfl, by have h := S3.out; simpa using h⟩
      case round =>
        obtain ⟨j, v, hj, rfl, hjk, hS⟩ := hrel
        clear S3
        have S := Lib.hid hS
        have J := Lib.hid hjk
        obtain ⟨s0, s1, s2, s3, s4, s5, s6⟩ := hS.src.box.seven
        obtain ⟨t0, t1, t2, t3, t4, t5, t6⟩ := hS.out.box.seven
        clear hS hjk
        by_cases hlt : j < nr
        · have q1 : decide ((j : Int) < (nr : Int)) = true := decide_eq_true (by omega)
          by_cases hk : (j : Int) < k
          · have q2 : decide ((j : Int) < k) = true := decide_eq_true hk
            have ht : d.torn = false := HT.out (by omega)
            have s5' : wr.cell? ⟨g, 5, none⟩ = some (.bool false) := by rw [s5]; show some (Value.bool d.torn) = _; rw [ht]
            clear s5
            obtain ⟨a5, n5, c5, rfl, hn5, _, _, hc5, hm5⟩ := S.out.out.rl.parts
            have N5 : Hid (n5 = (d.la ++ d.re.take j).length) := hn5
            have hj2 : Hid (j < d.re.length) := by unfold Hid; have := NR.out; omega
            have n5b : n5 ≤ 1099511627776 := by have h1 := N5.out; have h2 := NL.out; have h3 := NR.out; rw [List.length_append, List.length_take] at h1; omega
            obtain ⟨b, off, rfl, hb0, hc⟩ := (S.out.src.rr.bat NR.out).at_ (i := j) hj2.out
            have X : Hid (d.la ++ d.re.take (j + 1) = (d.la ++ d.re.take j) ++ [d.re[j]'hj2.out]) := by unfold Hid; rw [take_snoc _ _ hj2.out, List.append_assoc]
            have hc' : wr.cell? ⟨b, off + j, none⟩ = some (.int .u8 ((d.re[j]'hj2.out).toNat : Int)) := hc
            generalize (d.re[j]'hj2.out) = by1 at *
            clear hc hn5
            go_upto_region 10 with fail
            have Sd : Hid (OutS W wr.drew g go d (.slice al nl cl) (.slice (some ⟨b, off, none⟩) nr cr) (.slice ah nh ch) (.slice a5 n5 c5) (d.la ++ d.re.take j)) := S.out.below (below_drewN 1 (Below.refl _ _))
            have SA : Hid (OutS W ((wr.alloc (.cells #[.int .u8 (by1.toNat : Int)] 5)).drew) g go d (.slice al nl cl) (.slice (some ⟨b, off, none⟩) nr cr) (.slice ah nh ch) (.slice a5 n5 c5) (d.la ++ d.re.take j)) := S.out.below (below_drewN 1 ((Below.refl _ _).alloc (Nat.le_refl _) _))
            have z1 : wr.drew.cell? ⟨go, 1, none⟩ = some (.slice a5 n5 c5) := Sd.out.out.box.seven.2.1
            have z2 : wr.drew.cell? ⟨g, 2, none⟩ = some (.slice (some ⟨b, off, none⟩) nr cr) := Sd.out.src.box.seven.2.2.1
            have z3 : wr.drew.cell? ⟨b, off + j, none⟩ = some (.int .u8 (by1.toNat : Int)) := hc'
            have zA : ∀ o, (wr.alloc o).drew.cell? ⟨go, 1, none⟩ = some (.slice a5 n5 c5) := fun o => (S.out.below (below_drewN 1 ((Below.refl _ _).alloc (Nat.le_refl _) o))).out.box.seven.2.1
            have D2 : CellsAt ((wr.alloc (.cells #[.int .u8 (by1.toNat : Int)] 5)).drew) (some ⟨wr.heap.size, 0, none⟩) 1 (bcells [by1]) := CellsAt.one wr _ _
            go_region_law (first | (refine step_append_row1 _ rfl _ _ 33 rfl 0 5 i0 _ 1 Try.underlying33 hi hz0 hz1 hz2 rfl (.slice a5 n5 c5) n5 (bcells (d.la ++ d.re.take j)) rfl (SA.out.out.rl.ats N5.out) (some ⟨wr.heap.size, 0, none⟩) 1 1 (bcells [by1]) rfl D2 (bcells_one _) (by unfold maxLen; omega) (by omega) (Nat.zero_le _) ?_; intro v2 w2 ho hg hat; have X2 := Lib.hid (SA.out.grow ho hg hat); obtain ⟨a2, c2, rfl, _, _, _⟩ := own_form ho; have bx := SA.out.box_grown hg; have f1 := bx.frozen 1; obtain ⟨u0, u1, u2, u3, u4, u5, u6⟩ := bx.seven; clear bx ho hg hat))
            all_goals
              go_wp2
              go_roundw
              case rel => exact ⟨j + 1, _, by omega, by go_num, .inr (by omega), by rw [X.out]; exact X2.out⟩
              case measure => simp [intOf]; omega
          · have q2 : decide ((j : Int) < k) = false := decide_eq_false hk
            have E : Hid (behD d k = d.la ++ d.re.take j) := beh_stop d k j EA.out (by have := NR.out; omega) J.out (.inr (by omega))
            go_wp2
            go_ret
            exact S.out.done E.out HO.out
        · have q1 : decide ((j : Int) < (nr : Int)) = false := decide_eq_false (by omega)
          have E : Hid (behD d k = d.la ++ d.re.take j) := beh_stop d k j EA.out (by have := NR.out; omega) J.out (.inl (by have := NR.out; omega))
          go_wp2
          go_ret
          exact S.out.done E.out HO.out
    rcases hcond with ⟨h1, h2⟩ | h1
    · exact key true h1.symm fun _ => h2
    · exact key false h1.symm (fun e => by cases e)
end

end Go.Proofs.Ytclfgkeepmdmjaa
