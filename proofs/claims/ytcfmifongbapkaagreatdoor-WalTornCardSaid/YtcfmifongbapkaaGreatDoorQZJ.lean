/- Contract of disk's Replace. Conditions: the disk lies in memory, and what is laid. Contracts of disk's behind and Cut. Conditions: the disk lies in memory. The disk's contracts in a law's words: a disk that the law made, its rows beside it; the law's awake. No condition. -/
import Derived.Test.YtcfmifongbapkaaGreatDoorQZI
import Derived.Lib.SlBytesConst
/- DiskReplace -/
namespace Go.Proofs.YtcfmifongbapkaaGreatDoor

open Go.RowKit

set_option linter.unusedVariables false
set_option linter.unusedSimpArgs false

/-- A row just made, beside a world W. -/
structure Fresh (W V : World) (v1 : Value) (l : List UInt8) : Prop where
  own : OwnB V v1 l
  new : ∀ j, v1.ownBlock = some j → W.heap.size ≤ j
section

variable {W w1 w2 V : World} {g : Nat} {d : Dk} {v nx v1 : Value} {left left' : Int} {own : List Nat} {l m : List UInt8}

theorem Fresh.made {n : Nat} (ho : w1.ownsRow W.heap.size 5 1 v1 n (bcells l)) : Fresh W w1 v1 l := ⟨OwnB.of_own ho, own_block ho⟩
theorem Fresh.far (h : Fresh W V v1 l) (hv : OwnB W v m) : Far v v1 := fun j hj e => by have := hv.lt j hj; have := h.new j e; omega
theorem Fresh.not_in (h : Fresh W V v1 l) (ho : ∀ i ∈ own, i < W.heap.size) : ∀ j, v1.ownBlock = some j → j ∉ own := fun j hj e => by have := ho j e; have := h.new j hj; omega
theorem Fresh.fr (h : Fresh W w1 v1 l) (hf : Fr w1 w2 own) (ho : ∀ i ∈ own, i < W.heap.size) : Fresh W w2 v1 l := ⟨h.own.fr hf (h.not_in ho), h.new⟩
theorem Fresh.set (h : Fresh W V v1 l) (hg : g < W.heap.size) (i : Nat) (u : Value) : Fresh W (V.setCell ⟨g, i, none⟩ u) v1 l := ⟨h.own.set (fun e => by have := h.new _ e; omega) _ _, h.new⟩
theorem Fresh.below (h : Fresh W w1 v1 l) (hb : Below w1.heap.size w1 w2) : Fresh W w2 v1 l := ⟨h.own.below hb, h.new⟩
theorem DkP.setTorn (h : DkP V g d v nx left) (hF : Fresh W V v1 l) (hg : g < W.heap.size) (hv : ∀ j, v.ownBlock = some j → j < W.heap.size) : DkP ((V.setCell ⟨g, 6, none⟩ (.bool true)).setCell ⟨g, 7, none⟩ v1) g { d with torn := true, half := l } v v1 left := by
  refine ⟨(h.box.set 6 (.bool true)).set 7 v1, (h.row.set h.far_box.1 _ _).set h.far_box.1 _ _, ((hF.set hg _ _).set hg _ _).own, h.left, h.sz, fun j hj e => ?_⟩
  have := hv j hj; have := hF.new j e; omega
theorem DkP.setNew {n : Nat} (h : DkP V g d v nx left) (hF : Fresh W V v1 l) (hn : n = l.length) (hg : g < W.heap.size) (hv : ∀ j, nx.ownBlock = some j → j < W.heap.size) : DkP ((V.setCell ⟨g, 1, none⟩ v1).setCell ⟨g, 2, none⟩ (.int .i64 n)) g { d with la := l, re := [] } v1 nx left := by
  subst hn
  refine ⟨(h.box.set 1 v1).set 2 _, ?_, (h.nxt.set h.far_box.2 _ _).set h.far_box.2 _ _, h.left, h.sz, fun j hj e => ?_⟩
  · show OwnB _ v1 (l ++ [])
    rw [List.append_nil]
    exact ((hF.set hg _ _).set hg _ _).own
  · have := hv j e; have := hF.new j hj; omega

set_option maxHeartbeats 1000000 in
theorem replace_any {a : Option Addr} {n c : Nat} (h : PD W g d own) (hl : d.fuse < 9223372036854775808) (hb : BAt W W.heap.size a n l) (hn : n ≤ 1099511627776) :
    Calls Tryz.prog 71 #[.pointer (some ⟨g, 0, none⟩), .slice a n c] W fun e w' => e = .returned (.int .i64 (repE d l)) ∧ Stp (fun V own => PD V g (repD d l) own) W w' own := by
  have h0 := h
  have hlt := h.lt
  obtain ⟨v, nx, left, hp, rfl⟩ := h
  have HS : Hid (Stp (fun V own => PD V g d own) W W (g :: (bk v ++ bk nx))) := Stp.same h0 (Below.refl _ _)
  have cD := down_any hp.box
  clear h0
  by_cases hd : d.down = true
  · rw [hd] at cD
    have e1 : repE d l = 8 := by unfold repE; rw [if_pos hd]
    have e2 : repD d l = d := by unfold repD; rw [if_pos hd]
    rw [e1, e2]
    clear hp e1 e2 hd hl hb hlt
    go_enter Tryz.func71, Tryz.ntmps71
    go_wp2_with (go_at_call 66; ((with_reducible refine cD.mono ?_); rintro e w1 ⟨rfl, rfl⟩))
    go_ret
    exact ⟨rfl, HS.out⟩
  · have hd0 : d.down = false := by simpa using hd
    rw [hd0] at cD
    have hlen := hb.len
    obtain ⟨y0, y1, y2, y3, y4, y5, y6, y7⟩ := hp.box.eight
    have fA : fullR d l = decide ((n : Int) > d.size) := by
      unfold fullR
      rw [← hlen]
    by_cases hf : fullR d l = true
    · have e1 : repE d l = 7 := by unfold repE; rw [if_neg hd, if_pos hf]
      have e2 : repD d l = d := by unfold repD; rw [if_neg hd, if_pos hf]
      rw [e1, e2]
      rw [hf] at fA
      have fA' := fA.symm
      generalize d.size = s at *
      clear hp e1 e2 hd hd0 hl hf hlen fA hb hlt
      go_enter Tryz.func71, Tryz.ntmps71
      go_wp2_with (go_at_call 66; ((with_reducible refine cD.mono ?_); rintro e w1 ⟨rfl, rfl⟩))
      go_ret
      exact ⟨rfl, HS.out⟩
    · have hf0 : fullR d l = false := by simpa using hf
      rw [hf0] at fA
      have fA' := fA.symm
      have cC := bclone_any a n c l W hb hn
      have HP := Lib.hid hp
      have HG : Hid (∀ i ∈ g :: (bk v ++ bk nx), i < W.heap.size) := hlt
      have HV : Hid ((∀ j, v.ownBlock = some j → j < W.heap.size) ∧ ∀ j, nx.ownBlock = some j → j < W.heap.size) := ⟨hp.row.lt, hp.nxt.lt⟩
      have hB : ∀ V, Below W.heap.size W V → DkP V g d v nx left := fun V hb => hp.below hb
      have HB := Lib.hid hB
      cases hz : goesB d with
      | true =>
        have e1 : repE d l = 8 := by unfold repE; rw [if_neg hd, if_neg hf, if_pos hz]
        have e2 : repD d l = { goesD d with torn := true, half := l } := by unfold repD; rw [if_neg hd, if_neg hf, if_pos hz]
        rw [e1, e2]
        clear hp e1 e2 hd hd0 hf hf0 hlen fA hb hlt hB
        go_enter Tryz.func71, Tryz.ntmps71
        go_upto_region 7 with (first | (go_at_call 66; ((with_reducible refine cD.mono ?_); rintro e w1 ⟨rfl, rfl⟩)) | (go_at_call 65; ((with_reducible refine cC.mono ?_); rintro e w1 ⟨a1, n1, c1, rfl, ho, hb1⟩; have N1 := Lib.hid (Fresh.made ho); have B1 := Lib.hid hb1; have cB := blows_any (HB.out _ hb1) hl; rw [hz] at cB; clear ho hb1)) | (go_at_call 67; ((with_reducible refine cB.mono ?_); rintro e w2 ⟨rfl, ⟨left', h2⟩, hf⟩; have H2 := Lib.hid h2; have F2 := Lib.hid hf; obtain ⟨x0, x1, x2, x3, x4, x5, x6, x7⟩ := h2.box.eight; have z6 := h2.box.frozen 6; have z7 := h2.box.frozen 7; clear h2 hf)))
        have N2 : Hid (Fresh W w2 (.slice a1 n1 c1) l) := N1.out.fr F2.out (fun i hi => HG.out i (by simp at hi; simp [hi]))
        have hg0 := HG.out g (List.mem_cons_self ..)
        have HR : Hid (Stp (fun V own => PD V g { goesD d with torn := true, half := l } own) W ((w2.setCell ⟨g, 6, none⟩ (.bool true)).setCell ⟨g, 7, none⟩ (.slice a1 n1 c1)) (g :: (bk v ++ bk nx))) := by
          refine ⟨_, ⟨v, _, left', H2.out.setTorn N2.out hg0 HV.out.1, rfl⟩, ?_, fun i hi => ?_⟩
          · exact (((Fr.of_below B1.out).trans F2.out (fun i hi => .inl (by simp at hi; simp [hi]))).trans (Fr.set _ g 6 _) (fun i hi => .inl (by simp at hi; simp [hi]))).trans (Fr.set _ g 7 _) (fun i hi => .inl (by simp at hi; simp [hi]))
          · rcases List.mem_cons.1 hi with rfl | hi
            · exact .inl (List.mem_cons_self ..)
            · rcases List.mem_append.1 hi with hi | hi
              · exact .inl (List.mem_cons_of_mem _ (List.mem_append_left _ hi))
              · exact .inr (N2.out.new i (bk_mem.1 hi))
        clear cB cC cD
        go_wp2
        go_ret
        exact ⟨rfl, HR.out⟩
      | false =>
        have e1 : repE d l = 0 := by unfold repE; rw [if_neg hd, if_neg hf, if_neg (by rw [hz]; exact Bool.false_ne_true)]
        have e2 : repD d l = { goesD d with la := l, re := [] } := by unfold repD; rw [if_neg hd, if_neg hf, if_neg (by rw [hz]; exact Bool.false_ne_true)]
        rw [e1, e2]
        have HL := Lib.hid hlen
        clear hp e1 e2 hd hd0 hf hf0 hlen fA hb hlt hB
        go_enter Tryz.func71, Tryz.ntmps71
        go_upto_region 9 with (first | (go_at_call 66; ((with_reducible refine cD.mono ?_); rintro e w1 ⟨rfl, rfl⟩)) | (go_at_call 65; ((with_reducible refine cC.mono ?_); rintro e w1 ⟨a1, n1, c1, rfl, ho, hb1⟩; have N1 := Lib.hid (Fresh.made ho); have B1 := Lib.hid hb1; have L1 := Lib.hid (own_len ho); have cB := blows_any (HB.out _ hb1) hl; rw [hz] at cB; clear ho hb1)) | (go_at_call 67; ((with_reducible refine cB.mono ?_); rintro e w2 ⟨rfl, ⟨left', h2⟩, hf⟩; have H2 := Lib.hid h2; have F2 := Lib.hid hf; obtain ⟨x0, x1, x2, x3, x4, x5, x6, x7⟩ := h2.box.eight; have z6 := h2.box.frozen 1; have z7 := h2.box.frozen 2; clear h2 hf)))
        have N2 : Hid (Fresh W w2 (.slice a1 n1 c1) l) := N1.out.fr F2.out (fun i hi => HG.out i (by simp at hi; simp [hi]))
        have hg0 := HG.out g (List.mem_cons_self ..)
        have HR : Hid (Stp (fun V own => PD V g { goesD d with la := l, re := [] } own) W ((w2.setCell ⟨g, 1, none⟩ (.slice a1 n1 c1)).setCell ⟨g, 2, none⟩ (.int .i64 n1)) (g :: (bk v ++ bk nx))) := by
          refine ⟨_, ⟨_, nx, left', H2.out.setNew N2.out L1.out.symm hg0 HV.out.2, rfl⟩, ?_, fun i hi => ?_⟩
          · exact (((Fr.of_below B1.out).trans F2.out (fun i hi => .inl (by simp at hi; simp [hi]))).trans (Fr.set _ g 1 _) (fun i hi => .inl (by simp at hi; simp [hi]))).trans (Fr.set _ g 2 _) (fun i hi => .inl (by simp at hi; simp [hi]))
          · rcases List.mem_cons.1 hi with rfl | hi
            · exact .inl (List.mem_cons_self ..)
            · rcases List.mem_append.1 hi with hi | hi
              · exact .inr (N2.out.new i (bk_mem.1 hi))
              · exact .inl (List.mem_cons_of_mem _ (List.mem_append_right _ hi))
        clear cB cC cD
        go_wp2
        go_ret
        exact ⟨rfl, HR.out⟩
end

end Go.Proofs.YtcfmifongbapkaaGreatDoor

/- DiskCut -/
namespace Go.Proofs.YtcfmifongbapkaaGreatDoor

open Go.RowKit

set_option linter.unusedVariables false
set_option linter.unusedSimpArgs false

section

variable {W : World} {g : Nat} {d : Dk} {v nx : Value} {left : Int} {own : List Nat}

def BehR (W : World) (l : List UInt8) (e : Ending) (w' : World) : Prop := ∃ a n c q, e = .returned (.slice a n c) ∧ BAt W W.heap.size a n l ∧ w' = W.drewN q

set_option maxHeartbeats 1000000 in
theorem behind_any (k : Int) (h : DkP W g d v nx left) (hM : BndD d 1099511627776) (hk1 : -9223372036854775808 ≤ k) (hk2 : k < 9223372036854775808) :
    Calls Tryz.prog 69 #[.pointer (some ⟨g, 0, none⟩), .int .i64 k] W (BehR W (behD d k)) := by
  obtain ⟨a0, n0, c0, rfl, hn, ho, hb, hnc, hcm⟩ := h.row.parts
  obtain ⟨y0, y1, y2, y3, y4, y5, y6, y7⟩ := h.box.eight
  obtain ⟨hM1, hM2⟩ := hM
  have hn1 : n0 = d.la.length + d.re.length := by rw [hn, List.length_append]
  cases ht : d.torn with
  | true =>
    rw [ht] at y6
    by_cases hk : 0 < k
    · have hd : decide (k > 0) = true := decide_eq_true hk
      have e : behD d k = d.half := by unfold behD; rw [if_pos ht, if_pos hk]
      rw [e]
      obtain ⟨a1, n1, c1, rfl, hn', ho', hb', hnc', hcm'⟩ := h.nxt.parts
      have HB := Lib.hid hb'
      clear h hn ho hb hn1 hn' ho' hb' e
      go_enter Tryz.func69, Tryz.ntmps69
      go_wp2
      go_ret
      exact ⟨_, _, _, 0, rfl, HB.out, rfl⟩
    · have hd : decide (k > 0) = false := decide_eq_false hk
      have e : behD d k = d.la := by unfold behD; rw [if_pos ht, if_neg hk]
      rw [e]
      obtain ⟨m, hm⟩ : ∃ m, m = d.la.length := ⟨_, rfl⟩
      rw [← hm] at y2
      have HB : Hid (BAt W W.heap.size a0 m d.la) := by
        have h1 := hb.take (k := m) (by omega)
        have h2 : (d.la ++ d.re).take m = d.la := by rw [hm]; simp
        rw [h2] at h1; exact h1
      have hmn : m ≤ n0 := by omega
      clear h hn ho hb hn1 e hm
      go_enter Tryz.func69, Tryz.ntmps69
      go_upto_region 6 with (fail)
      go_quiet (fail)
      go_wp2
      go_ret
      exact ⟨_, _, _, _, rfl, HB.out, rfl⟩
  | false =>
    rw [ht] at y6
    have e : behD d k = (d.la ++ d.re).take (d.la.length + min k.toNat d.re.length) := beh_take d k ht
    rw [e]
    obtain ⟨m, hm⟩ : ∃ m, m = d.la.length := ⟨_, rfl⟩
    obtain ⟨p, hp⟩ : ∃ p, p = min k.toNat d.re.length := ⟨_, rfl⟩
    rw [← hm] at y2
    rw [← hm, ← hp]
    have HB : Hid (BAt W W.heap.size a0 (m + p) ((d.la ++ d.re).take (m + p))) := hb.take (by omega)
    have hmn : m + p ≤ n0 := by omega
    have hpp : min (max k 0) ((n0 : Int) - (m : Int)) = (p : Int) := by omega
    have hq : (p : Int) = if ((n0 : Int) - (m : Int)) < (if k < 0 then 0 else k) then ((n0 : Int) - (m : Int)) else if k < 0 then 0 else k := by
      split <;> split <;> omega
    have hw : wrap64 ((n0 : Int) - (m : Int)) = (n0 : Int) - (m : Int) := by unfold wrap64; omega
    have hnM : n0 ≤ 1099511627776 := by omega
    clear h hn ho hb hn1 e hm hp hM1 hM2
    go_enter Tryz.func69, Tryz.ntmps69
    go_upto_region 2 with (fail)
    go_region
    (try rw [hw])
    rw [← hq]
    generalize (if k < 0 then (0 : Int) else k) = z
    clear hq hpp hw
    go_upto_region 3 with (fail)
    go_quiet (fail)
    go_wp2
    go_ret
    exact ⟨_, _, _, _, rfl, HB.out, (World.drewN_drewN W 1 nq)⟩
/-- What Cut answers and leaves. -/
def CutR (K : World → Nat → Dk → List Nat → Prop) (W : World) (g : Nat) (own : List Nat) (d : Dk) (k : Int) (e : Ending) (w' : World) : Prop :=
  ∃ g' own', e = .returned (.pointer (some ⟨g', 0, none⟩)) ∧ K w' g (downD d) own ∧ K w' g' (cutD d k) own' ∧ Fr W w' [g] ∧ ∀ i ∈ own', W.heap.size ≤ i
theorem DkP.made {V : World} {v : Value} {n : Nat} {l : List UInt8} {s : Int} (hv : OwnB V v l) (hn : n = l.length) (hs : 0 ≤ s ∧ s < 9223372036854775808) :
    DkP (V.alloc (.cells #[.int .i64 s, v, .int .i64 n, .bool false, .int .i64 0, .bool false, .bool false, .slice none 0 0] 111)) V.heap.size ⟨s, l, [], -1, false, false, []⟩ v (.slice none 0 0) 0 := by
  subst hn
  refine ⟨BoxC.new _ _ _, ?_, OwnB.nil _, fun e => absurd (show (0 : Int) ≤ -1 from e) (by decide), hs, Far.nil⟩
  show OwnB _ v (l ++ [])
  rw [List.append_nil]
  exact hv.below ((Below.refl _ _).alloc (Nat.le_refl _) _)

set_option maxHeartbeats 1000000 in
theorem cut_any (k : Int) (h : PD W g d own) (hM : BndD d 1099511627776) (hk1 : -9223372036854775808 ≤ k) (hk2 : k < 9223372036854775808) :
    Calls Tryz.prog 28 #[.pointer (some ⟨g, 0, none⟩), .int .i64 k] W (CutR PD W g own d k) := by
  obtain ⟨v, nx, left, hp, rfl⟩ := h
  have h1 := hp.setDown
  have H1 := Lib.hid h1
  have cB : Calls Tryz.prog 69 #[.pointer (some ⟨g, 0, none⟩), .int .i64 k] (W.setCell ⟨g, 5, none⟩ (.bool true)) (BehR (W.setCell ⟨g, 5, none⟩ (.bool true)) (behD d k)) := behind_any (d := downD d) k h1 hM hk1 hk2
  obtain ⟨y0, y1, y2, y3, y4, y5, y6, y7⟩ := hp.box.eight
  have z5 := hp.box.frozen 5
  have hsz := hp.sz
  have HS := Lib.hid hsz
  have HM : Hid ((behD d k).length ≤ 1099511627776) := beh_len hM k
  clear hp h1 hM hsz
  go_enter Tryz.func28, Tryz.ntmps28
  go_upto_region 5 with (first | (go_at_call 69; ((with_reducible refine cB.mono ?_); rintro e w1 ⟨a1, n1, c1, q, rfl, hb1, rfl⟩; have cC := bclone_any a1 n1 c1 _ _ (hb1.drewN q) (by have := hb1.len; have := HM.out; omega); clear hb1)) | (go_at_call 65; ((with_reducible refine cC.mono ?_); rintro e w2 ⟨a2, n2, c2, rfl, ho, hb2⟩; have N2 := Lib.hid (Fresh.made ho); have B2 := Lib.hid (show Below (W.setCell ⟨g, 5, none⟩ (.bool true)).heap.size (W.setCell ⟨g, 5, none⟩ (.bool true)) w2 from below_on q (Below.refl _ _) hb2); have L2 := Lib.hid (own_len ho); have hx := (H1.out.below B2.out).box; obtain ⟨x0, x1, x2, x3, x4, x5, x6, x7⟩ := hx.eight; clear ho hb2 hx)))
  have HR : Hid (CutR PD W g (g :: (bk v ++ bk nx)) d k (.returned (.pointer (some ⟨w2.heap.size, 0, none⟩))) (w2.alloc (.cells #[.int .i64 d.size, .slice a2 n2 c2, .int .i64 n2, .bool false, .int .i64 0, .bool false, .bool false, .slice none 0 0] 111))) := by
    have bA : Below w2.heap.size w2 (w2.alloc (.cells #[.int .i64 d.size, .slice a2 n2 c2, .int .i64 n2, .bool false, .int .i64 0, .bool false, .bool false, .slice none 0 0] 111)) := (Below.refl _ _).alloc (Nat.le_refl _) _
    have hsz : W.heap.size ≤ w2.heap.size := by have := B2.out.size; simpa [World.setCell] using this
    refine ⟨w2.heap.size, w2.heap.size :: (bk (.slice a2 n2 c2) ++ bk (.slice none 0 0)), rfl, ⟨v, nx, left, (H1.out.below B2.out).below bA, rfl⟩, ⟨_, _, 0, DkP.made N2.out.own L2.out.symm HS.out, rfl⟩, ?_, fun i hi => ?_⟩
    · exact ((Fr.set W g 5 (.bool true)).trans (Fr.of_below B2.out (own := [])) (fun i hi => by cases hi)).trans (Fr.of_below bA (own := [])) (fun i hi => by cases hi)
    · rcases List.mem_cons.1 hi with rfl | hi
      · exact hsz
      · rcases List.mem_append.1 hi with hi | hi
        · have := N2.out.new i (bk_mem.1 hi)
          simpa [World.setCell] using this
        · rw [bk_nil] at hi; cases hi
  clear cB cC
  go_wp2
  go_ret
  exact HR.out
theorem cut_nil (k : Int) (W : World) : Calls Tryz.prog 28 #[.pointer none, .int .i64 k] W fun e w' => e = .returned (.pointer none) ∧ W = w' := by
  go_enter Tryz.func28, Tryz.ntmps28
  go_wp2
  go_ret
  exact ⟨rfl, rfl⟩
theorem append_nil' {a : Option Addr} {n c : Nat} (W : World) : Calls Tryz.prog 63 #[.pointer none, .slice a n c] W fun e w' => e = .returned (.int .i64 8) ∧ W = w' := by
  have cD := down_nil W
  go_enter Tryz.func63, Tryz.ntmps63
  go_wp2_with (go_at_call 66; ((with_reducible refine cD.mono ?_); rintro e w1 ⟨rfl, rfl⟩))
  go_ret
  exact ⟨rfl, rfl⟩
theorem sync_nil (W : World) : Calls Tryz.prog 26 #[.pointer none] W fun e w' => e = .returned (.int .i64 8) ∧ W = w' := by
  have cD := down_nil W
  go_enter Tryz.func26, Tryz.ntmps26
  go_wp2_with (go_at_call 66; ((with_reducible refine cD.mono ?_); rintro e w1 ⟨rfl, rfl⟩))
  go_ret
  exact ⟨rfl, rfl⟩
theorem replace_nil {a : Option Addr} {n c : Nat} (W : World) : Calls Tryz.prog 71 #[.pointer none, .slice a n c] W fun e w' => e = .returned (.int .i64 8) ∧ W = w' := by
  have cD := down_nil W
  go_enter Tryz.func71, Tryz.ntmps71
  go_wp2_with (go_at_call 66; ((with_reducible refine cD.mono ?_); rintro e w1 ⟨rfl, rfl⟩))
  go_ret
  exact ⟨rfl, rfl⟩
end

end Go.Proofs.YtcfmifongbapkaaGreatDoor

/- DiskLaw -/
namespace Go.Proofs.YtcfmifongbapkaaGreatDoor

open Go.RowKit

set_option linter.unusedVariables false
set_option linter.unusedSimpArgs false

/-- Rows of bytes of the law's own: the slice, its bytes. -/
abbrev Rws := List (Value × List UInt8)
/-- The law's disk, rows beside it, and nothing that was there at W has turned. -/
def LawD (W V : World) (g : Nat) (d : Dk) (R : Rws) : Prop := ∃ own, PD V g d own ∧ Below W.heap.size W V ∧ (∀ i ∈ own, W.heap.size ≤ i) ∧ ∀ r ∈ R, OwnB V r.1 r.2 ∧ ∀ j, r.1.ownBlock = some j → W.heap.size ≤ j ∧ j ∉ own
section

variable {W V V' : World} {g : Nat} {d d' : Dk} {R : Rws}

theorem LawD.bel (h : LawD W V g d R) : Below W.heap.size W V := by obtain ⟨_, _, h, _⟩ := h; exact h
theorem LawD.later (h : LawD W V g d R) (hb : Below V.heap.size V V') : LawD W V' g d R := by
  obtain ⟨own, h1, h2, h3, h4⟩ := h
  exact ⟨own, h1.below hb, h2.trans (hb.mono h2.size), h3, fun r hr => ⟨(h4 r hr).1.below hb, (h4 r hr).2⟩⟩
theorem LawD.drewN (h : LawD W V g d R) (q : Nat) : LawD W (V.drewN q) g d R := h.later (below_drewN q (Below.refl _ _))
theorem LawD.drop (h : LawD W V g d R) : LawD W V g d [] := by
  obtain ⟨own, h1, h2, h3, _⟩ := h
  exact ⟨own, h1, h2, h3, fun r hr => by cases hr⟩
theorem LawD.row (h : LawD W V g d R) (i : Nat) (v : Value) (l : List UInt8) (hi : R[i]? = some (v, l)) : OwnB V v l := by
  obtain ⟨own, _, _, _, h4⟩ := h
  exact (h4 _ (List.mem_of_getElem? hi)).1
theorem LawD.on {own own' : List Nat} (h2 : Below W.heap.size W V) (h3 : ∀ i ∈ own, W.heap.size ≤ i) (h4 : ∀ r ∈ R, OwnB V r.1 r.2 ∧ ∀ j, r.1.ownBlock = some j → W.heap.size ≤ j ∧ j ∉ own)
    (g4 : PD V' g d own') (g5 : Fr V V' own) (g6 : ∀ i ∈ own', i ∈ own ∨ V.heap.size ≤ i) : LawD W V' g d R := by
  refine ⟨own', g4, g5.below h2 h2.size h3, fun i hi => (g6 i hi).elim (h3 i) fun h => Nat.le_trans h2.size h, fun r hr => ?_⟩
  obtain ⟨k1, k2⟩ := h4 r hr
  refine ⟨k1.fr g5 fun j hj => (k2 j hj).2, fun j hj => ⟨(k2 j hj).1, fun e => ?_⟩⟩
  rcases g6 _ e with h | h
  · exact (k2 j hj).2 h
  · have := k1.lt j hj; omega
theorem new_law (n : Int) (hn : n < 9223372036854775808) (hb : Below W.heap.size W V) : Calls Tryz.prog 20 #[.int .i64 n] V fun e w' => e = .returned (.pointer (some ⟨V.heap.size, 0, none⟩)) ∧ LawD W w' V.heap.size (newD n) [] :=
  (dkNew_any n hn V).mono fun e w' ⟨he, hB, hD⟩ => ⟨he, [V.heap.size], ⟨_, _, _, hD, rfl⟩, hb.trans (hB.mono hb.size), fun i hi => by simp at hi; have := hb.size; omega, fun r hr => by cases hr⟩
theorem down_law (h : LawD W V g d R) : Calls Tryz.prog 66 #[.pointer (some ⟨g, 0, none⟩)] V fun e w' => e = .returned (.bool d.down) ∧ V = w' := by
  obtain ⟨own, ⟨v, nx, left, hp, _⟩, _⟩ := h
  exact down_any hp.box
theorem lasting_law (h : LawD W V g d R) : Calls Tryz.prog 23 #[.pointer (some ⟨g, 0, none⟩)] V fun e w' => e = .returned (.int .i64 d.la.length) ∧ V = w' := by
  obtain ⟨own, ⟨v, nx, left, hp, _⟩, _⟩ := h
  exact lasting_any hp
theorem bytes_law (h : LawD W V g d R) (hM : BndD d 1099511627776) : Calls Tryz.prog 24 #[.pointer (some ⟨g, 0, none⟩)] V fun e w' => ∃ a n c, e = .returned (.slice a n c) ∧ BAt w' w'.heap.size a n (d.la ++ d.re) ∧ n = d.la.length + d.re.length ∧ n ≤ c ∧ c ≤ maxLen ∧ LawD W w' g d R ∧ Below V.heap.size V w' := by
  have h0 := h
  obtain ⟨own, ⟨v, nx, left, hp, _⟩, _⟩ := h
  refine (bytes_any hp hM.1).mono fun e w' ⟨a, n, c, he, ho, hb⟩ => ?_
  obtain ⟨hnc, hcm⟩ := own_caps ho
  exact ⟨a, n, c, he, BAt.of_own ho, by rw [← own_len ho, List.length_append], hnc, hcm, h0.later hb, hb⟩
theorem fuse_law (n : Int) (h : LawD W V g d R) : Calls Tryz.prog 31 #[.pointer (some ⟨g, 0, none⟩), .int .i64 n] V fun e w' => e = .returned (.tuple #[]) ∧ LawD W w' g (fusD d n) R := by
  obtain ⟨own, ⟨v, nx, left, hp, rfl⟩, h2, h3, h4⟩ := h
  exact (fuse_any n hp).mono fun e w' ⟨he, hd, hf⟩ => ⟨he, LawD.on h2 h3 h4 ⟨v, nx, _, hd, rfl⟩ (hf.wide fun i hi => by simp at hi; simp [hi]) fun i hi => .inl hi⟩
theorem sync_law (h : LawD W V g d R) (hl : d.fuse < 9223372036854775808) : Calls Tryz.prog 26 #[.pointer (some ⟨g, 0, none⟩)] V fun e w' => e = .returned (.int .i64 (synE d)) ∧ LawD W w' g (synD d) R := by
  obtain ⟨own, ⟨v, nx, left, hp, rfl⟩, h2, h3, h4⟩ := h
  exact (sync_any hp hl).mono fun e w' ⟨he, ⟨left', hd⟩, hf⟩ => ⟨he, LawD.on h2 h3 h4 ⟨v, nx, _, hd, rfl⟩ (hf.wide fun i hi => by simp at hi; simp [hi]) fun i hi => .inl hi⟩
theorem append_law {a : Option Addr} {n c : Nat} {l : List UInt8} (h : LawD W V g d R) (hl : d.fuse < 9223372036854775808) (hM : BndD d 1099511627776) (hb : BAt V V.heap.size a n l) (hn : n ≤ 1099511627776) :
    Calls Tryz.prog 63 #[.pointer (some ⟨g, 0, none⟩), .slice a n c] V fun e w' => e = .returned (.int .i64 (appE d l)) ∧ LawD W w' g (appD d l) R := by
  obtain ⟨own, hp, h2, h3, h4⟩ := h
  exact (append_any hp hl hM.1 hb hn).mono fun e w' ⟨he, own', g4, g5, g6⟩ => ⟨he, LawD.on h2 h3 h4 g4 g5 g6⟩
theorem replace_law {a : Option Addr} {n c : Nat} {l : List UInt8} (h : LawD W V g d R) (hl : d.fuse < 9223372036854775808) (hb : BAt V V.heap.size a n l) (hn : n ≤ 1099511627776) :
    Calls Tryz.prog 71 #[.pointer (some ⟨g, 0, none⟩), .slice a n c] V fun e w' => e = .returned (.int .i64 (repE d l)) ∧ LawD W w' g (repD d l) R := by
  obtain ⟨own, hp, h2, h3, h4⟩ := h
  exact (replace_any hp hl hb hn).mono fun e w' ⟨he, own', g4, g5, g6⟩ => ⟨he, LawD.on h2 h3 h4 g4 g5 g6⟩
theorem cut_law (k : Int) (h : LawD W V g d R) (hM : BndD d 1099511627776) (hk1 : -9223372036854775808 ≤ k) (hk2 : k < 9223372036854775808) :
    Calls Tryz.prog 28 #[.pointer (some ⟨g, 0, none⟩), .int .i64 k] V fun e w' => ∃ g', e = .returned (.pointer (some ⟨g', 0, none⟩)) ∧ LawD W w' g (downD d) R ∧ LawD W w' g' (cutD d k) R := by
  obtain ⟨own, hp, h2, h3, h4⟩ := h
  refine (cut_any k hp hM hk1 hk2).mono fun e w' ⟨g', own', he, k1, k2, k3, k4⟩ => ?_
  have hg : Fr V w' own := k3.wide fun i hi => by
    obtain ⟨v, nx, left, _, rfl⟩ := hp
    simp at hi; simp [hi]
  have h5 := LawD.on h2 h3 h4 k1 hg fun i hi => .inl hi
  refine ⟨g', he, h5, own', k2, h5.bel, fun i hi => Nat.le_trans h2.size (k4 i hi), fun r hr => ?_⟩
  obtain ⟨m1, m2⟩ := h4 r hr
  exact ⟨m1.fr hg fun j hj => (m2 j hj).2, fun j hj => ⟨(m2 j hj).1, fun e => by have := k4 j e; have := m1.lt j hj; omega⟩⟩
end

def Quiet2 (W : World) (v : Value) (e : Ending) (w' : World) : Prop := e = .returned v ∧ Below W.heap.size W w'
theorem BAt.lit (w : World) (cs : Array Value) (l : List UInt8) (h : cs = (bcells l).toArray) (n : Nat) (hn : l.length = n) (fr : Nat × Nat) : BAt (w.alloc (.cells cs 5 fr)) (w.alloc (.cells cs 5 fr)).heap.size (some ⟨w.heap.size, 0, none⟩) n l := by
  subst hn
  have := BAt.made w l cs 5 fr h
  simpa using this

section

variable {W V : World} {g : Nat} {d d' : Dk} {R : Rws} {x : Int}

theorem append_to {a : Option Addr} {n c : Nat} {l : List UInt8} (hx : appE d l = x) (hd : appD d l = d') (h : LawD W V g d R) (hl : d.fuse < 9223372036854775808) (hM : BndD d 1099511627776) (hb : BAt V V.heap.size a n l) (hn : n ≤ 1099511627776) :
    Calls Tryz.prog 63 #[.pointer (some ⟨g, 0, none⟩), .slice a n c] V fun e w' => e = .returned (.int .i64 x) ∧ LawD W w' g d' R := by subst hx; subst hd; exact append_law h hl hM hb hn
theorem sync_to (hx : synE d = x) (hd : synD d = d') (h : LawD W V g d R) (hl : d.fuse < 9223372036854775808) : Calls Tryz.prog 26 #[.pointer (some ⟨g, 0, none⟩)] V fun e w' => e = .returned (.int .i64 x) ∧ LawD W w' g d' R := by subst hx; subst hd; exact sync_law h hl
theorem replace_to {a : Option Addr} {n c : Nat} {l : List UInt8} (hx : repE d l = x) (hd : repD d l = d') (h : LawD W V g d R) (hl : d.fuse < 9223372036854775808) (hb : BAt V V.heap.size a n l) (hn : n ≤ 1099511627776) :
    Calls Tryz.prog 71 #[.pointer (some ⟨g, 0, none⟩), .slice a n c] V fun e w' => e = .returned (.int .i64 x) ∧ LawD W w' g d' R := by subst hx; subst hd; exact replace_law h hl hb hn
theorem fuse_to (n : Int) (hd : fusD d n = d') (h : LawD W V g d R) : Calls Tryz.prog 31 #[.pointer (some ⟨g, 0, none⟩), .int .i64 n] V fun e w' => e = .returned (.tuple #[]) ∧ LawD W w' g d' R := by subst hd; exact fuse_law n h
theorem cut_to (k : Int) (hd : cutD d k = d') (h : LawD W V g d R) (hM : BndD d 1099511627776) (hk1 : -9223372036854775808 ≤ k) (hk2 : k < 9223372036854775808) :
    Calls Tryz.prog 28 #[.pointer (some ⟨g, 0, none⟩), .int .i64 k] V fun e w' => ∃ g', e = .returned (.pointer (some ⟨g', 0, none⟩)) ∧ LawD W w' g (downD d) R ∧ LawD W w' g' d' R := by subst hd; exact cut_law k h hM hk1 hk2
theorem LawD.bat {B : Nat} {a : Option Addr} {n : Nat} {l : List UInt8} (h : LawD W V g d R) (hb : BAt W B a n l) (hB : B ≤ W.heap.size) : BAt V V.heap.size a n l := (hb.below h.bel hB).more (Nat.le_trans hB h.bel.size)
end

end Go.Proofs.YtcfmifongbapkaaGreatDoor
