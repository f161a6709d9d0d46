/- The two nets of the law side by side, and what each call leaves of both. Condition: both lie in memory. What Move leaves of both nets. Condition: both lie in memory. -/
import Derived.Test.YtgdgjgcmglgfmaaNetPlaysMath
import Derived.Test.YtgdgjgcmglgfmaaNetBagAll
import Derived.Test.YtgdgjgcmglgfmaaNetLaw
/- NetTwo -/
namespace Go.Proofs.Ytgdgjgcmglgfmaa

open Go.RowKit

set_option linter.unusedVariables false
set_option linter.unusedSimpArgs false

/-- The program's net, the document's net, boxes of the law's own; nothing that was there at W has turned. -/
def Two (W V : World) (g h : Nat) (bs : Bags) (ps : List Pc) (L : Bxs) : Prop := ∃ own v, NetC V g bs own ∧ RefIn W V h v ps ∧ Below W.heap.size W V ∧ (∀ i ∈ own, W.heap.size ≤ i) ∧ (∀ i ∈ own, i ∉ ownR h v) ∧ ∀ b ∈ L, BoxC V b.1 b.2.1 b.2.2 ∧ W.heap.size ≤ b.1 ∧ b.1 ∉ own ∧ b.1 ∉ ownR h v
section

variable {W V V' : World} {g h : Nat} {bs bs' : Bags} {ps ps' : List Pc} {L : Bxs}

theorem Two.bel (T : Two W V g h bs ps L) : Below W.heap.size W V := by obtain ⟨_, _, _, _, hb, _⟩ := T; exact hb
theorem Two.box (T : Two W V g h bs ps L) (i G : Nat) (cs : Array Value) (t : TypeId) (hi : L[i]? = some (G, cs, t)) : BoxC V G cs t := by
  obtain ⟨_, _, _, _, _, _, _, hL⟩ := T
  exact (hL _ (List.mem_of_getElem? hi)).1
theorem Two.later (T : Two W V g h bs ps L) (hb : Below V.heap.size V V') : Two W V' g h bs ps L := by
  obtain ⟨own, v, h1, h2, h3, h4, h5, h6⟩ := T
  exact ⟨own, v, h1.below hb, h2.below hb, h3.trans (hb.mono h3.size), h4, h5, fun b hbm => ⟨(h6 b hbm).1.below hb, (h6 b hbm).2⟩⟩
theorem Two.more (T : Two W V g h bs ps L) (cs : Array Value) (t : TypeId) : Two W (V.alloc (.cells cs t)) g h bs ps ((V.heap.size, cs, t) :: L) := by
  have hb : Below V.heap.size V (V.alloc (.cells cs t)) := (Below.refl _ _).alloc (Nat.le_refl _) _
  obtain ⟨own, v, h1, h2, h3, h4, h5, h6⟩ := T
  refine ⟨own, v, h1.below hb, h2.below hb, h3.trans (hb.mono h3.size), h4, h5, fun b hbm => ?_⟩
  rcases List.mem_cons.1 hbm with rfl | hbm
  · exact ⟨BoxC.new V cs t, h3.size, fun e => by have := h1.lt _ e; simp at this, fun e => by have := (h2.lt _ e).2; simp at this⟩
  · exact ⟨(h6 b hbm).1.below hb, (h6 b hbm).2⟩
theorem Two.pop {b : Nat × Array Value × TypeId} (T : Two W V g h bs ps (b :: L)) : Two W V g h bs ps L := by
  obtain ⟨own, v, h1, h2, h3, h4, h5, h6⟩ := T
  exact ⟨own, v, h1, h2, h3, h4, h5, fun b hbm => h6 b (List.mem_cons_of_mem _ hbm)⟩
theorem Two.good (T : Two W V g h bs ps L) : Good bs := by obtain ⟨_, _, h1, _⟩ := T; exact h1.good
theorem two_onP {own : List Nat} {v : Value} (h1 : NetC V g bs own) (h2 : RefIn W V h v ps) (h3 : Below W.heap.size W V) (h4 : ∀ i ∈ own, W.heap.size ≤ i) (h5 : ∀ i ∈ own, i ∉ ownR h v) (h6 : ∀ b ∈ L, BoxC V b.1 b.2.1 b.2.2 ∧ W.heap.size ≤ b.1 ∧ b.1 ∉ own ∧ b.1 ∉ ownR h v) (hs : Step V V' g own bs') : Two W V' g h bs' ps L := by
  obtain ⟨own', g1, g2, g3⟩ := hs
  have hB : Below W.heap.size V V' := Fr.below (Below.refl _ _) g2 h3.size h4
  refine ⟨own', v, g1, h2.moved hB fun i hi => g2.block i (h2.lt i hi).2 (fun e => h5 i e hi), h3.trans hB, fun i hi => ?_, fun i hi hr => ?_, fun b hbm => ?_⟩
  · rcases g3 i hi with e | e
    · exact h4 i e
    · exact Nat.le_trans h3.size e
  · rcases g3 i hi with e | e
    · exact h5 i e hr
    · have := (h2.lt i hr).2; omega
  · obtain ⟨k1, k2, k3, k4⟩ := h6 b hbm
    refine ⟨box_fr k1 g2 k3, k2, fun e => ?_, k4⟩
    rcases g3 _ e with e2 | e2
    · exact k3 e2
    · have := k1.lt; omega
theorem two_onD {own : List Nat} {v : Value} (h1 : NetC V g bs own) (h2 : RefIn W V h v ps) (h3 : Below W.heap.size W V) (h4 : ∀ i ∈ own, W.heap.size ≤ i) (h5 : ∀ i ∈ own, i ∉ ownR h v) (h6 : ∀ b ∈ L, BoxC V b.1 b.2.1 b.2.2 ∧ W.heap.size ≤ b.1 ∧ b.1 ∉ own ∧ b.1 ∉ ownR h v) (hs : RStep W V V' h (ownR h v) ps') : Two W V' g h bs ps' L ∧ U8s V V' ∧ V.heap.size ≤ V'.heap.size := by
  obtain ⟨own', ⟨v', g1, rfl⟩, g2, g3⟩ := hs
  have hB : Below W.heap.size V V' := Fr.below (Below.refl _ _) g2 h3.size fun i hi => (h2.lt i hi).1
  refine ⟨⟨own, v', h1.moved g2.size (h2.u8s g2) fun i hi => g2.block i (h1.lt i hi) (h5 i hi), g1, h3.trans hB, h4, fun i hi hr => ?_, fun b hbm => ?_⟩, h2.u8s g2, g2.size⟩
  · rcases g3 i hr with e | e
    · exact h5 i hi e
    · have := h1.lt i hi; omega
  · obtain ⟨k1, k2, k3, k4⟩ := h6 b hbm
    refine ⟨box_fr k1 g2 k4, k2, k3, fun e => ?_⟩
    rcases g3 _ e with e2 | e2
    · exact k4 e2
    · have := k1.lt; omega
variable (f t : Int) (a : Option Addr) (n c : Nat) (l : Pk) (i : Nat)

theorem pSend_yes (T : Two W V g h bs ps L) (A : Agree bs ps) (hl : BAt V V.heap.size a n l) (hm : n ≤ 1099511627776) (hlt : cnt ps (f, t) < 64) :
    Calls Try.prog 18 #[.pointer (some ⟨g, 0, none⟩), .int .i64 f, .int .i64 t, .slice a n c] V fun e w' => e = .returned (.bool true) ∧ Two W w' g h (keepB bs (f, t) (getB bs (f, t) ++ [l])) ps L := by
  obtain ⟨own, v, h1, h2, h3, h4, h5, h6⟩ := T
  refine (send_any V g bs own f t a n c l h1 hl hm).mono fun e w' ⟨he, hs⟩ => ?_
  rw [A.len] at he hs
  rw [decide_eq_true hlt] at he
  rw [if_pos hlt] at hs
  exact ⟨he, two_onP h1 h2 h3 h4 h5 h6 hs⟩
theorem pSend_no (T : Two W V g h bs ps L) (A : Agree bs ps) (hl : BAt V V.heap.size a n l) (hm : n ≤ 1099511627776) (hlt : ¬ cnt ps (f, t) < 64) :
    Calls Try.prog 18 #[.pointer (some ⟨g, 0, none⟩), .int .i64 f, .int .i64 t, .slice a n c] V fun e w' => e = .returned (.bool false) ∧ Two W w' g h bs ps L := by
  obtain ⟨own, v, h1, h2, h3, h4, h5, h6⟩ := T
  refine (send_any V g bs own f t a n c l h1 hl hm).mono fun e w' ⟨he, hs⟩ => ?_
  rw [A.len] at he hs
  rw [decide_eq_false hlt] at he
  rw [if_neg hlt] at hs
  exact ⟨he, two_onP h1 h2 h3 h4 h5 h6 hs⟩
theorem dSend_yes (T : Two W V g h bs ps L) (hps : ps.length ≤ 1099511627776) (hl : BAt V W.heap.size a n l) (hlt : cnt ps (f, t) < 64) :
    Calls Try.prog 23 #[.pointer (some ⟨h, 0, none⟩), .int .i64 f, .int .i64 t, .slice a n c] V fun e w' => e = .returned (.bool true) ∧ Two W w' g h bs (ps ++ [⟨(f, t), a, n, c, l⟩]) L := by
  obtain ⟨own, v, h1, h2, h3, h4, h5, h6⟩ := T
  refine (sendR_any W V h v ps h2 hps f t a n c l hl).mono fun e w' ⟨he, hs⟩ => ?_
  replace he : e = .returned (.bool (decide (cnt ps (f, t) < 64))) := he
  replace hs : RStep W V w' h (ownR h v) (if cnt ps (f, t) < 64 then ps ++ [⟨(f, t), a, n, c, l⟩] else ps) := hs
  rw [decide_eq_true hlt] at he
  rw [if_pos hlt] at hs
  exact ⟨he, (two_onD h1 h2 h3 h4 h5 h6 hs).1⟩
theorem dSend_no (T : Two W V g h bs ps L) (hps : ps.length ≤ 1099511627776) (hl : BAt V W.heap.size a n l) (hlt : ¬ cnt ps (f, t) < 64) :
    Calls Try.prog 23 #[.pointer (some ⟨h, 0, none⟩), .int .i64 f, .int .i64 t, .slice a n c] V fun e w' => e = .returned (.bool false) ∧ Two W w' g h bs ps L := by
  obtain ⟨own, v, h1, h2, h3, h4, h5, h6⟩ := T
  refine (sendR_any W V h v ps h2 hps f t a n c l hl).mono fun e w' ⟨he, hs⟩ => ?_
  replace he : e = .returned (.bool (decide (cnt ps (f, t) < 64))) := he
  replace hs : RStep W V w' h (ownR h v) (if cnt ps (f, t) < 64 then ps ++ [⟨(f, t), a, n, c, l⟩] else ps) := hs
  rw [decide_eq_false hlt] at he
  rw [if_neg hlt] at hs
  exact ⟨he, (two_onD h1 h2 h3 h4 h5 h6 hs).1⟩
theorem pTake_yes (T : Two W V g h bs ps L) (A : Agree bs ps) (hps : ps.length ≤ 1099511627776) (hi : i < ps.length) (hk : ps[i].k = (f, t)) :
    Calls Try.prog 20 #[.pointer (some ⟨g, 0, none⟩), .int .i64 f, .int .i64 t, .int .i64 (cnt (ps.take i) (f, t) : Nat)] V fun e w' => ∃ u, e = .returned (.tuple #[u, .bool true]) ∧ PkAt w' u ps[i].l ∧ Two W w' g h (keepB bs (f, t) ((getB bs (f, t)).eraseIdx (cnt (ps.take i) (f, t)))) ps L := by
  obtain ⟨own, v, h1, h2, h3, h4, h5, h6⟩ := T
  have hat := A.at_ hi hk
  obtain ⟨hj, hje⟩ := List.getElem?_eq_some_iff.1 hat
  refine (take_any V g bs own f t (cnt (ps.take i) (f, t) : Nat) h1 (by rw [A.len]; exact Nat.le_trans (cnt_le ps _) hps)).mono fun e w' hr => ?_
  rcases hr with ⟨j, hj2, u, e1, he, hp, hs⟩ | ⟨hno, _⟩
  · have : j = cnt (ps.take i) (f, t) := by omega
    subst this
    rw [hje] at hp
    exact ⟨u, he, hp, two_onP h1 h2 h3 h4 h5 h6 hs⟩
  · exact absurd ⟨by omega, by omega⟩ hno
theorem pTake_no (at_ : Int) (T : Two W V g h bs ps L) (A : Agree bs ps) (hps : ps.length ≤ 1099511627776) (hno : ¬ (0 ≤ at_ ∧ at_ < (cnt ps (f, t) : Int))) :
    Calls Try.prog 20 #[.pointer (some ⟨g, 0, none⟩), .int .i64 f, .int .i64 t, .int .i64 at_] V fun e w' => e = .returned (.tuple #[.slice none 0 0, .bool false]) ∧ Two W w' g h bs ps L := by
  obtain ⟨own, v, h1, h2, h3, h4, h5, h6⟩ := T
  refine (take_any V g bs own f t at_ h1 (by rw [A.len]; exact Nat.le_trans (cnt_le ps _) hps)).mono fun e w' hr => ?_
  rcases hr with ⟨j, hj2, u, e1, he, hp, hs⟩ | ⟨_, he, hs⟩
  · rw [A.len] at hj2; exact absurd ⟨by omega, by omega⟩ hno
  · exact ⟨he, two_onP h1 h2 h3 h4 h5 h6 hs⟩
theorem dTake_yes (T : Two W V g h bs ps L) (hps : ps.length ≤ 1099511627776) (hi : i < ps.length) (hk : ps[i].k = (f, t)) (p : Pc) (hp : ps[i] = p) :
    Calls Try.prog 24 #[.pointer (some ⟨h, 0, none⟩), .int .i64 f, .int .i64 t, .int .i64 (cnt (ps.take i) (f, t) : Nat)] V fun e w' => e = .returned (.tuple #[.slice p.a p.n p.c, .bool true]) ∧ Two W w' g h bs (ps.eraseIdx i) L ∧ BAt w' w'.heap.size p.a p.n p.l ∧ U8s V w' ∧ V.heap.size ≤ w'.heap.size := by
  obtain ⟨own, v, h1, h2, h3, h4, h5, h6⟩ := T
  obtain ⟨g', c', rfl, _⟩ := h2.at_ hi
  refine (takeR_yes W V h g' c' ps h2 hps f t i hi hk p hp).mono fun e w' ⟨he, hs⟩ => ?_
  have hT := two_onD h1 h2 h3 h4 h5 h6 hs
  have hpk := h2.pk p (by rw [← hp]; exact List.getElem_mem hi)
  refine ⟨he, hT.1, ?_, hT.2⟩
  obtain ⟨_, _, hF, _⟩ := hs
  exact (hpk.below (h2.bel hF) (Nat.le_refl _)).more (by have := h2.size; have := hF.size; omega)
theorem dTake_no (at_ : Int) (T : Two W V g h bs ps L) (hps : ps.length ≤ 1099511627776) (hat : -9223372036854775808 ≤ at_ ∧ at_ < 9223372036854775808) (hno : ¬ (0 ≤ at_ ∧ at_ < (cnt ps (f, t) : Int))) :
    Calls Try.prog 24 #[.pointer (some ⟨h, 0, none⟩), .int .i64 f, .int .i64 t, .int .i64 at_] V fun e w' => e = .returned (.tuple #[.slice none 0 0, .bool false]) ∧ Two W w' g h bs ps L := by
  have T0 := T
  obtain ⟨own, v, h1, h2, h3, h4, h5, h6⟩ := T
  refine (takeR_no W V h v ps h2 hps f t at_ hat hno).mono fun e w' ⟨he, hw⟩ => ?_
  subst hw
  exact ⟨he, T0⟩
theorem pDouble_in (T : Two W V g h bs ps L) (A : Agree bs ps) (hlen : ∀ p ∈ ps, p.l.length ≤ 1099511627776) (hi : i < ps.length) (hk : ps[i].k = (f, t)) :
    Calls Try.prog 19 #[.pointer (some ⟨g, 0, none⟩), .int .i64 f, .int .i64 t, .int .i64 (cnt (ps.take i) (f, t) : Nat)] V fun e w' => e = .returned (.bool (decide (cnt ps (f, t) < 64))) ∧ Two W w' g h (if cnt ps (f, t) < 64 then keepB bs (f, t) (getB bs (f, t) ++ [ps[i].l]) else bs) ps L := by
  obtain ⟨own, v, h1, h2, h3, h4, h5, h6⟩ := T
  have hat := A.at_ hi hk
  obtain ⟨hj, hje⟩ := List.getElem?_eq_some_iff.1 hat
  refine (double_any V g bs own f t (cnt (ps.take i) (f, t) : Nat) h1 (fun l hl => ?_)).mono fun e w' hr => ?_
  · rw [A.get] at hl
    obtain ⟨p, hp, rfl⟩ := List.mem_map.1 hl
    exact hlen p (fl_mem.1 hp).1
  · rcases hr with ⟨j, hj2, e1, he, hs⟩ | ⟨hno, _⟩
    · have : j = cnt (ps.take i) (f, t) := by omega
      subst this
      rw [A.len] at he hs
      rw [hje] at hs
      exact ⟨he, two_onP h1 h2 h3 h4 h5 h6 hs⟩
    · exact absurd ⟨by omega, by omega⟩ hno
theorem pDouble_no (at_ : Int) (T : Two W V g h bs ps L) (A : Agree bs ps) (hlen : ∀ p ∈ ps, p.l.length ≤ 1099511627776) (hno : ¬ (0 ≤ at_ ∧ at_ < (cnt ps (f, t) : Int))) :
    Calls Try.prog 19 #[.pointer (some ⟨g, 0, none⟩), .int .i64 f, .int .i64 t, .int .i64 at_] V fun e w' => e = .returned (.bool false) ∧ Two W w' g h bs ps L := by
  obtain ⟨own, v, h1, h2, h3, h4, h5, h6⟩ := T
  refine (double_any V g bs own f t at_ h1 (fun l hl => ?_)).mono fun e w' hr => ?_
  · rw [A.get] at hl
    obtain ⟨p, hp, rfl⟩ := List.mem_map.1 hl
    exact hlen p (fl_mem.1 hp).1
  · rcases hr with ⟨j, hj2, e1, he, hs⟩ | ⟨_, he, hs⟩
    · rw [A.len] at hj2; exact absurd ⟨by omega, by omega⟩ hno
    · exact ⟨he, two_onP h1 h2 h3 h4 h5 h6 hs⟩
theorem dDouble_in (T : Two W V g h bs ps L) (hps : ps.length ≤ 1099511627776) (hi : i < ps.length) (hk : ps[i].k = (f, t)) :
    Calls Try.prog 26 #[.pointer (some ⟨h, 0, none⟩), .int .i64 f, .int .i64 t, .int .i64 (cnt (ps.take i) (f, t) : Nat)] V fun e w' => e = .returned (.bool (decide (cnt ps (f, t) < 64))) ∧ Two W w' g h bs (if cnt ps (f, t) < 64 then ps ++ [ps[i]] else ps) L := by
  obtain ⟨own, v, h1, h2, h3, h4, h5, h6⟩ := T
  refine (doubleR_yes W V h v ps h2 hps f t i hi hk _ rfl).mono fun e w' ⟨he, hs⟩ => ?_
  rw [hk] at he hs
  exact ⟨he, (two_onD h1 h2 h3 h4 h5 h6 hs).1⟩
theorem dDouble_no (at_ : Int) (T : Two W V g h bs ps L) (hps : ps.length ≤ 1099511627776) (hat : -9223372036854775808 ≤ at_ ∧ at_ < 9223372036854775808) (hno : ¬ (0 ≤ at_ ∧ at_ < (cnt ps (f, t) : Int))) :
    Calls Try.prog 26 #[.pointer (some ⟨h, 0, none⟩), .int .i64 f, .int .i64 t, .int .i64 at_] V fun e w' => e = .returned (.bool false) ∧ Two W w' g h bs ps L := by
  have T0 := T
  obtain ⟨own, v, h1, h2, h3, h4, h5, h6⟩ := T
  refine (doubleR_any W V h v ps h2 hps f t at_ hat).mono fun e w' hr => ?_
  rcases hr with ⟨j, hj, hk, e1, _⟩ | ⟨_, he, hw⟩
  · refine absurd ⟨by omega, ?_⟩ hno
    have h3 := cnt_take ps (f, t) j hj
    rw [if_pos hk] at h3
    have h4 := cnt_mono ps (f, t) (j + 1) ps.length hj
    rw [List.take_length] at h4
    omega
  · subst hw; exact ⟨he, T0⟩
theorem pClear (T : Two W V g h bs ps L) (A : Agree bs ps) (hps : ps.length ≤ 1099511627776) :
    Calls Try.prog 22 #[.pointer (some ⟨g, 0, none⟩), .int .i64 t] V fun e w' => e = .returned (.int .i64 ((ps.length - (flt ps 0 t false).length : Nat) : Int)) ∧ Two W w' g h (clrB bs t) ps L := by
  obtain ⟨own, v, h1, h2, h3, h4, h5, h6⟩ := T
  refine (clear_any V g bs own t h1 (by rw [agree_tot bs ps A]; omega)).mono fun e w' ⟨he, hs⟩ => ?_
  rw [agree_tot bs ps A, agree_tot _ _ (A.clear t)] at he
  exact ⟨he, two_onP h1 h2 h3 h4 h5 h6 hs⟩
theorem dClear (T : Two W V g h bs ps L) (hps : ps.length ≤ 1099511627776) :
    Calls Try.prog 28 #[.pointer (some ⟨h, 0, none⟩), .int .i64 t] V fun e w' => e = .returned (.int .i64 ((ps.length - (flt ps 0 t false).length : Nat) : Int)) ∧ Two W w' g h bs (flt ps 0 t false) L := by
  obtain ⟨own, v, h1, h2, h3, h4, h5, h6⟩ := T
  exact (clearR_any W V h v ps h2 hps t).mono fun e w' ⟨he, hs⟩ => ⟨he, (two_onD h1 h2 h3 h4 h5 h6 hs).1⟩
end

end Go.Proofs.Ytgdgjgcmglgfmaa

/- NetTwoMove -/
namespace Go.Proofs.Ytgdgjgcmglgfmaa

open Go.RowKit

set_option linter.unusedVariables false
set_option linter.unusedSimpArgs false

set_option maxHeartbeats 1000000 in
theorem moveR_no (W0 V : World) (h : Nat) (v : Value) (ps : List Pc) (H : RefIn W0 V h v ps) (hl : ps.length ≤ 1099511627776) (f t i j : Int) (hi : -9223372036854775808 ≤ i ∧ i < 9223372036854775808) (hj : -9223372036854775808 ≤ j ∧ j < 9223372036854775808) (hno : ¬ ((0 ≤ i ∧ i < (cnt ps (f, t) : Int)) ∧ (0 ≤ j ∧ j < (cnt ps (f, t) : Int)))) :
    Calls Try.prog 27 #[.pointer (some ⟨h, 0, none⟩), .int .i64 f, .int .i64 t, .int .i64 i, .int .i64 j] V fun e w' => e = .returned (.bool false) ∧ V = w' := by
  by_cases hx : 0 ≤ i ∧ i < (cnt ps (f, t) : Int)
  · have hy : ¬ (0 ≤ j ∧ j < (cnt ps (f, t) : Int)) := fun e => hno ⟨hx, e⟩
    obtain ⟨m, hm, hk, hc⟩ := place_ex (f, t) ps i.toNat (by omega)
    have e0 : i = (cnt (ps.take m) (f, t) : Int) := by omega
    have cP := place_yes H hl f t hm hk
    rw [← e0] at cP
    have cP2 := place_no H hl f t j hj hy
    have hge : decide ((m : Int) < 0) = false := decide_eq_false (by omega)
    by_cases hij : i = j
    · subst hij; exact absurd hx hy
    · clear hno hx hy hi hj hl H hc e0 hk hm
      go_enter Try.func27, Try.ntmps27
      go_wp2_with (first | (go_at_call 39; ((with_reducible refine cP.mono ?_); rintro e w1 ⟨rfl, rfl⟩)) | (go_at_call 39; ((with_reducible refine cP2.mono ?_); rintro e w1 ⟨rfl, rfl⟩)))
      go_ret
      exact ⟨rfl, rfl⟩
  · have cP := place_no H hl f t i hi hx
    clear hno hx hi hj hl H
    go_enter Try.func27, Try.ntmps27
    go_wp2_with (go_at_call 39; ((with_reducible refine cP.mono ?_); rintro e w1 ⟨rfl, rfl⟩))
    go_ret
    exact ⟨rfl, rfl⟩
section

variable {W V V' : World} {g h : Nat} {bs bs' : Bags} {ps ps' : List Pc} {L : Bxs}

variable (f t : Int) (i i2 : Nat)

theorem pMove_yes (T : Two W V g h bs ps L) (A : Agree bs ps) (hps : ps.length ≤ 1099511627776) (hi : i < ps.length) (hk : ps[i].k = (f, t)) (hi2 : i2 < ps.length) (hk2 : ps[i2].k = (f, t)) :
    Calls Try.prog 21 #[.pointer (some ⟨g, 0, none⟩), .int .i64 f, .int .i64 t, .int .i64 (cnt (ps.take i) (f, t) : Nat), .int .i64 (cnt (ps.take i2) (f, t) : Nat)] V fun e w' => e = .returned (.bool true) ∧ Two W w' g h (keepB bs (f, t) (putAt ((getB bs (f, t)).eraseIdx (cnt (ps.take i) (f, t))) (cnt (ps.take i2) (f, t)) ps[i].l)) ps L := by
  obtain ⟨own, v, h1, h2, h3, h4, h5, h6⟩ := T
  obtain ⟨hj, hje⟩ := List.getElem?_eq_some_iff.1 (A.at_ hi hk)
  obtain ⟨hj2, _⟩ := List.getElem?_eq_some_iff.1 (A.at_ hi2 hk2)
  refine (move_any V g bs own f t (cnt (ps.take i) (f, t) : Nat) (cnt (ps.take i2) (f, t) : Nat) h1 (by rw [A.len]; exact Nat.le_trans (cnt_le ps _) hps)).mono fun e w' hr => ?_
  rcases hr with ⟨a', b', ha', hb', e1, e2, he, hs⟩ | ⟨hno, _⟩
  · have q1 : a' = cnt (ps.take i) (f, t) := by omega
    have q2 : b' = cnt (ps.take i2) (f, t) := by omega
    subst q1; subst q2
    rw [hje] at hs
    exact ⟨he, two_onP h1 h2 h3 h4 h5 h6 hs⟩
  · exact absurd ⟨⟨by omega, by omega⟩, ⟨by omega, by omega⟩⟩ hno
theorem pMove_no (x y : Int) (T : Two W V g h bs ps L) (A : Agree bs ps) (hps : ps.length ≤ 1099511627776) (hno : ¬ ((0 ≤ x ∧ x < (cnt ps (f, t) : Int)) ∧ (0 ≤ y ∧ y < (cnt ps (f, t) : Int)))) :
    Calls Try.prog 21 #[.pointer (some ⟨g, 0, none⟩), .int .i64 f, .int .i64 t, .int .i64 x, .int .i64 y] V fun e w' => e = .returned (.bool false) ∧ Two W w' g h bs ps L := by
  obtain ⟨own, v, h1, h2, h3, h4, h5, h6⟩ := T
  refine (move_any V g bs own f t x y h1 (by rw [A.len]; exact Nat.le_trans (cnt_le ps _) hps)).mono fun e w' hr => ?_
  rcases hr with ⟨a', b', ha', hb', e1, e2, he, hs⟩ | ⟨_, he, hs⟩
  · rw [A.len] at ha' hb'; exact absurd ⟨⟨by omega, by omega⟩, ⟨by omega, by omega⟩⟩ hno
  · exact ⟨he, two_onP h1 h2 h3 h4 h5 h6 hs⟩
theorem dMove_yes (T : Two W V g h bs ps L) (hps : ps.length ≤ 1099511627776) (hi : i < ps.length) (hk : ps[i].k = (f, t)) (hi2 : i2 < ps.length) (hk2 : ps[i2].k = (f, t)) :
    Calls Try.prog 27 #[.pointer (some ⟨h, 0, none⟩), .int .i64 f, .int .i64 t, .int .i64 (cnt (ps.take i) (f, t) : Nat), .int .i64 (cnt (ps.take i2) (f, t) : Nat)] V fun e w' => e = .returned (.bool true) ∧ Two W w' g h bs (flt (ps.eraseIdx i) f t true ++ putAt (fl (ps.eraseIdx i) (f, t)) (cnt (ps.take i2) (f, t)) ps[i]) L := by
  obtain ⟨own, v, h1, h2, h3, h4, h5, h6⟩ := T
  exact (moveR_yes W V h v ps h2 hps f t i i2 hi hk hi2 hk2 _ rfl).mono fun e w' ⟨he, hs⟩ => ⟨he, (two_onD h1 h2 h3 h4 h5 h6 hs).1⟩
theorem dMove_no (x y : Int) (T : Two W V g h bs ps L) (hps : ps.length ≤ 1099511627776) (hx : -9223372036854775808 ≤ x ∧ x < 9223372036854775808) (hy : -9223372036854775808 ≤ y ∧ y < 9223372036854775808) (hno : ¬ ((0 ≤ x ∧ x < (cnt ps (f, t) : Int)) ∧ (0 ≤ y ∧ y < (cnt ps (f, t) : Int)))) :
    Calls Try.prog 27 #[.pointer (some ⟨h, 0, none⟩), .int .i64 f, .int .i64 t, .int .i64 x, .int .i64 y] V fun e w' => e = .returned (.bool false) ∧ Two W w' g h bs ps L := by
  have T0 := T
  obtain ⟨own, v, h1, h2, h3, h4, h5, h6⟩ := T
  refine (moveR_no W V h v ps h2 hps f t x y hx hy hno).mono fun e w' ⟨he, hw⟩ => ?_
  subst hw
  exact ⟨he, T0⟩
end

end Go.Proofs.Ytgdgjgcmglgfmaa
