/- The law's act at any op; counts, links and bags of both nets. Condition: both lie in memory. -/
import Derived.Test.YtgdgjgcmglgfmaaNetAct
import Derived.Test.YtgdgjgcmglgfmaaNetPlaysOpen
import Derived.Test.YtgdgjgcmglgfmaaNetRefLinks
import Derived.Test.YtgdgjgcmglgfmaaNetLinks
namespace Go.Proofs.Ytgdgjgcmglgfmaa

open Go.RowKit

set_option linter.unusedVariables false
set_option linter.unusedSimpArgs false

theorem len_tot : ∀ (bs : Bags), (∀ x ∈ bs, x.2 ≠ []) → bs.length ≤ tot bs
  | [], _ => Nat.zero_le _
  | x :: bs, h => by
    have h1 := len_tot bs fun y hy => h y (List.mem_cons_of_mem _ hy)
    have h2 := List.length_pos_iff.2 (h x (List.mem_cons_self ..))
    rw [tot_cons, List.length_cons]
    omega
section

variable {W V : World} {g h N : Nat} {bs : Bags} {ps : List Pc} {L : Bxs}

theorem place_int {f t i : Int} (hin : 0 ≤ i ∧ i < (cnt ps (f, t) : Int)) : ∃ m, ∃ hm : m < ps.length, ps[m].k = (f, t) ∧ i = (cnt (ps.take m) (f, t) : Nat) := by
  obtain ⟨m, hm, hk, hc⟩ := place_ex (f, t) ps i.toNat (by omega)
  exact ⟨m, hm, hk, by rw [hc]; omega⟩
theorem act_any (x : OpM) (T : Two W V g h bs ps L) (A : Agree bs ps) (S : Small ps N) (hN : N ≤ 1000000) (hx : OpW W x) (hn : x.n ≤ 1000) :
    Calls Try.prog 11 #[.pointer (some ⟨g, 0, none⟩), .pointer (some ⟨h, 0, none⟩), .agg #[.int .i64 x.k, .int .i64 x.f, .int .i64 x.t, .int .i64 x.i, .int .i64 x.j, .slice x.a x.n x.c]] V (ActP W g h N L) := by
  obtain ⟨k, f, t, i, j, a, n, c, l⟩ := x
  obtain ⟨hb, _, hi, hj⟩ := hx
  dsimp only at hb hi hj hn ⊢
  by_cases h1 : k = 1
  · subst h1
    by_cases hlt : cnt ps (f, t) < 64
    · exact act1_yes W V g h N bs ps L f t i j a n c l T A S hN hb hn hlt
    · exact act1_no W V g h N bs ps L f t i j a n c l T A S hN hb hn hlt
  by_cases h2 : k = 2
  · subst h2
    by_cases hin : 0 ≤ i ∧ i < (cnt ps (f, t) : Int)
    · obtain ⟨m, hm, hk, he⟩ := place_int hin
      subst he
      exact act2_yes W V g h N bs ps L f t 0 j a n c l T A S hN hb hn m hm hk _ rfl
    · exact act2_no W V g h N bs ps L f t i j a n c l T A S hN hb hn hi hin
  by_cases h3 : k = 3
  · subst h3
    by_cases hin : 0 ≤ i ∧ i < (cnt ps (f, t) : Int)
    · obtain ⟨m, hm, hk, he⟩ := place_int hin
      subst he
      by_cases hlt : cnt ps (f, t) < 64
      · exact act3_yes W V g h N bs ps L f t 0 j a n c l T A S hN hb hn m hm hk hlt
      · exact act3_full W V g h N bs ps L f t 0 j a n c l T A S hN hb hn m hm hk hlt
    · exact act3_no W V g h N bs ps L f t i j a n c l T A S hN hb hn hi hin
  by_cases h4 : k = 4
  · subst h4
    by_cases hin : (0 ≤ i ∧ i < (cnt ps (f, t) : Int)) ∧ (0 ≤ j ∧ j < (cnt ps (f, t) : Int))
    · obtain ⟨m, hm, hk, he⟩ := place_int hin.1
      obtain ⟨m2, hm2, hk2, he2⟩ := place_int hin.2
      subst he; subst he2
      exact act4_yes W V g h N bs ps L f t 0 0 a n c l T A S hN hb hn m hm hk m2 hm2 hk2
    · exact act4_no W V g h N bs ps L f t i j a n c l T A S hN hb hn hi hj hin
  by_cases h5 : k = 5
  · subst h5
    exact act5 W V g h N bs ps L f t i j a n c l T A S hN hb hn
  exact act0 W V g h N bs ps L k f t i j a n c T A S h1 h2 h3 h4 h5
theorem Two.count (T : Two W V g h bs ps L) (A : Agree bs ps) (hps : ps.length ≤ 1099511627776) :
    Calls Try.prog 12 #[.pointer (some ⟨g, 0, none⟩)] V fun e w' => e = .returned (.int .i64 (ps.length : Nat)) ∧ Two W w' g h bs ps L := by
  have T0 := T
  obtain ⟨own, v, h1, _⟩ := T
  refine (count_any V g bs own h1 (by rw [agree_tot bs ps A]; omega)).mono fun e w' ⟨he, hb⟩ => ?_
  rw [agree_tot bs ps A] at he
  exact ⟨he, T0.later hb⟩
theorem Two.doc (T : Two W V g h bs ps L) : ∃ a c, BoxC V h #[.slice a ps.length c] 30 := by
  obtain ⟨own, v, _, h2, _⟩ := T
  obtain ⟨a, c, rfl, _⟩ := h2.form
  exact ⟨a, c, h2.box⟩
/-- The links of both, in their order. -/
def Lnks (ps : List Pc) (ks : List Lk) : Prop := Rise ks ∧ ∀ y, y ∈ ks ↔ ∃ p ∈ ps, p.k = y
theorem Lnks.eq {ks ls : List Lk} (h1 : Lnks ps ks) (h2 : Lnks ps ls) : ks = ls := rise_eq h1.1 h2.1 fun y => (h1.2 y).trans (h2.2 y).symm
theorem Two.pLinks (T : Two W V g h bs ps L) (A : Agree bs ps) (hps : ps.length ≤ 1099511627776) :
    Calls Try.prog 13 #[.pointer (some ⟨g, 0, none⟩)] V fun e w' => ∃ (a : Option Addr) (c : Nat) (ks : List Lk), e = .returned (.slice a ks.length c) ∧ Lnks ps ks ∧ w'.ownsRow V.heap.size 42 2 (.slice a ks.length c) ks.length (ks.flatMap lkC) ∧ Below V.heap.size V w' := by
  obtain ⟨own, v, h1, _⟩ := T
  refine (links_any V g bs own h1 (Nat.le_trans (Nat.le_trans (len_tot bs A.good.ne) (Nat.le_of_eq (agree_tot bs ps A))) hps)).mono fun e w' ⟨v, ks, he, hp, hr, ho, hb⟩ => ?_
  obtain ⟨a, c, rfl, _⟩ := ownk_form ho
  exact ⟨a, c, ks, he, ⟨hr, fun y => hp.mem_iff.trans (A.keys y)⟩, ho, hb⟩
theorem Two.dLinks (T : Two W V g h bs ps L) (hps : ps.length ≤ 1099511627776) :
    Calls Try.prog 14 #[.pointer (some ⟨h, 0, none⟩)] V fun e w' => ∃ (a : Option Addr) (c : Nat) (ks : List Lk), e = .returned (.slice a ks.length c) ∧ Lnks ps ks ∧ w'.ownsRow V.heap.size 41 2 (.slice a ks.length c) ks.length (ks.flatMap lkC) ∧ Below V.heap.size V w' := by
  obtain ⟨own, v, _, h2, _⟩ := T
  refine (linksR_any W V h v ps h2 hps).mono fun e w' ⟨o, he, a, c, ks, ho, hr, h3, h4, _, hb⟩ => ?_
  subst ho
  rw [List.take_length] at h4
  exact ⟨a, c, ks, he, ⟨h3, h4⟩, hr, hb⟩
theorem rows_pk {w : World} {B n c : Nat} {a : Option Addr} {xs : List Value} {t : TypeId} {ls : List Pk} (ho : w.ownsRow B t 1 (.slice a n c) n xs) (hP : Pks w xs ls) (hl : ∀ l ∈ ls, l.length ≤ maxLen) : RowsAt w a n ls := by
  have hx : xs.length = n := by have := ho.1; omega
  refine ⟨hP.1.symm.trans hx, fun i hi => ?_⟩
  obtain ⟨v, h1, a', m, c', rfl, h2, _⟩ := hP.2 i hi
  have hn : 0 < n := by have := hP.1; omega
  obtain ⟨g, cap, hv, _, _⟩ := ho.form hn
  have hA : a = some ⟨g, 0, none⟩ := by injection hv
  subst hA
  have := ho.cells (g := g) rfl i _ h1
  rw [add_plain] at this
  exact ⟨g, 0, a', m, c', rfl, this, h2, by rw [← h2.len]; exact hl _ (List.getElem_mem hi)⟩
theorem rows_doc {w : World} {B n c : Nat} {a : Option Addr} {qs : List Pc} {t : TypeId} (ho : w.ownsRow B t 1 (.slice a n c) n (slV qs)) (hq : ∀ q ∈ qs, BAt w w.heap.size q.a q.n q.l ∧ q.l.length ≤ maxLen) : RowsAt w a n (qs.map (·.l)) := by
  have hx : (slV qs).length = n := by have := ho.1; omega
  have hx2 : qs.length = n := by rw [← hx]; simp [slV]
  refine ⟨by simpa using hx2, fun i hi => ?_⟩
  have hi2 : i < qs.length := by simpa using hi
  have h1 : (slV qs)[i]? = some (.slice qs[i].a qs[i].n qs[i].c) := by unfold slV; rw [List.getElem?_map, List.getElem?_eq_getElem hi2]; rfl
  obtain ⟨g, cap, hv, _, _⟩ := ho.form (by omega)
  have hA : a = some ⟨g, 0, none⟩ := by injection hv
  subst hA
  have := ho.cells (g := g) rfl i _ h1
  rw [add_plain] at this
  obtain ⟨h2, h3⟩ := hq _ (List.getElem_mem hi2)
  rw [List.getElem_map]
  exact ⟨g, 0, _, _, _, rfl, this, h2, by rw [← h2.len]; exact h3⟩
theorem Two.pBag (f t : Int) (T : Two W V g h bs ps L) (A : Agree bs ps) (S : Small ps N) (hN : N ≤ 1000000) :
    Calls Try.prog 16 #[.pointer (some ⟨g, 0, none⟩), .int .i64 f, .int .i64 t] V fun e w' => ∃ a c, e = .returned (.slice a (cnt ps (f, t)) c) ∧ RowsAt w' a (cnt ps (f, t)) ((fl ps (f, t)).map (·.l)) ∧ Below V.heap.size V w' := by
  obtain ⟨own, v, h1, _⟩ := T
  have hl : ∀ l ∈ getB bs (f, t), l.length ≤ 1000 := fun l hl => by
    rw [A.get] at hl
    obtain ⟨p, hp, rfl⟩ := List.mem_map.1 hl
    exact S.2 p (fl_mem.1 hp).1
  refine (bagAll_any V g bs own f t h1 (by rw [A.len]; have := cnt_le ps (f, t); have := S.1; omega) (fun l h => Nat.le_trans (hl l h) (by omega))).mono fun e w' ⟨a, c, xs, he, ho, hP, hb⟩ => ?_
  have hr := rows_pk ho hP fun l h => Nat.le_trans (hl l h) (by unfold maxLen; omega)
  rw [A.len] at he hr
  rw [A.get] at hr
  exact ⟨a, c, he, hr, hb⟩
theorem Two.dBag (f t : Int) (T : Two W V g h bs ps L) (S : Small ps N) (hN : N ≤ 1000000) :
    Calls Try.prog 17 #[.pointer (some ⟨h, 0, none⟩), .int .i64 f, .int .i64 t] V fun e w' => ∃ a c, e = .returned (.slice a (cnt ps (f, t)) c) ∧ RowsAt w' a (cnt ps (f, t)) ((fl ps (f, t)).map (·.l)) ∧ Below V.heap.size V w' := by
  obtain ⟨own, v, _, h2, hb, _⟩ := T
  refine (bagR_any W V h v ps h2 (by have := S.1; omega) f t).mono fun e w' ⟨a, c, he, ho, hb'⟩ => ?_
  refine ⟨a, c, he, rows_doc ho fun q hq => ?_, hb'⟩
  have h3 := (fl_mem.1 hq).1
  refine ⟨((h2.pk q h3).below (hb'.mono hb.size) (Nat.le_refl _)).more (Nat.le_trans hb.size hb'.size), Nat.le_trans (S.2 q h3) (by unfold maxLen; omega)⟩
end

set_option maxHeartbeats 1000000 in
theorem bags_same (a a' : Option Addr) (n n' c c' : Nat) (ls : List Pk) (w : World) (h : RowsAt w a n ls) (h' : RowsAt w a' n' ls) (hn : n ≤ maxLen) :
    Calls Try.prog 15 #[.slice a n c, .slice a' n' c'] w (Reads1 w (.bool true)) := by
  have hc := rows_same a a' n n' c c' ls w h h' hn
  clear h h' hn
  go_enter Try.func15, Try.ntmps15
  go_wp2_with (go_at_call 32; ((with_reducible refine hc.mono ?_); rintro e w1 ⟨rfl, k1, rfl⟩))
  go_ret
  exact ⟨rfl, k1, rfl⟩
end Go.Proofs.Ytgdgjgcmglgfmaa
