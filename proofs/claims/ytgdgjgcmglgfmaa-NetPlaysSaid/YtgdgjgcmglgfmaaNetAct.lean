/- What the law's act does to both nets: both answer alike, and agree behind it. Condition: both lie in memory. -/
import Derived.Test.YtgdgjgcmglgfmaaNetTwoA
import Derived.Test.YtgdgjgcmglgfmaaNetNilWalk
import Derived.Deep.RegionHeld3
namespace Go.Proofs.Ytgdgjgcmglgfmaa

open Go.RowKit

set_option linter.unusedVariables false
set_option linter.unusedSimpArgs false

/-- Both answered alike, and agree. -/
def ActP (W : World) (g h : Nat) (N : Nat) (L : Bxs) (e : Ending) (w' : World) : Prop :=
  e = .returned (.bool true) ∧ ∃ bs' ps', Two W w' g h bs' ps' L ∧ Agree bs' ps' ∧ ps'.length ≤ N + 1 ∧ ∀ p ∈ ps', p.l.length ≤ 1000
def Small (ps : List Pc) (N : Nat) : Prop := ps.length ≤ N ∧ ∀ p ∈ ps, p.l.length ≤ 1000
section

variable {W V : World} {g h N : Nat} {bs : Bags} {ps : List Pc} {L : Bxs}

theorem ActP.of {e : Ending} {w' : World} {bs' : Bags} {ps' : List Pc} {b : Nat × Array Value × TypeId} (he : e = .returned (.bool true)) (T : Two W w' g h bs' ps' (b :: L)) (A : Agree bs' ps') (hl : ps'.length ≤ N + 1) (hs : ∀ p ∈ ps', p.l.length ≤ 1000) : ActP W g h N L e w' := ⟨he, bs', ps', T.pop, A, hl, hs⟩
theorem bat_up {B : Nat} {W V : World} {a : Option Addr} {n : Nat} {l : Pk} (hb : BAt W W.heap.size a n l) (h : Below W.heap.size W V) : BAt V V.heap.size a n l := (hb.below h (Nat.le_refl _)).more h.size
end

theorem pk_same {w : World} {au pa : Option Addr} {mu cu pn pc : Nat} {l : Pk} (h : PkAt w (.slice au mu cu) l) (hb : BAt w w.heap.size pa pn l) (hl : l.length ≤ 1000) : Calls Try.prog 25 #[.slice au mu cu, .slice pa pn pc] w (Reads1 w (.bool true)) := by
  obtain ⟨a2, n2, c2, e, hb2, _⟩ := h
  injection e with e1 e2 e3
  subst e1; subst e2; subst e3
  exact same_two au pa mu pn cu pc _ _ l w hb2 hb (by rw [← hb2.len]; unfold maxLen; omega)
theorem move_small {ps : List Pc} {N : Nat} {f t : Int} {m : Nat} (hm : m < ps.length) (hk : ps[m].k = (f, t)) (S : Small ps N) (b : Nat) : (flt (ps.eraseIdx m) f t true ++ putAt (fl (ps.eraseIdx m) (f, t)) b ps[m]).length ≤ N ∧ ∀ q ∈ flt (ps.eraseIdx m) f t true ++ putAt (fl (ps.eraseIdx m) (f, t)) b ps[m], q.l.length ≤ 1000 := by
  have h1 := filter_len (fun p : Pc => decide (p.k = (f, t))) (ps.eraseIdx m)
  have e1 : (flt (ps.eraseIdx m) f t true).length = ((ps.eraseIdx m).filter fun p => !decide (p.k = (f, t))).length := by
    unfold flt
    congr 1
    refine List.filter_congr fun p _ => ?_
    rw [keepQ_one]
    by_cases e : p.k = (f, t) <;> simp [e]
  have e2 : (fl (ps.eraseIdx m) (f, t)).length = ((ps.eraseIdx m).filter fun p => decide (p.k = (f, t))).length := rfl
  have e3 : (ps.eraseIdx m).length + 1 = ps.length := by rw [List.length_eraseIdx, if_pos hm]; omega
  refine ⟨?_, fun q hq => ?_⟩
  · rw [List.length_append, putAt_len, e1, e2]
    have := S.1
    omega
  · rcases List.mem_append.1 hq with hq | hq
    · exact S.2 q (List.mem_of_mem_eraseIdx (List.mem_filter.1 hq).1)
    · unfold putAt at hq
      rcases List.mem_append.1 hq with hq | hq
      · exact S.2 q (List.mem_of_mem_eraseIdx (fl_mem.1 (List.mem_of_mem_take hq)).1)
      · rcases List.mem_cons.1 hq with rfl | hq
        · exact S.2 _ (List.getElem_mem hm)
        · exact S.2 q (List.mem_of_mem_eraseIdx (fl_mem.1 (List.mem_of_mem_drop hq)).1)

set_option maxRecDepth 100000 in
set_option maxHeartbeats 4000000 in
theorem act1_yes (W V : World) (g h N : Nat) (bs : Bags) (ps : List Pc) (L : Bxs) (f t i j : Int) (a : Option Addr) (n c : Nat) (l : Pk) (T : Two W V g h bs ps L) (A : Agree bs ps) (S : Small ps N) (hN : N ≤ 1000000) (hb : BAt W W.heap.size a n l) (hn : n ≤ 1000) (hlt : cnt ps (f, t) < 64) :
    Calls Try.prog 11 #[.pointer (some ⟨g, 0, none⟩), .pointer (some ⟨h, 0, none⟩), .agg #[.int .i64 1, .int .i64 f, .int .i64 t, .int .i64 i, .int .i64 j, .slice a n c]] V (ActP W g h N L) := by
  have TT := Lib.hid (T.more #[.int .i64 1, .int .i64 f, .int .i64 t, .int .i64 i, .int .i64 j, .slice a n c] 34)
  have AA := Lib.hid A
  have SS := Lib.hid S
  have HB := Lib.hid hb
  have HN := Lib.hid hn
  have hps : ps.length ≤ 1099511627776 := Nat.le_trans S.1 (by omega)
  have HPS := Lib.hid hps
  have HNN := Lib.hid hN
  have HLL : Hid (∀ p ∈ ps, p.l.length ≤ 1099511627776) := fun p hp => Nat.le_trans (S.2 p hp) (by omega)
  clear T A S hb hn hps hN
  go_enter Try.func11, Try.ntmps11
  go_upto_region 3 with fail
  generalize V.alloc (.cells #[.int .i64 1, .int .i64 f, .int .i64 t, .int .i64 i, .int .i64 j, .slice a n c] 34) = V1 at *
  generalize V.heap.size = gb at *
  obtain ⟨q0, q1, q2, q3, q4, q5⟩ := (TT.out.box 0 _ _ _ rfl).six
  clear q0 q1 q2 q3 q4 q5
  have TD : Hid (Two W V1.drew g h bs ps ((gb, #[.int .i64 1, .int .i64 f, .int .i64 t, .int .i64 i, .int .i64 j, .slice a n c], 34) :: L)) := TT.out.later (below_drewN 1 (Below.refl _ _))
  have s0 : V1.drew.cell? ⟨gb, 1, none⟩ = some (.int .i64 f) ∧ V1.drew.cell? ⟨gb, 2, none⟩ = some (.int .i64 t) ∧ V1.drew.cell? ⟨gb, 5, none⟩ = some (.slice a n c) := by have z := (TD.out.box 0 _ _ _ rfl).six; exact ⟨z.2.1, z.2.2.1, z.2.2.2.2.2⟩
  go_region_held3 (fun w' => w'.cell? ⟨gb, 1, none⟩ = some (.int .i64 f) ∧ w'.cell? ⟨gb, 2, none⟩ = some (.int .i64 t) ∧ w'.cell? ⟨gb, 5, none⟩ = some (.slice a n c)) (first | exact s0 | exact s1 | exact s2)
    (first | (go_at_call 18; ((with_reducible refine (pSend_yes f t a n c l TD.out AA.out (bat_up (B := 0) HB.out TD.out.bel) (by have := HN.out; omega) hlt).mono ?_); rintro e w1 ⟨rfl, hT⟩; have T2 := Lib.hid hT; clear hT; have z := (T2.out.box 0 _ _ _ rfl).six; have s1 : w1.cell? ⟨gb, 1, none⟩ = some (.int .i64 f) ∧ w1.cell? ⟨gb, 2, none⟩ = some (.int .i64 t) ∧ w1.cell? ⟨gb, 5, none⟩ = some (.slice a n c) := ⟨z.2.1, z.2.2.1, z.2.2.2.2.2⟩; clear z)) | (go_at_call 23; ((with_reducible refine (dSend_yes f t a n c l T2.out HPS.out (HB.out.below T2.out.bel (Nat.le_refl _)) hlt).mono ?_); rintro e w2 ⟨rfl, hT⟩; have T3 := Lib.hid hT; clear hT; have z := (T3.out.box 0 _ _ _ rfl).six; have s2 : w2.cell? ⟨gb, 1, none⟩ = some (.int .i64 f) ∧ w2.cell? ⟨gb, 2, none⟩ = some (.int .i64 t) ∧ w2.cell? ⟨gb, 5, none⟩ = some (.slice a n c) := ⟨z.2.1, z.2.2.1, z.2.2.2.2.2⟩; clear z)))
  go_wp2
  go_ret
  refine ActP.of rfl T3.out (AA.out.send ⟨(f, t), a, n, c, l⟩ (f, t) rfl) (by rw [List.length_append]; have := SS.out.1; simp; omega) fun p hp => ?_
  rcases List.mem_append.1 hp with hp | hp
  · exact SS.out.2 p hp
  · simp at hp; subst hp; show l.length ≤ 1000; rw [HB.out.len]; exact HN.out

set_option maxRecDepth 100000 in
set_option maxHeartbeats 4000000 in
theorem act1_no (W V : World) (g h N : Nat) (bs : Bags) (ps : List Pc) (L : Bxs) (f t i j : Int) (a : Option Addr) (n c : Nat) (l : Pk) (T : Two W V g h bs ps L) (A : Agree bs ps) (S : Small ps N) (hN : N ≤ 1000000) (hb : BAt W W.heap.size a n l) (hn : n ≤ 1000) (hlt : ¬ cnt ps (f, t) < 64) :
    Calls Try.prog 11 #[.pointer (some ⟨g, 0, none⟩), .pointer (some ⟨h, 0, none⟩), .agg #[.int .i64 1, .int .i64 f, .int .i64 t, .int .i64 i, .int .i64 j, .slice a n c]] V (ActP W g h N L) := by
  have TT := Lib.hid (T.more #[.int .i64 1, .int .i64 f, .int .i64 t, .int .i64 i, .int .i64 j, .slice a n c] 34)
  have AA := Lib.hid A
  have SS := Lib.hid S
  have HB := Lib.hid hb
  have HN := Lib.hid hn
  have hps : ps.length ≤ 1099511627776 := Nat.le_trans S.1 (by omega)
  have HPS := Lib.hid hps
  have HNN := Lib.hid hN
  have HLL : Hid (∀ p ∈ ps, p.l.length ≤ 1099511627776) := fun p hp => Nat.le_trans (S.2 p hp) (by omega)
  clear T A S hb hn hps hN
  go_enter Try.func11, Try.ntmps11
  go_upto_region 3 with fail
  generalize V.alloc (.cells #[.int .i64 1, .int .i64 f, .int .i64 t, .int .i64 i, .int .i64 j, .slice a n c] 34) = V1 at *
  generalize V.heap.size = gb at *
  obtain ⟨q0, q1, q2, q3, q4, q5⟩ := (TT.out.box 0 _ _ _ rfl).six
  clear q0 q1 q2 q3 q4 q5
  have TD : Hid (Two W V1.drew g h bs ps ((gb, #[.int .i64 1, .int .i64 f, .int .i64 t, .int .i64 i, .int .i64 j, .slice a n c], 34) :: L)) := TT.out.later (below_drewN 1 (Below.refl _ _))
  have s0 : V1.drew.cell? ⟨gb, 1, none⟩ = some (.int .i64 f) ∧ V1.drew.cell? ⟨gb, 2, none⟩ = some (.int .i64 t) ∧ V1.drew.cell? ⟨gb, 5, none⟩ = some (.slice a n c) := by have z := (TD.out.box 0 _ _ _ rfl).six; exact ⟨z.2.1, z.2.2.1, z.2.2.2.2.2⟩
  go_region_held3 (fun w' => w'.cell? ⟨gb, 1, none⟩ = some (.int .i64 f) ∧ w'.cell? ⟨gb, 2, none⟩ = some (.int .i64 t) ∧ w'.cell? ⟨gb, 5, none⟩ = some (.slice a n c)) (first | exact s0 | exact s1 | exact s2)
    (first | (go_at_call 18; ((with_reducible refine (pSend_no f t a n c l TD.out AA.out (bat_up (B := 0) HB.out TD.out.bel) (by have := HN.out; omega) hlt).mono ?_); rintro e w1 ⟨rfl, hT⟩; have T2 := Lib.hid hT; clear hT; have z := (T2.out.box 0 _ _ _ rfl).six; have s1 : w1.cell? ⟨gb, 1, none⟩ = some (.int .i64 f) ∧ w1.cell? ⟨gb, 2, none⟩ = some (.int .i64 t) ∧ w1.cell? ⟨gb, 5, none⟩ = some (.slice a n c) := ⟨z.2.1, z.2.2.1, z.2.2.2.2.2⟩; clear z)) | (go_at_call 23; ((with_reducible refine (dSend_no f t a n c l T2.out HPS.out (HB.out.below T2.out.bel (Nat.le_refl _)) hlt).mono ?_); rintro e w2 ⟨rfl, hT⟩; have T3 := Lib.hid hT; clear hT; have z := (T3.out.box 0 _ _ _ rfl).six; have s2 : w2.cell? ⟨gb, 1, none⟩ = some (.int .i64 f) ∧ w2.cell? ⟨gb, 2, none⟩ = some (.int .i64 t) ∧ w2.cell? ⟨gb, 5, none⟩ = some (.slice a n c) := ⟨z.2.1, z.2.2.1, z.2.2.2.2.2⟩; clear z)))
  go_wp2
  go_ret
  exact ActP.of rfl T3.out AA.out (by have := SS.out.1; omega) SS.out.2

set_option maxRecDepth 100000 in
set_option maxHeartbeats 4000000 in
theorem act2_yes (W V : World) (g h N : Nat) (bs : Bags) (ps : List Pc) (L : Bxs) (f t i j : Int) (a : Option Addr) (n c : Nat) (l : Pk) (T : Two W V g h bs ps L) (A : Agree bs ps) (S : Small ps N) (hN : N ≤ 1000000) (hb : BAt W W.heap.size a n l) (hn : n ≤ 1000) (m : Nat) (hm : m < ps.length) (hk : ps[m].k = (f, t)) (p : Pc) (hp : ps[m] = p) :
    Calls Try.prog 11 #[.pointer (some ⟨g, 0, none⟩), .pointer (some ⟨h, 0, none⟩), .agg #[.int .i64 2, .int .i64 f, .int .i64 t, .int .i64 (cnt (ps.take m) (f, t) : Nat), .int .i64 j, .slice a n c]] V (ActP W g h N L) := by
  have TT := Lib.hid (T.more #[.int .i64 2, .int .i64 f, .int .i64 t, .int .i64 (cnt (ps.take m) (f, t) : Nat), .int .i64 j, .slice a n c] 34)
  have AA := Lib.hid A
  have SS := Lib.hid S
  have HB := Lib.hid hb
  have HN := Lib.hid hn
  have hps : ps.length ≤ 1099511627776 := Nat.le_trans S.1 (by omega)
  have HPS := Lib.hid hps
  have HNN := Lib.hid hN
  have HLL : Hid (∀ p ∈ ps, p.l.length ≤ 1099511627776) := fun p hp => Nat.le_trans (S.2 p hp) (by omega)
  have HA := Lib.hid (A.take hm hk)
  have cP := fun V1 (T1 : Two W V1 g h bs ps ((V.heap.size, #[.int .i64 2, .int .i64 f, .int .i64 t, .int .i64 (cnt (ps.take m) (f, t) : Nat), .int .i64 j, .slice a n c], 34) :: L)) => pTake_yes f t m T1 A hps hm hk
  have cD := fun bs V1 (T1 : Two W V1 g h bs ps ((V.heap.size, #[.int .i64 2, .int .i64 f, .int .i64 t, .int .i64 (cnt (ps.take m) (f, t) : Nat), .int .i64 j, .slice a n c], 34) :: L)) => dTake_yes f t m T1 hps hm hk p hp
  have HPL : Hid (p.l.length ≤ 1000) := by rw [← hp]; exact S.2 _ (List.getElem_mem hm)
  have HER : Hid (∀ q ∈ ps.eraseIdx m, q ∈ ps) := fun q hq => List.mem_of_mem_eraseIdx hq
  have HEL : Hid ((ps.eraseIdx m).length ≤ ps.length) := by unfold Hid; rw [List.length_eraseIdx, if_pos hm]; omega
  rw [hp] at cP
  generalize keepB bs (f, t) ((getB bs (f, t)).eraseIdx (cnt (ps.take m) (f, t))) = bs2 at *
  generalize ps.eraseIdx m = ps2 at *
  generalize cnt (ps.take m) (f, t) = ci at *
  clear hp hk hm
  clear T A S hb hn hps hN
  go_enter Try.func11, Try.ntmps11
  go_upto_region 5 with fail
  generalize V.alloc (.cells #[.int .i64 2, .int .i64 f, .int .i64 t, .int .i64 (cnt (ps.take m) (f, t) : Nat), .int .i64 j, .slice a n c] 34) = V1 at *
  generalize V.heap.size = gb at *
  obtain ⟨q0, q1, q2, q3, q4, q5⟩ := (TT.out.box 0 _ _ _ rfl).six
  go_wp2_with (first | (go_at_call 20; ((with_reducible refine (cP _ TT.out).mono ?_); rintro e w1 ⟨u, rfl, hpk, hT⟩; have T2 := Lib.hid hT; have P2 := Lib.hid hpk; obtain ⟨au, mu, cu, rfl, _, _⟩ := hpk; clear hT; (clear q0 q1 q2 q3 q4 q5); obtain ⟨q0, q1, q2, q3, q4, q5⟩ := (T2.out.box 0 _ _ _ rfl).six)) | (go_at_call 24; ((with_reducible refine (cD _ _ T2.out).mono ?_); rintro e w2 ⟨rfl, hT, hbp, hu8, hsz⟩; have T3 := Lib.hid hT; have P3 := Lib.hid (P2.out.moved hu8 hsz); have BP := Lib.hid hbp; clear hT hbp hu8 hsz; (clear q0 q1 q2 q3 q4 q5); obtain ⟨q0, q1, q2, q3, q4, q5⟩ := (T3.out.box 0 _ _ _ rfl).six)) | (go_at_call 25; ((with_reducible refine (pk_same P3.out BP.out HPL.out).mono ?_); rintro e w3 ⟨rfl, k3, hw3⟩; have W3 := Lib.hid hw3; clear hw3)))
  go_ret
  rw [W3.out]
  exact ActP.of rfl (T3.out.later (below_drewN k3 (Below.refl _ _))) HA.out (by have := SS.out.1; have := HEL.out; omega) fun q hq => SS.out.2 q (HER.out q hq)

set_option maxRecDepth 100000 in
set_option maxHeartbeats 4000000 in
theorem act2_no (W V : World) (g h N : Nat) (bs : Bags) (ps : List Pc) (L : Bxs) (f t i j : Int) (a : Option Addr) (n c : Nat) (l : Pk) (T : Two W V g h bs ps L) (A : Agree bs ps) (S : Small ps N) (hN : N ≤ 1000000) (hb : BAt W W.heap.size a n l) (hn : n ≤ 1000) (hi : -9223372036854775808 ≤ i ∧ i < 9223372036854775808) (hno : ¬ (0 ≤ i ∧ i < (cnt ps (f, t) : Int))) :
    Calls Try.prog 11 #[.pointer (some ⟨g, 0, none⟩), .pointer (some ⟨h, 0, none⟩), .agg #[.int .i64 2, .int .i64 f, .int .i64 t, .int .i64 i, .int .i64 j, .slice a n c]] V (ActP W g h N L) := by
  have TT := Lib.hid (T.more #[.int .i64 2, .int .i64 f, .int .i64 t, .int .i64 i, .int .i64 j, .slice a n c] 34)
  have AA := Lib.hid A
  have SS := Lib.hid S
  have HB := Lib.hid hb
  have HN := Lib.hid hn
  have hps : ps.length ≤ 1099511627776 := Nat.le_trans S.1 (by omega)
  have HPS := Lib.hid hps
  have HNN := Lib.hid hN
  have HLL : Hid (∀ p ∈ ps, p.l.length ≤ 1099511627776) := fun p hp => Nat.le_trans (S.2 p hp) (by omega)
  have HI := Lib.hid hi
  have HO := Lib.hid hno
  clear hi hno
  clear T A S hb hn hps hN
  go_enter Try.func11, Try.ntmps11
  go_upto_region 5 with fail
  generalize V.alloc (.cells #[.int .i64 2, .int .i64 f, .int .i64 t, .int .i64 i, .int .i64 j, .slice a n c] 34) = V1 at *
  generalize V.heap.size = gb at *
  obtain ⟨q0, q1, q2, q3, q4, q5⟩ := (TT.out.box 0 _ _ _ rfl).six
  go_wp2_with (first | (go_at_call 20; ((with_reducible refine (pTake_no f t i TT.out AA.out HPS.out HO.out).mono ?_); rintro e w1 ⟨rfl, hT⟩; have T2 := Lib.hid hT; clear hT; (clear q0 q1 q2 q3 q4 q5); obtain ⟨q0, q1, q2, q3, q4, q5⟩ := (T2.out.box 0 _ _ _ rfl).six)) | (go_at_call 24; ((with_reducible refine (dTake_no f t i T2.out HPS.out HI.out HO.out).mono ?_); rintro e w2 ⟨rfl, hT⟩; have T3 := Lib.hid hT; clear hT; (clear q0 q1 q2 q3 q4 q5); obtain ⟨q0, q1, q2, q3, q4, q5⟩ := (T3.out.box 0 _ _ _ rfl).six)) | (go_at_call 25; ((with_reducible refine (same_two none none 0 0 0 0 _ _ [] _ (BAt.nil (B := 0)) (BAt.nil (B := 0)) (by unfold maxLen; omega)).mono ?_); rintro e w3 ⟨rfl, k3, hw3⟩; have W3 := Lib.hid hw3; clear hw3)))
  go_ret
  rw [W3.out]
  exact ActP.of rfl (T3.out.later (below_drewN k3 (Below.refl _ _))) AA.out (by have := SS.out.1; omega) SS.out.2

set_option maxRecDepth 100000 in
set_option maxHeartbeats 4000000 in
theorem act3_yes (W V : World) (g h N : Nat) (bs : Bags) (ps : List Pc) (L : Bxs) (f t i j : Int) (a : Option Addr) (n c : Nat) (l : Pk) (T : Two W V g h bs ps L) (A : Agree bs ps) (S : Small ps N) (hN : N ≤ 1000000) (hb : BAt W W.heap.size a n l) (hn : n ≤ 1000) (m : Nat) (hm : m < ps.length) (hk : ps[m].k = (f, t)) (hlt : cnt ps (f, t) < 64) :
    Calls Try.prog 11 #[.pointer (some ⟨g, 0, none⟩), .pointer (some ⟨h, 0, none⟩), .agg #[.int .i64 3, .int .i64 f, .int .i64 t, .int .i64 (cnt (ps.take m) (f, t) : Nat), .int .i64 j, .slice a n c]] V (ActP W g h N L) := by
  have TT := Lib.hid (T.more #[.int .i64 3, .int .i64 f, .int .i64 t, .int .i64 (cnt (ps.take m) (f, t) : Nat), .int .i64 j, .slice a n c] 34)
  have AA := Lib.hid A
  have SS := Lib.hid S
  have HB := Lib.hid hb
  have HN := Lib.hid hn
  have hps : ps.length ≤ 1099511627776 := Nat.le_trans S.1 (by omega)
  have HPS := Lib.hid hps
  have HNN := Lib.hid hN
  have HLL : Hid (∀ p ∈ ps, p.l.length ≤ 1099511627776) := fun p hp => Nat.le_trans (S.2 p hp) (by omega)
  have cP := fun V1 (T1 : Two W V1 g h bs ps ((V.heap.size, #[.int .i64 3, .int .i64 f, .int .i64 t, .int .i64 (cnt (ps.take m) (f, t) : Nat), .int .i64 j, .slice a n c], 34) :: L)) => pDouble_in f t m T1 A HLL.out hm hk
  have cD := fun bs V1 (T1 : Two W V1 g h bs ps ((V.heap.size, #[.int .i64 3, .int .i64 f, .int .i64 t, .int .i64 (cnt (ps.take m) (f, t) : Nat), .int .i64 j, .slice a n c], 34) :: L)) => dDouble_in f t m T1 hps hm hk
  simp only [if_pos hlt, decide_eq_true hlt] at cP cD
  have HPL : Hid ((ps[m]'hm).l.length ≤ 1000) := S.2 _ (List.getElem_mem hm)
  have HK := Lib.hid hk
  generalize ps[m] = p at *
  clear hk hm hlt
  clear T A S hb hn hps hN
  go_enter Try.func11, Try.ntmps11
  go_upto_region 9 with fail
  generalize V.alloc (.cells #[.int .i64 3, .int .i64 f, .int .i64 t, .int .i64 (cnt (ps.take m) (f, t) : Nat), .int .i64 j, .slice a n c] 34) = V1 at *
  generalize V.heap.size = gb at *
  obtain ⟨q0, q1, q2, q3, q4, q5⟩ := (TT.out.box 0 _ _ _ rfl).six
  clear q0 q1 q2 q3 q4 q5
  have TD : Hid (Two W V1.drew g h bs ps ((gb, #[.int .i64 3, .int .i64 f, .int .i64 t, .int .i64 (cnt (ps.take m) (f, t) : Nat), .int .i64 j, .slice a n c], 34) :: L)) := TT.out.later (below_drewN 1 (Below.refl _ _))
  have s0 : V1.drew.cell? ⟨gb, 1, none⟩ = some (.int .i64 f) ∧ V1.drew.cell? ⟨gb, 2, none⟩ = some (.int .i64 t) ∧ V1.drew.cell? ⟨gb, 3, none⟩ = some (.int .i64 (cnt (ps.take m) (f, t) : Nat)) := by have z := (TD.out.box 0 _ _ _ rfl).six; exact ⟨z.2.1, z.2.2.1, z.2.2.2.1⟩
  go_region_held3 (fun w' => w'.cell? ⟨gb, 1, none⟩ = some (.int .i64 f) ∧ w'.cell? ⟨gb, 2, none⟩ = some (.int .i64 t) ∧ w'.cell? ⟨gb, 3, none⟩ = some (.int .i64 (cnt (ps.take m) (f, t) : Nat))) (first | exact s0 | exact s1 | exact s2)
    (first | (go_at_call 19; ((with_reducible refine (cP _ TD.out).mono ?_); rintro e w1 ⟨rfl, hT⟩; have T2 := Lib.hid hT; clear hT; have z := (T2.out.box 0 _ _ _ rfl).six; have s1 : w1.cell? ⟨gb, 1, none⟩ = some (.int .i64 f) ∧ w1.cell? ⟨gb, 2, none⟩ = some (.int .i64 t) ∧ w1.cell? ⟨gb, 3, none⟩ = some (.int .i64 (cnt (ps.take m) (f, t) : Nat)) := ⟨z.2.1, z.2.2.1, z.2.2.2.1⟩; clear z)) | (go_at_call 26; ((with_reducible refine (cD _ _ T2.out).mono ?_); rintro e w2 ⟨rfl, hT⟩; have T3 := Lib.hid hT; clear hT; have z := (T3.out.box 0 _ _ _ rfl).six; have s2 : w2.cell? ⟨gb, 1, none⟩ = some (.int .i64 f) ∧ w2.cell? ⟨gb, 2, none⟩ = some (.int .i64 t) ∧ w2.cell? ⟨gb, 3, none⟩ = some (.int .i64 (cnt (ps.take m) (f, t) : Nat)) := ⟨z.2.1, z.2.2.1, z.2.2.2.1⟩; clear z)))
  go_wp2
  go_ret
  refine ActP.of rfl T3.out (AA.out.send p (f, t) HK.out) (by rw [List.length_append]; have := SS.out.1; simp; omega) fun q hp => ?_
  rcases List.mem_append.1 hp with hp | hp
  · exact SS.out.2 q hp
  · simp at hp; subst hp; exact HPL.out

set_option maxRecDepth 100000 in
set_option maxHeartbeats 4000000 in
theorem act3_full (W V : World) (g h N : Nat) (bs : Bags) (ps : List Pc) (L : Bxs) (f t i j : Int) (a : Option Addr) (n c : Nat) (l : Pk) (T : Two W V g h bs ps L) (A : Agree bs ps) (S : Small ps N) (hN : N ≤ 1000000) (hb : BAt W W.heap.size a n l) (hn : n ≤ 1000) (m : Nat) (hm : m < ps.length) (hk : ps[m].k = (f, t)) (hlt : ¬ cnt ps (f, t) < 64) :
    Calls Try.prog 11 #[.pointer (some ⟨g, 0, none⟩), .pointer (some ⟨h, 0, none⟩), .agg #[.int .i64 3, .int .i64 f, .int .i64 t, .int .i64 (cnt (ps.take m) (f, t) : Nat), .int .i64 j, .slice a n c]] V (ActP W g h N L) := by
  have TT := Lib.hid (T.more #[.int .i64 3, .int .i64 f, .int .i64 t, .int .i64 (cnt (ps.take m) (f, t) : Nat), .int .i64 j, .slice a n c] 34)
  have AA := Lib.hid A
  have SS := Lib.hid S
  have HB := Lib.hid hb
  have HN := Lib.hid hn
  have hps : ps.length ≤ 1099511627776 := Nat.le_trans S.1 (by omega)
  have HPS := Lib.hid hps
  have HNN := Lib.hid hN
  have HLL : Hid (∀ p ∈ ps, p.l.length ≤ 1099511627776) := fun p hp => Nat.le_trans (S.2 p hp) (by omega)
  have cP := fun V1 (T1 : Two W V1 g h bs ps ((V.heap.size, #[.int .i64 3, .int .i64 f, .int .i64 t, .int .i64 (cnt (ps.take m) (f, t) : Nat), .int .i64 j, .slice a n c], 34) :: L)) => pDouble_in f t m T1 A HLL.out hm hk
  have cD := fun bs V1 (T1 : Two W V1 g h bs ps ((V.heap.size, #[.int .i64 3, .int .i64 f, .int .i64 t, .int .i64 (cnt (ps.take m) (f, t) : Nat), .int .i64 j, .slice a n c], 34) :: L)) => dDouble_in f t m T1 hps hm hk
  simp only [if_neg hlt, decide_eq_false hlt] at cP cD
  have HPL : Hid ((ps[m]'hm).l.length ≤ 1000) := S.2 _ (List.getElem_mem hm)
  have HK := Lib.hid hk
  generalize ps[m] = p at *
  clear hk hm hlt
  clear T A S hb hn hps hN
  go_enter Try.func11, Try.ntmps11
  go_upto_region 9 with fail
  generalize V.alloc (.cells #[.int .i64 3, .int .i64 f, .int .i64 t, .int .i64 (cnt (ps.take m) (f, t) : Nat), .int .i64 j, .slice a n c] 34) = V1 at *
  generalize V.heap.size = gb at *
  obtain ⟨q0, q1, q2, q3, q4, q5⟩ := (TT.out.box 0 _ _ _ rfl).six
  clear q0 q1 q2 q3 q4 q5
  have TD : Hid (Two W V1.drew g h bs ps ((gb, #[.int .i64 3, .int .i64 f, .int .i64 t, .int .i64 (cnt (ps.take m) (f, t) : Nat), .int .i64 j, .slice a n c], 34) :: L)) := TT.out.later (below_drewN 1 (Below.refl _ _))
  have s0 : V1.drew.cell? ⟨gb, 1, none⟩ = some (.int .i64 f) ∧ V1.drew.cell? ⟨gb, 2, none⟩ = some (.int .i64 t) ∧ V1.drew.cell? ⟨gb, 3, none⟩ = some (.int .i64 (cnt (ps.take m) (f, t) : Nat)) := by have z := (TD.out.box 0 _ _ _ rfl).six; exact ⟨z.2.1, z.2.2.1, z.2.2.2.1⟩
  go_region_held3 (fun w' => w'.cell? ⟨gb, 1, none⟩ = some (.int .i64 f) ∧ w'.cell? ⟨gb, 2, none⟩ = some (.int .i64 t) ∧ w'.cell? ⟨gb, 3, none⟩ = some (.int .i64 (cnt (ps.take m) (f, t) : Nat))) (first | exact s0 | exact s1 | exact s2)
    (first | (go_at_call 19; ((with_reducible refine (cP _ TD.out).mono ?_); rintro e w1 ⟨rfl, hT⟩; have T2 := Lib.hid hT; clear hT; have z := (T2.out.box 0 _ _ _ rfl).six; have s1 : w1.cell? ⟨gb, 1, none⟩ = some (.int .i64 f) ∧ w1.cell? ⟨gb, 2, none⟩ = some (.int .i64 t) ∧ w1.cell? ⟨gb, 3, none⟩ = some (.int .i64 (cnt (ps.take m) (f, t) : Nat)) := ⟨z.2.1, z.2.2.1, z.2.2.2.1⟩; clear z)) | (go_at_call 26; ((with_reducible refine (cD _ _ T2.out).mono ?_); rintro e w2 ⟨rfl, hT⟩; have T3 := Lib.hid hT; clear hT; have z := (T3.out.box 0 _ _ _ rfl).six; have s2 : w2.cell? ⟨gb, 1, none⟩ = some (.int .i64 f) ∧ w2.cell? ⟨gb, 2, none⟩ = some (.int .i64 t) ∧ w2.cell? ⟨gb, 3, none⟩ = some (.int .i64 (cnt (ps.take m) (f, t) : Nat)) := ⟨z.2.1, z.2.2.1, z.2.2.2.1⟩; clear z)))
  go_wp2
  go_ret
  exact ActP.of rfl T3.out AA.out (by have := SS.out.1; omega) SS.out.2

set_option maxRecDepth 100000 in
set_option maxHeartbeats 4000000 in
theorem act3_no (W V : World) (g h N : Nat) (bs : Bags) (ps : List Pc) (L : Bxs) (f t i j : Int) (a : Option Addr) (n c : Nat) (l : Pk) (T : Two W V g h bs ps L) (A : Agree bs ps) (S : Small ps N) (hN : N ≤ 1000000) (hb : BAt W W.heap.size a n l) (hn : n ≤ 1000) (hi : -9223372036854775808 ≤ i ∧ i < 9223372036854775808) (hno : ¬ (0 ≤ i ∧ i < (cnt ps (f, t) : Int))) :
    Calls Try.prog 11 #[.pointer (some ⟨g, 0, none⟩), .pointer (some ⟨h, 0, none⟩), .agg #[.int .i64 3, .int .i64 f, .int .i64 t, .int .i64 i, .int .i64 j, .slice a n c]] V (ActP W g h N L) := by
  have TT := Lib.hid (T.more #[.int .i64 3, .int .i64 f, .int .i64 t, .int .i64 i, .int .i64 j, .slice a n c] 34)
  have AA := Lib.hid A
  have SS := Lib.hid S
  have HB := Lib.hid hb
  have HN := Lib.hid hn
  have hps : ps.length ≤ 1099511627776 := Nat.le_trans S.1 (by omega)
  have HPS := Lib.hid hps
  have HNN := Lib.hid hN
  have HLL : Hid (∀ p ∈ ps, p.l.length ≤ 1099511627776) := fun p hp => Nat.le_trans (S.2 p hp) (by omega)
  have HI := Lib.hid hi
  have HO := Lib.hid hno
  clear hi hno
  clear T A S hb hn hps hN
  go_enter Try.func11, Try.ntmps11
  go_upto_region 9 with fail
  generalize V.alloc (.cells #[.int .i64 3, .int .i64 f, .int .i64 t, .int .i64 i, .int .i64 j, .slice a n c] 34) = V1 at *
  generalize V.heap.size = gb at *
  obtain ⟨q0, q1, q2, q3, q4, q5⟩ := (TT.out.box 0 _ _ _ rfl).six
  clear q0 q1 q2 q3 q4 q5
  have TD : Hid (Two W V1.drew g h bs ps ((gb, #[.int .i64 3, .int .i64 f, .int .i64 t, .int .i64 i, .int .i64 j, .slice a n c], 34) :: L)) := TT.out.later (below_drewN 1 (Below.refl _ _))
  have s0 : V1.drew.cell? ⟨gb, 1, none⟩ = some (.int .i64 f) ∧ V1.drew.cell? ⟨gb, 2, none⟩ = some (.int .i64 t) ∧ V1.drew.cell? ⟨gb, 3, none⟩ = some (.int .i64 i) := by have z := (TD.out.box 0 _ _ _ rfl).six; exact ⟨z.2.1, z.2.2.1, z.2.2.2.1⟩
  go_region_held3 (fun w' => w'.cell? ⟨gb, 1, none⟩ = some (.int .i64 f) ∧ w'.cell? ⟨gb, 2, none⟩ = some (.int .i64 t) ∧ w'.cell? ⟨gb, 3, none⟩ = some (.int .i64 i)) (first | exact s0 | exact s1 | exact s2)
    (first | (go_at_call 19; ((with_reducible refine (pDouble_no f t i TD.out AA.out HLL.out HO.out).mono ?_); rintro e w1 ⟨rfl, hT⟩; have T2 := Lib.hid hT; clear hT; have z := (T2.out.box 0 _ _ _ rfl).six; have s1 : w1.cell? ⟨gb, 1, none⟩ = some (.int .i64 f) ∧ w1.cell? ⟨gb, 2, none⟩ = some (.int .i64 t) ∧ w1.cell? ⟨gb, 3, none⟩ = some (.int .i64 i) := ⟨z.2.1, z.2.2.1, z.2.2.2.1⟩; clear z)) | (go_at_call 26; ((with_reducible refine (dDouble_no f t i T2.out HPS.out HI.out HO.out).mono ?_); rintro e w2 ⟨rfl, hT⟩; have T3 := Lib.hid hT; clear hT; have z := (T3.out.box 0 _ _ _ rfl).six; have s2 : w2.cell? ⟨gb, 1, none⟩ = some (.int .i64 f) ∧ w2.cell? ⟨gb, 2, none⟩ = some (.int .i64 t) ∧ w2.cell? ⟨gb, 3, none⟩ = some (.int .i64 i) := ⟨z.2.1, z.2.2.1, z.2.2.2.1⟩; clear z)))
  go_wp2
  go_ret
  exact ActP.of rfl T3.out AA.out (by have := SS.out.1; omega) SS.out.2

set_option maxRecDepth 100000 in
set_option maxHeartbeats 4000000 in
theorem act4_yes (W V : World) (g h N : Nat) (bs : Bags) (ps : List Pc) (L : Bxs) (f t i j : Int) (a : Option Addr) (n c : Nat) (l : Pk) (T : Two W V g h bs ps L) (A : Agree bs ps) (S : Small ps N) (hN : N ≤ 1000000) (hb : BAt W W.heap.size a n l) (hn : n ≤ 1000) (m : Nat) (hm : m < ps.length) (hk : ps[m].k = (f, t)) (m2 : Nat) (hm2 : m2 < ps.length) (hk2 : ps[m2].k = (f, t)) :
    Calls Try.prog 11 #[.pointer (some ⟨g, 0, none⟩), .pointer (some ⟨h, 0, none⟩), .agg #[.int .i64 4, .int .i64 f, .int .i64 t, .int .i64 (cnt (ps.take m) (f, t) : Nat), .int .i64 (cnt (ps.take m2) (f, t) : Nat), .slice a n c]] V (ActP W g h N L) := by
  have TT := Lib.hid (T.more #[.int .i64 4, .int .i64 f, .int .i64 t, .int .i64 (cnt (ps.take m) (f, t) : Nat), .int .i64 (cnt (ps.take m2) (f, t) : Nat), .slice a n c] 34)
  have AA := Lib.hid A
  have SS := Lib.hid S
  have HB := Lib.hid hb
  have HN := Lib.hid hn
  have hps : ps.length ≤ 1099511627776 := Nat.le_trans S.1 (by omega)
  have HPS := Lib.hid hps
  have HNN := Lib.hid hN
  have HLL : Hid (∀ p ∈ ps, p.l.length ≤ 1099511627776) := fun p hp => Nat.le_trans (S.2 p hp) (by omega)
  have cP := fun V1 (T1 : Two W V1 g h bs ps ((V.heap.size, #[.int .i64 4, .int .i64 f, .int .i64 t, .int .i64 (cnt (ps.take m) (f, t) : Nat), .int .i64 (cnt (ps.take m2) (f, t) : Nat), .slice a n c], 34) :: L)) => pMove_yes f t m m2 T1 A hps hm hk hm2 hk2
  have cD := fun bs V1 (T1 : Two W V1 g h bs ps ((V.heap.size, #[.int .i64 4, .int .i64 f, .int .i64 t, .int .i64 (cnt (ps.take m) (f, t) : Nat), .int .i64 (cnt (ps.take m2) (f, t) : Nat), .slice a n c], 34) :: L)) => dMove_yes f t m m2 T1 hps hm hk hm2 hk2
  have HA := Lib.hid (A.move hm hk (cnt (ps.take m2) (f, t)) (A.at_ hm hk))
  have HE := Lib.hid (move_small hm hk S)
  generalize ps[m] = p at *
  clear hk hm hk2 hm2
  clear T A S hb hn hps hN
  go_enter Try.func11, Try.ntmps11
  go_upto_region 11 with fail
  generalize V.alloc (.cells #[.int .i64 4, .int .i64 f, .int .i64 t, .int .i64 (cnt (ps.take m) (f, t) : Nat), .int .i64 (cnt (ps.take m2) (f, t) : Nat), .slice a n c] 34) = V1 at *
  generalize V.heap.size = gb at *
  obtain ⟨q0, q1, q2, q3, q4, q5⟩ := (TT.out.box 0 _ _ _ rfl).six
  clear q0 q1 q2 q3 q4 q5
  have TD : Hid (Two W V1.drew g h bs ps ((gb, #[.int .i64 4, .int .i64 f, .int .i64 t, .int .i64 (cnt (ps.take m) (f, t) : Nat), .int .i64 (cnt (ps.take m2) (f, t) : Nat), .slice a n c], 34) :: L)) := TT.out.later (below_drewN 1 (Below.refl _ _))
  have s0 : V1.drew.cell? ⟨gb, 1, none⟩ = some (.int .i64 f) ∧ V1.drew.cell? ⟨gb, 2, none⟩ = some (.int .i64 t) ∧ V1.drew.cell? ⟨gb, 3, none⟩ = some (.int .i64 (cnt (ps.take m) (f, t) : Nat)) ∧ V1.drew.cell? ⟨gb, 4, none⟩ = some (.int .i64 (cnt (ps.take m2) (f, t) : Nat)) := by have z := (TD.out.box 0 _ _ _ rfl).six; exact ⟨z.2.1, z.2.2.1, z.2.2.2.1, z.2.2.2.2.1⟩
  go_region_held3 (fun w' => w'.cell? ⟨gb, 1, none⟩ = some (.int .i64 f) ∧ w'.cell? ⟨gb, 2, none⟩ = some (.int .i64 t) ∧ w'.cell? ⟨gb, 3, none⟩ = some (.int .i64 (cnt (ps.take m) (f, t) : Nat)) ∧ w'.cell? ⟨gb, 4, none⟩ = some (.int .i64 (cnt (ps.take m2) (f, t) : Nat))) (first | exact s0 | exact s1 | exact s2)
    (first | (go_at_call 21; ((with_reducible refine (cP _ TD.out).mono ?_); rintro e w1 ⟨rfl, hT⟩; have T2 := Lib.hid hT; clear hT; have z := (T2.out.box 0 _ _ _ rfl).six; have s1 : w1.cell? ⟨gb, 1, none⟩ = some (.int .i64 f) ∧ w1.cell? ⟨gb, 2, none⟩ = some (.int .i64 t) ∧ w1.cell? ⟨gb, 3, none⟩ = some (.int .i64 (cnt (ps.take m) (f, t) : Nat)) ∧ w1.cell? ⟨gb, 4, none⟩ = some (.int .i64 (cnt (ps.take m2) (f, t) : Nat)) := ⟨z.2.1, z.2.2.1, z.2.2.2.1, z.2.2.2.2.1⟩; clear z)) | (go_at_call 27; ((with_reducible refine (cD _ _ T2.out).mono ?_); rintro e w2 ⟨rfl, hT⟩; have T3 := Lib.hid hT; clear hT; have z := (T3.out.box 0 _ _ _ rfl).six; have s2 : w2.cell? ⟨gb, 1, none⟩ = some (.int .i64 f) ∧ w2.cell? ⟨gb, 2, none⟩ = some (.int .i64 t) ∧ w2.cell? ⟨gb, 3, none⟩ = some (.int .i64 (cnt (ps.take m) (f, t) : Nat)) ∧ w2.cell? ⟨gb, 4, none⟩ = some (.int .i64 (cnt (ps.take m2) (f, t) : Nat)) := ⟨z.2.1, z.2.2.1, z.2.2.2.1, z.2.2.2.2.1⟩; clear z)))
  go_wp2
  go_ret
  exact ActP.of rfl T3.out HA.out (by have := (HE.out (cnt (ps.take m2) (f, t))).1; omega) (HE.out (cnt (ps.take m2) (f, t))).2

set_option maxRecDepth 100000 in
set_option maxHeartbeats 4000000 in
theorem act4_no (W V : World) (g h N : Nat) (bs : Bags) (ps : List Pc) (L : Bxs) (f t i j : Int) (a : Option Addr) (n c : Nat) (l : Pk) (T : Two W V g h bs ps L) (A : Agree bs ps) (S : Small ps N) (hN : N ≤ 1000000) (hb : BAt W W.heap.size a n l) (hn : n ≤ 1000) (hi : -9223372036854775808 ≤ i ∧ i < 9223372036854775808) (hj : -9223372036854775808 ≤ j ∧ j < 9223372036854775808) (hno : ¬ ((0 ≤ i ∧ i < (cnt ps (f, t) : Int)) ∧ (0 ≤ j ∧ j < (cnt ps (f, t) : Int)))) :
    Calls Try.prog 11 #[.pointer (some ⟨g, 0, none⟩), .pointer (some ⟨h, 0, none⟩), .agg #[.int .i64 4, .int .i64 f, .int .i64 t, .int .i64 i, .int .i64 j, .slice a n c]] V (ActP W g h N L) := by
  have TT := Lib.hid (T.more #[.int .i64 4, .int .i64 f, .int .i64 t, .int .i64 i, .int .i64 j, .slice a n c] 34)
  have AA := Lib.hid A
  have SS := Lib.hid S
  have HB := Lib.hid hb
  have HN := Lib.hid hn
  have hps : ps.length ≤ 1099511627776 := Nat.le_trans S.1 (by omega)
  have HPS := Lib.hid hps
  have HNN := Lib.hid hN
  have HLL : Hid (∀ p ∈ ps, p.l.length ≤ 1099511627776) := fun p hp => Nat.le_trans (S.2 p hp) (by omega)
  have HI := Lib.hid hi
  have HJ := Lib.hid hj
  have HO := Lib.hid hno
  clear hi hj hno
  clear T A S hb hn hps hN
  go_enter Try.func11, Try.ntmps11
  go_upto_region 11 with fail
  generalize V.alloc (.cells #[.int .i64 4, .int .i64 f, .int .i64 t, .int .i64 i, .int .i64 j, .slice a n c] 34) = V1 at *
  generalize V.heap.size = gb at *
  obtain ⟨q0, q1, q2, q3, q4, q5⟩ := (TT.out.box 0 _ _ _ rfl).six
  clear q0 q1 q2 q3 q4 q5
  have TD : Hid (Two W V1.drew g h bs ps ((gb, #[.int .i64 4, .int .i64 f, .int .i64 t, .int .i64 i, .int .i64 j, .slice a n c], 34) :: L)) := TT.out.later (below_drewN 1 (Below.refl _ _))
  have s0 : V1.drew.cell? ⟨gb, 1, none⟩ = some (.int .i64 f) ∧ V1.drew.cell? ⟨gb, 2, none⟩ = some (.int .i64 t) ∧ V1.drew.cell? ⟨gb, 3, none⟩ = some (.int .i64 i) ∧ V1.drew.cell? ⟨gb, 4, none⟩ = some (.int .i64 j) := by have z := (TD.out.box 0 _ _ _ rfl).six; exact ⟨z.2.1, z.2.2.1, z.2.2.2.1, z.2.2.2.2.1⟩
  go_region_held3 (fun w' => w'.cell? ⟨gb, 1, none⟩ = some (.int .i64 f) ∧ w'.cell? ⟨gb, 2, none⟩ = some (.int .i64 t) ∧ w'.cell? ⟨gb, 3, none⟩ = some (.int .i64 i) ∧ w'.cell? ⟨gb, 4, none⟩ = some (.int .i64 j)) (first | exact s0 | exact s1 | exact s2)
    (first | (go_at_call 21; ((with_reducible refine (pMove_no f t i j TD.out AA.out HPS.out HO.out).mono ?_); rintro e w1 ⟨rfl, hT⟩; have T2 := Lib.hid hT; clear hT; have z := (T2.out.box 0 _ _ _ rfl).six; have s1 : w1.cell? ⟨gb, 1, none⟩ = some (.int .i64 f) ∧ w1.cell? ⟨gb, 2, none⟩ = some (.int .i64 t) ∧ w1.cell? ⟨gb, 3, none⟩ = some (.int .i64 i) ∧ w1.cell? ⟨gb, 4, none⟩ = some (.int .i64 j) := ⟨z.2.1, z.2.2.1, z.2.2.2.1, z.2.2.2.2.1⟩; clear z)) | (go_at_call 27; ((with_reducible refine (dMove_no f t i j T2.out HPS.out HI.out HJ.out HO.out).mono ?_); rintro e w2 ⟨rfl, hT⟩; have T3 := Lib.hid hT; clear hT; have z := (T3.out.box 0 _ _ _ rfl).six; have s2 : w2.cell? ⟨gb, 1, none⟩ = some (.int .i64 f) ∧ w2.cell? ⟨gb, 2, none⟩ = some (.int .i64 t) ∧ w2.cell? ⟨gb, 3, none⟩ = some (.int .i64 i) ∧ w2.cell? ⟨gb, 4, none⟩ = some (.int .i64 j) := ⟨z.2.1, z.2.2.1, z.2.2.2.1, z.2.2.2.2.1⟩; clear z)))
  go_wp2
  go_ret
  exact ActP.of rfl T3.out AA.out (by have := SS.out.1; omega) SS.out.2

set_option maxRecDepth 100000 in
set_option maxHeartbeats 4000000 in
theorem act5 (W V : World) (g h N : Nat) (bs : Bags) (ps : List Pc) (L : Bxs) (f t i j : Int) (a : Option Addr) (n c : Nat) (l : Pk) (T : Two W V g h bs ps L) (A : Agree bs ps) (S : Small ps N) (hN : N ≤ 1000000) (hb : BAt W W.heap.size a n l) (hn : n ≤ 1000) :
    Calls Try.prog 11 #[.pointer (some ⟨g, 0, none⟩), .pointer (some ⟨h, 0, none⟩), .agg #[.int .i64 5, .int .i64 f, .int .i64 t, .int .i64 i, .int .i64 j, .slice a n c]] V (ActP W g h N L) := by
  have TT := Lib.hid (T.more #[.int .i64 5, .int .i64 f, .int .i64 t, .int .i64 i, .int .i64 j, .slice a n c] 34)
  have AA := Lib.hid A
  have SS := Lib.hid S
  have HB := Lib.hid hb
  have HN := Lib.hid hn
  have hps : ps.length ≤ 1099511627776 := Nat.le_trans S.1 (by omega)
  have HPS := Lib.hid hps
  have HNN := Lib.hid hN
  have HLL : Hid (∀ p ∈ ps, p.l.length ≤ 1099511627776) := fun p hp => Nat.le_trans (S.2 p hp) (by omega)
  have HF : Hid ((flt ps 0 t false).length ≤ ps.length) := flt_le ps 0 t false
  have HFS : Hid (∀ q ∈ flt ps 0 t false, q ∈ ps) := fun q hq => (List.mem_filter.1 hq).1
  clear T A S hb hn hps hN
  go_enter Try.func11, Try.ntmps11
  go_upto_region 13 with fail
  generalize V.alloc (.cells #[.int .i64 5, .int .i64 f, .int .i64 t, .int .i64 i, .int .i64 j, .slice a n c] 34) = V1 at *
  generalize V.heap.size = gb at *
  obtain ⟨q0, q1, q2, q3, q4, q5⟩ := (TT.out.box 0 _ _ _ rfl).six
  clear q0 q1 q2 q3 q4 q5
  have TD : Hid (Two W V1.drew g h bs ps ((gb, #[.int .i64 5, .int .i64 f, .int .i64 t, .int .i64 i, .int .i64 j, .slice a n c], 34) :: L)) := TT.out.later (below_drewN 1 (Below.refl _ _))
  have s0 : V1.drew.cell? ⟨gb, 2, none⟩ = some (.int .i64 t) := by have z := (TD.out.box 0 _ _ _ rfl).six; exact z.2.2.1
  go_region_held3 (fun w' => w'.cell? ⟨gb, 2, none⟩ = some (.int .i64 t)) (first | exact s0 | exact s1 | exact s2)
    (first | (go_at_call 22; ((with_reducible refine (pClear t TD.out AA.out HPS.out).mono ?_); rintro e w1 ⟨rfl, hT⟩; have T2 := Lib.hid hT; clear hT; have z := (T2.out.box 0 _ _ _ rfl).six; have s1 : w1.cell? ⟨gb, 2, none⟩ = some (.int .i64 t) := z.2.2.1; clear z)) | (go_at_call 28; ((with_reducible refine (dClear t T2.out HPS.out).mono ?_); rintro e w2 ⟨rfl, hT⟩; have T3 := Lib.hid hT; clear hT; have z := (T3.out.box 0 _ _ _ rfl).six; have s2 : w2.cell? ⟨gb, 2, none⟩ = some (.int .i64 t) := z.2.2.1; clear z)))
  go_wp2
  go_ret
  refine ActP.of ?_ T3.out (AA.out.clear t) (by have := SS.out.1; have := HF.out; omega) fun q hq => SS.out.2 q (HFS.out q hq)
  rfl

set_option maxHeartbeats 4000000 in
theorem act0 (W V : World) (g h N : Nat) (bs : Bags) (ps : List Pc) (L : Bxs) (k f t i j : Int) (a : Option Addr) (n c : Nat) (T : Two W V g h bs ps L) (A : Agree bs ps) (S : Small ps N) (h1 : ¬ k = 1) (h2 : ¬ k = 2) (h3 : ¬ k = 3) (h4 : ¬ k = 4) (h5 : ¬ k = 5) :
    Calls Try.prog 11 #[.pointer (some ⟨g, 0, none⟩), .pointer (some ⟨h, 0, none⟩), .agg #[.int .i64 k, .int .i64 f, .int .i64 t, .int .i64 i, .int .i64 j, .slice a n c]] V (ActP W g h N L) := by
  have TT := Lib.hid (T.more #[.int .i64 k, .int .i64 f, .int .i64 t, .int .i64 i, .int .i64 j, .slice a n c] 34)
  have AA := Lib.hid A
  have SS := Lib.hid S
  have b1 : (k == 1) = false := by simp [h1]
  have b2 : (k == 2) = false := by simp [h2]
  have b3 : (k == 3) = false := by simp [h3]
  have b4 : (k == 4) = false := by simp [h4]
  have b5 : (k == 5) = false := by simp [h5]
  clear T A S h1 h2 h3 h4 h5
  go_enter Try.func11, Try.ntmps11
  go_wp2
  go_ret
  exact ActP.of rfl TT.out AA.out (by have := SS.out.1; omega) SS.out.2
end Go.Proofs.Ytgdgjgcmglgfmaa
