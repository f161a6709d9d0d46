/- Contract of net's Move. Conditions: the net lies in memory. -/
import Derived.Test.YtgdgjgcmglgfmaaNetTake
import Derived.Test.YtgdgjgcmglgfmaaNetInsert
namespace Go.Proofs.Ytgdgjgcmglgfmaa

open Go.RowKit

open Go.ChangeMaps (setBlock)

set_option linter.unusedVariables false
set_option linter.unusedSimpArgs false

theorem fr_grown {W V : World} {j : Nat} (h : W.grownBy V (some j)) : Fr W V [j] :=
  ⟨h.os, h.tape, h.output, h.size, fun i hi hn => h.block i hi (fun e => hn (by injection e with e; rw [e]; exact List.mem_singleton.2 rfl))⟩
theorem Pks.putAt {W : World} {xs : List Value} {ls : List Pk} {u : Value} {l : Pk} (h : Pks W xs ls) (hu : PkAt W u l) (i : Nat) : Pks W (putAt xs i u) (putAt ls i l) :=
  (h.take i).app ((Pks.one hu).app (h.drop i))
theorem alloc_last (w : World) (cs : Array Value) (t : TypeId) : (w.alloc (.cells cs t)).heap[w.heap.size]? = some (.cells cs t (0, 0)) := BoxC.new w cs t
/-- What Move answers and leaves. -/
def MoveR (W : World) (g : Nat) (own : List Nat) (bs : Bags) (k : Lk) (i j : Int) (e : Ending) (w' : World) : Prop :=
  (∃ (a b : Nat) (ha : a < (getB bs k).length), b < (getB bs k).length ∧ i = (a : Int) ∧ j = (b : Int) ∧ e = .returned (.bool true) ∧ Step W w' g own (keepB bs k (putAt ((getB bs k).eraseIdx a) b ((getB bs k)[a])))) ∨
  (¬ ((0 ≤ i ∧ i < (getB bs k).length) ∧ (0 ≤ j ∧ j < (getB bs k).length)) ∧ e = .returned (.bool false) ∧ Step W w' g own bs)

set_option maxRecDepth 100000 in
set_option maxHeartbeats 4000000 in
theorem move_yes (W : World) (g : Nat) (m : Option Nat) (gs : List Bg) (f t : Int) (i j b n c : Nat) (xs : List Value) (ls : List Pk) (hn : NetIn W g m gs) (hR : RowOf W gs (f, t) (.slice (some ⟨b, 0, none⟩) n c) n xs ls) (hi : i < n) (hj : j < n) (hm : n ≤ 1099511627776) :
    Calls Try.prog 21 #[.pointer (some ⟨g, 0, none⟩), .int .i64 f, .int .i64 t, .int .i64 (i : Nat), .int .i64 (j : Nat)] W (MoveR W g (ownN g m gs) (bsOf gs) (f, t) (i : Nat) (j : Nat)) := by
  have hx : xs.length = n := by have := hR.own.1; omega
  have hil : i < ls.length := by rw [hR.len]; exact hi
  obtain ⟨u, hu, a, q, cc, rfl, hba, hty⟩ := hR.pk.2 i hil
  obtain ⟨l0, hl0⟩ : ∃ l0, ls[i] = l0 := ⟨_, rfl⟩
  rw [hl0] at hba
  have hpk : PkAt W (.slice a q cc) l0 := ⟨a, q, cc, rfl, hba, hty⟩
  have HL0 := Lib.hid (show ls[i]? = some l0 by rw [List.getElem?_eq_getElem hil, hl0])
  have hd := Lib.hid hu
  have HN := Lib.hid hn
  have HR := Lib.hid hR
  have HP := Lib.hid hpk
  have hone := Lib.hid hR.pk.cells
  have H0 := Lib.hid ((Boxs.start W).more #[.int .i64 f, .int .i64 t] 42)
  have cB := bag_any g m (hdOf gs) f t _ (hn.hd.below H0.out.bel)
  rw [hR.is] at cB
  have cH := fun V => has_any (some ⟨b, 0, none⟩) n c (i : Nat) V
  have hdec : decide (0 ≤ ((i : Nat) : Int) ∧ ((i : Nat) : Int) < (n : Int)) = true := decide_eq_true (by omega)
  rw [hdec] at cH
  have cH' := fun V => has_any (some ⟨b, 0, none⟩) n c (j : Nat) V
  have hdec' : decide (0 ≤ ((j : Nat) : Int) ∧ ((j : Nat) : Int) < (n : Int)) = true := decide_eq_true (by omega)
  rw [hdec'] at cH'
  have HI := Lib.hid hi
  have HJ := Lib.hid hj
  have hin : ((i : Nat) : Int) < (n : Int) := by omega
  have hw1 : i + 1 < 9223372036854775808 := by omega
  obtain ⟨hnc, hcm⟩ := own_caps hR.own
  have cD : ∀ V : World, V.ownsRow 0 32 1 (.slice (some ⟨b, 0, none⟩) n c) n xs → Calls Try.prog 37 #[.slice (some ⟨b, 0, none⟩) n c, .int .i64 (i : Nat), .int .i64 (IntKind.i64.wrap ((i : Nat) + 1 : Int))] V fun e w' => e = .returned (.slice (some ⟨b, 0, none⟩) (n - 1) c) ∧ w'.ownsRow 0 32 1 (.slice (some ⟨b, 0, none⟩) (n - 1) c) (n - 1) (xs.eraseIdx i) ∧ V.grownBy w' (some b) := fun V h => by rw [wrap_succ i hw1]; exact delete_any 0 b n c i (i + 1) xs V h hone.out HI.out rfl
  have cI : ∀ (V : World) (vb : Nat), V.ownsRow 0 32 1 (.slice (some ⟨b, 0, none⟩) (n - 1) c) (n - 1) (xs.eraseIdx i) → V.heap[vb]? = some (.cells #[.slice a q cc] 32 (0, 0)) → vb ≠ b → Calls Try.prog 38 #[.slice (some ⟨b, 0, none⟩) (n - 1) c, .int .i64 (j : Nat), .slice (some ⟨vb, 0, none⟩) 1 1] V fun e w' => e = .returned (.slice (some ⟨b, 0, none⟩) n c) ∧ w'.ownsRow 0 32 1 (.slice (some ⟨b, 0, none⟩) n c) n (putAt (xs.eraseIdx i) j (.slice a q cc)) ∧ V.grownBy w' (some b) := fun V vb h hv hne => by
    have := insert_any 0 b (n - 1) c j vb (xs.eraseIdx i) (.slice a q cc) V h (fun u hu => hone.out u (List.mem_of_mem_eraseIdx hu)) rfl (by omega) (by omega) hv hne
    rwa [show n - 1 + 1 = n by omega] at this
  have HBL : Hid (b < W.heap.size) := row_lt hn hR rfl
  clear hn hR hu hpk hba hty hdec hdec' hl0 hil
  go_enter Try.func21, Try.ntmps21
  go_upto_region 6 with (first | (go_at_call 33; ((with_reducible refine cB.mono ?_); rintro e w2 ⟨rfl, hb2⟩; have X2 := Lib.hid (H0.out.below hb2); have s0 := (X2.out.get 0 _ _ _ rfl).two; have y0 : w2.cell? ⟨b, i, none⟩ = some (.slice a q cc) := own_at_cell (own_below HR.out.own X2.out.bel) hd.out; clear hb2)) | (go_at_call 36; ((with_reducible refine (cH _).mono ?_); rintro e w3 ⟨rfl, rfl⟩)) | (go_at_call 36; ((with_reducible refine (cH' _).mono ?_); rintro e w3 ⟨rfl, rfl⟩)))
  have HD := Lib.hid X2.out.drew
  have HE := Lib.hid (X2.out.below ((Below.refl _ _).alloc (Nat.le_refl _) (.cells #[.slice a q cc] 32))).drew
  have cDa := cD _ (own_below HR.out.own HD.out.bel)
  have cDb := cD _ (own_below HR.out.own HE.out.bel)
  have s5 := (HE.out.get 0 _ _ _ rfl).two
  have VE : Hid (((w2.alloc (.cells #[.slice a q cc] 32)).drew).heap[w2.heap.size]? = some (.cells #[.slice a q cc] 32 (0, 0))) := alloc_last w2 _ _
  have SE : Hid (w2.heap.size < ((w2.alloc (.cells #[.slice a q cc] 32)).drew).heap.size) := lt_of_heap VE.out
  have S2 : Hid (W.heap.size ≤ w2.heap.size) := X2.out.bel.size
  have NB : Hid (w2.heap.size ≠ b) := fun e => by have := HBL.out; have := S2.out; omega
  have NW : Hid (W.heap.size ≠ b) := fun e => by have := HBL.out; omega
  clear H0 cB y0 cD
  go_region_held3 (fun w' => w'.cell? ⟨W.heap.size, 0, none⟩ = some (.int .i64 f) ∧ w'.cell? ⟨W.heap.size, 1, none⟩ = some (.int .i64 t)) (first | exact s0 | exact s1 | exact s2 | exact s3 | exact s4 | exact s5)
    (first
      | (go_at_call 37; ((with_reducible refine cDa.mono ?_); rintro e w3 ⟨rfl, ho3, hg3⟩; have O3 := Lib.hid ho3; have F3 := Lib.hid (row_turned HN.out HR.out HD.out.bel hg3); have Y3 : Hid (BoxC w3 W.heap.size #[.int .i64 f, .int .i64 t] 42) := BoxC.grown (HD.out.get 0 _ _ _ rfl) hg3 (fun e => by injection e with e; exact NW.out e); have s1 := Y3.out.two; have S3 := Lib.hid hg3.size; have VA := Lib.hid (alloc_last w3 #[.slice a q cc] 32); have BA : Hid (Below w3.heap.size w3 (w3.alloc (.cells #[.slice a q cc] 32))) := (Below.refl _ _).alloc (Nat.le_refl _) _; have OA := Lib.hid (own_below ho3 BA.out); have NA : Hid (w3.heap.size ≠ b) := (fun e => by have h1 := HBL.out; have h2 := F3.out.size; omega); have YA := Lib.hid (Y3.out.below BA.out); have s4 := YA.out.two; have cJ := cI _ _ OA.out VA.out NA.out; clear ho3 hg3))
      | (go_at_call 37; ((with_reducible refine cDb.mono ?_); rintro e w3 ⟨rfl, ho3, hg3⟩; have F3 := Lib.hid (row_turned HN.out HR.out HE.out.bel hg3); have Y3 : Hid (BoxC w3 W.heap.size #[.int .i64 f, .int .i64 t] 42) := BoxC.grown (HE.out.get 0 _ _ _ rfl) hg3 (fun e => by injection e with e; exact NW.out e); have s1 := Y3.out.two; have V3 := Lib.hid ((hg3.block _ SE.out (fun e => by injection e with e; exact NB.out e)).trans VE.out); have cJ := cI _ _ ho3 V3.out NB.out; clear ho3 hg3))
      | (go_at_call 38; ((with_reducible refine cJ.mono ?_); rintro e w4 ⟨rfl, ho4, hg4⟩; have O4 := Lib.hid ho4; have F4 : Hid (Fr W w4 [b]) := F3.out.trans ((Fr.of_below BA.out).trans (fr_grown hg4) (fun i hi => .inl hi)) (fun i hi => .inl hi); have Y4 : Hid (BoxC w4 W.heap.size #[.int .i64 f, .int .i64 t] 42) := BoxC.grown YA.out hg4 (fun e => by injection e with e; exact NW.out e); have s2 := Y4.out.two; clear ho4 hg4))
      | (go_at_call 38; ((with_reducible refine cJ.mono ?_); rintro e w4 ⟨rfl, ho4, hg4⟩; have O4 := Lib.hid ho4; have F4 : Hid (Fr W w4 [b]) := F3.out.trans (fr_grown hg4) (fun i hi => .inl hi); have Y4 : Hid (BoxC w4 W.heap.size #[.int .i64 f, .int .i64 t] 42) := BoxC.grown Y3.out hg4 (fun e => by injection e with e; exact NW.out e); have s2 := Y4.out.two; clear ho4 hg4))
      | (go_at_call 35; ((with_reducible refine (keep_any g m (hdOf gs) f t (some ⟨b, 0, none⟩) n c w4 (heads_turned HN.out HR.out F4.out).1).mono ?_); rintro e w6 ⟨rfl, m6, hk6⟩; have K6 := Lib.hid hk6; have s3 := (box_fr Y4.out K6.out.fr (fun e => by have := gm_lt HN.out _ e; omega)).two; clear hk6)))
  all_goals
    go_wp2
    go_ret
    have hn1 := HI.out
    have hn2 := HJ.out
    have hlen := HR.out.len
    obtain ⟨hil, hl0⟩ := List.getElem?_eq_some_iff.1 HL0.out
    have hgl : getB (bsOf gs) (f, t) = ls := HR.out.get
    have hu4 := (heads_turned HN.out HR.out F4.out).2
    have hpk4 := HR.out.pk.moved hu4 F4.out.size
    have hst := net_close (x := ⟨(f, t), .slice (some ⟨b, 0, none⟩) n c, n, putAt (xs.eraseIdx i) j (.slice a q cc), putAt (ls.eraseIdx i) j l0⟩) HN.out HR.out F4.out (fun h => ⟨O4.out, Nat.pos_of_ne_zero h, (hpk4.erase i).putAt (HP.out.moved hu4 F4.out.size) j⟩) (by rw [putAt_len, List.length_eraseIdx]; simp [hil]; omega) (fun _ => .inl rfl) K6.out
    have e5 : (getB (bsOf gs) (f, t))[i]'(by rw [hgl]; exact hil) = l0 := by simp only [hgl]; exact hl0
    refine .inl ⟨i, j, by rw [hgl]; exact hil, by rw [hgl]; omega, rfl, rfl, rfl, ?_⟩
    rw [e5, hgl]
    exact hst

set_option maxRecDepth 100000 in
set_option maxHeartbeats 4000000 in
theorem move_no (W : World) (g : Nat) (bs : Bags) (own : List Nat) (f t i j : Int) (h : NetC W g bs own) (hi : ¬ ((0 ≤ i ∧ i < (getB bs (f, t)).length) ∧ (0 ≤ j ∧ j < (getB bs (f, t)).length))) :
    Calls Try.prog 21 #[.pointer (some ⟨g, 0, none⟩), .int .i64 f, .int .i64 t, .int .i64 i, .int .i64 j] W (MoveR W g own bs (f, t) i j) := by
  have h0 := h
  obtain ⟨m, gs, hn, rfl, rfl⟩ := h
  obtain ⟨v, n0, xs, ls, hR⟩ := row_of hn (f, t)
  obtain ⟨a0, c0, rfl, _, _, _⟩ := own_form hR.own
  have HW := Lib.hid h0
  have HI := Lib.hid hi
  have H0 := Lib.hid ((Boxs.start W).more #[.int .i64 f, .int .i64 t] 42)
  have cB := bag_any g m (hdOf gs) f t _ (hn.hd.below H0.out.bel)
  rw [hR.is] at cB
  have cH := fun V => has_any a0 n0 c0 i V
  have cH' := fun V => has_any a0 n0 c0 j V
  rw [hR.get, hR.len] at hi
  by_cases h1 : 0 ≤ i ∧ i < (n0 : Int)
  · have hdec : decide (0 ≤ i ∧ i < (n0 : Int)) = true := decide_eq_true h1
    have hdec' : decide (0 ≤ j ∧ j < (n0 : Int)) = false := decide_eq_false (fun h2 => hi ⟨h1, h2⟩)
    rw [hdec] at cH
    rw [hdec'] at cH'
    clear hn hR hi hdec hdec' h0 h1
    go_enter Try.func21, Try.ntmps21
    go_wp2_with (first | (go_at_call 33; ((with_reducible refine cB.mono ?_); rintro e w2 ⟨rfl, hb2⟩; have X2 := Lib.hid (H0.out.below hb2); clear hb2)) | (go_at_call 36; ((with_reducible refine (cH _).mono ?_); rintro e w3 ⟨rfl, rfl⟩)) | (go_at_call 36; ((with_reducible refine (cH' _).mono ?_); rintro e w3 ⟨rfl, rfl⟩)))
    go_ret
    exact .inr ⟨HI.out, rfl, Step.same HW.out X2.out.bel⟩
  · have hdec : decide (0 ≤ i ∧ i < (n0 : Int)) = false := decide_eq_false h1
    rw [hdec] at cH
    clear hn hR hi hdec h0 h1 cH'
    go_enter Try.func21, Try.ntmps21
    go_wp2_with (first | (go_at_call 33; ((with_reducible refine cB.mono ?_); rintro e w2 ⟨rfl, hb2⟩; have X2 := Lib.hid (H0.out.below hb2); clear hb2)) | (go_at_call 36; ((with_reducible refine (cH _).mono ?_); rintro e w3 ⟨rfl, rfl⟩)))
    go_ret
    exact .inr ⟨HI.out, rfl, Step.same HW.out X2.out.bel⟩
/-- Whatever is moved. -/
theorem move_any (W : World) (g : Nat) (bs : Bags) (own : List Nat) (f t i j : Int) (h : NetC W g bs own) (hm : (getB bs (f, t)).length ≤ 1099511627776) :
    Calls Try.prog 21 #[.pointer (some ⟨g, 0, none⟩), .int .i64 f, .int .i64 t, .int .i64 i, .int .i64 j] W (MoveR W g own bs (f, t) i j) := by
  by_cases hi : (0 ≤ i ∧ i < (getB bs (f, t)).length) ∧ (0 ≤ j ∧ j < (getB bs (f, t)).length)
  · obtain ⟨m, gs, hn, rfl, rfl⟩ := h
    obtain ⟨v, n0, xs, ls, hR⟩ := row_of hn (f, t)
    rw [hR.get, hR.len] at hi hm
    obtain ⟨i', rfl⟩ := Int.eq_ofNat_of_zero_le hi.1.1
    obtain ⟨j', rfl⟩ := Int.eq_ofNat_of_zero_le hi.2.1
    have hi' : i' < n0 := by omega
    have hj' : j' < n0 := by omega
    obtain ⟨b, c, e, _⟩ := hR.own.form (by omega)
    subst e
    exact move_yes W g m gs f t i' j' b n0 c xs ls hn hR hi' hj' hm
  · exact move_no W g bs own f t i j h hi
end Go.Proofs.Ytgdgjgcmglgfmaa
