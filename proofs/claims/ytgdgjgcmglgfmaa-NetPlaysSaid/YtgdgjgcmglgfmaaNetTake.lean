/- Contracts of net's Take and Double. Conditions: the net lies in memory. -/
import Derived.Test.YtgdgjgcmglgfmaaNetSend
import Derived.Test.YtgdgjgcmglgfmaaNetDelete
namespace Go.Proofs.Ytgdgjgcmglgfmaa

open Go.RowKit

open Go.ChangeMaps (setBlock)

set_option linter.unusedVariables false
set_option linter.unusedSimpArgs false

theorem wrap_succ (i : Nat) (h : i + 1 < 9223372036854775808) : IntKind.i64.wrap ((i : Nat) + 1 : Int) = ((i + 1 : Nat) : Int) := by
  simp [IntKind.wrap, IntKind.bits, IntKind.signed]; omega
/-- What Take answers and leaves. -/
def TakeR (W : World) (g : Nat) (own : List Nat) (bs : Bags) (k : Lk) (i : Int) (e : Ending) (w' : World) : Prop :=
  (∃ (j : Nat) (hj : j < (getB bs k).length) (v : Value), i = (j : Int) ∧ e = .returned (.tuple #[v, .bool true]) ∧ PkAt w' v ((getB bs k)[j]) ∧ Step W w' g own (keepB bs k ((getB bs k).eraseIdx j))) ∨
  (¬ (0 ≤ i ∧ i < (getB bs k).length) ∧ e = .returned (.tuple #[.slice none 0 0, .bool false]) ∧ Step W w' g own bs)
theorem Pks.erase {W : World} {xs : List Value} {ls : List Pk} (h : Pks W xs ls) (i : Nat) : Pks W (xs.eraseIdx i) (ls.eraseIdx i) := by
  rw [List.eraseIdx_eq_take_drop_succ, List.eraseIdx_eq_take_drop_succ]
  exact (h.take i).app (h.drop (i + 1))
/-- A row whose own block alone has turned. -/
theorem row_turned {W W2 V : World} {g : Nat} {m : Option Nat} {gs : List Bg} {k : Lk} {n c j : Nat} {xs : List Value} {ls : List Pk} (hn : NetIn W g m gs) (hR : RowOf W gs k (.slice (some ⟨j, 0, none⟩) n c) n xs ls) (hB : Below W.heap.size W W2) (hg : W2.grownBy V (some j)) :
    Fr W V (Value.slice (some ⟨j, 0, none⟩) n c).ownBlock.toList :=
  ⟨hg.os.trans hB.os, hg.tape.trans hB.tape, hg.output.trans hB.output, Nat.le_trans hB.size hg.size, fun i hi hne => (hg.block i (Nat.lt_of_lt_of_le hi hB.size) (fun e => hne (by injection e with e; rw [e]; exact List.mem_singleton.2 rfl))).trans (hB.block i hi)⟩

set_option maxRecDepth 100000 in
set_option maxHeartbeats 4000000 in
theorem take_yes (W : World) (g : Nat) (m : Option Nat) (gs : List Bg) (f t : Int) (i b n c : Nat) (xs : List Value) (ls : List Pk) (hn : NetIn W g m gs) (hR : RowOf W gs (f, t) (.slice (some ⟨b, 0, none⟩) n c) n xs ls) (hi : i < n) (hm : n ≤ 1099511627776) :
    Calls Try.prog 20 #[.pointer (some ⟨g, 0, none⟩), .int .i64 f, .int .i64 t, .int .i64 (i : Nat)] W (TakeR W g (ownN g m gs) (bsOf gs) (f, t) (i : Nat)) := by
  have hx : xs.length = n := by have := hR.own.1; omega
  have hil : i < ls.length := by rw [hR.len]; exact hi
  obtain ⟨u, hu, hpk⟩ := hR.pk.2 i hil
  obtain ⟨l0, hl0⟩ : ∃ l0, ls[i] = l0 := ⟨_, rfl⟩
  rw [hl0] at hpk
  have HL0 := Lib.hid (show ls[i]? = some l0 by rw [List.getElem?_eq_getElem hil, hl0])
  have hd := Lib.hid hu
  have HN := Lib.hid hn
  have HR := Lib.hid hR
  have HP := Lib.hid hpk
  have hone := Lib.hid hR.pk.cells
  have H0 := Lib.hid ((Boxs.start W).more #[.int .i64 f, .int .i64 t] 42)
  have cB := bag_any g m (hdOf gs) f t _ (hn.hd.below H0.out.bel)
  rw [hR.is] at cB
  have cH := fun V => has_any (some ⟨b, 0, none⟩) n c (i : Nat) V
  have hdec : decide (0 ≤ ((i : Nat) : Int) ∧ ((i : Nat) : Int) < (n : Int)) = true := decide_eq_true (by omega)
  rw [hdec] at cH
  have HI := Lib.hid hi
  have hin : ((i : Nat) : Int) < (n : Int) := by omega
  have hw1 : i + 1 < 9223372036854775808 := by omega
  have cD : ∀ V : World, V.ownsRow 0 32 1 (.slice (some ⟨b, 0, none⟩) n c) n xs → Calls Try.prog 37 #[.slice (some ⟨b, 0, none⟩) n c, .int .i64 (i : Nat), .int .i64 (IntKind.i64.wrap ((i : Nat) + 1 : Int))] V fun e w' => e = .returned (.slice (some ⟨b, 0, none⟩) (n - 1) c) ∧ w'.ownsRow 0 32 1 (.slice (some ⟨b, 0, none⟩) (n - 1) c) (n - 1) (xs.eraseIdx i) ∧ V.grownBy w' (some b) := fun V h => by rw [wrap_succ i hw1]; exact delete_any 0 b n c i (i + 1) xs V h hone.out HI.out rfl
  clear hn hR hu hpk hdec hl0 hil
  go_enter Try.func20, Try.ntmps20
  go_upto_region 6 with (first | (go_at_call 33; ((with_reducible refine cB.mono ?_); rintro e w2 ⟨rfl, hb2⟩; have X2 := Lib.hid (H0.out.below hb2); have s0 := (X2.out.get 0 _ _ _ rfl).two; have y0 : w2.cell? ⟨b, i, none⟩ = some u := own_at_cell (own_below HR.out.own X2.out.bel) hd.out; clear hb2)) | (go_at_call 36; ((with_reducible refine (cH _).mono ?_); rintro e w3 ⟨rfl, rfl⟩)))
  have HD := Lib.hid X2.out.drew
  clear H0 cB y0
  go_region_held3 (fun w' => w'.cell? ⟨W.heap.size, 0, none⟩ = some (.int .i64 f) ∧ w'.cell? ⟨W.heap.size, 1, none⟩ = some (.int .i64 t)) (first | exact s0 | exact s1 | exact s2)
    (first | (go_at_call 37; ((with_reducible refine (cD _ (own_below HR.out.own HD.out.bel)).mono ?_); rintro e w3 ⟨rfl, ho3, hg3⟩; have O3 := Lib.hid ho3; have F3 := Lib.hid (row_turned HN.out HR.out HD.out.bel hg3); have Y3 : Hid (BoxC w3 W.heap.size #[.int .i64 f, .int .i64 t] 42) := BoxC.grown (HD.out.get 0 _ _ _ rfl) hg3 (fun e => by have := row_lt HN.out HR.out (j := b) rfl; injection e with e; omega); have s1 := Y3.out.two; clear ho3 hg3)) | (go_at_call 35; ((with_reducible refine (keep_any g m (hdOf gs) f t (some ⟨b, 0, none⟩) (n - 1) c w3 (heads_turned HN.out HR.out F3.out).1).mono ?_); rintro e w6 ⟨rfl, m6, hk6⟩; have K6 := Lib.hid hk6; have s2 := (box_fr Y3.out K6.out.fr (fun e => by have := gm_lt HN.out _ e; omega)).two; clear hk6)))
  go_wp2
  go_ret2
  have hn1 := HI.out
  have hlen := HR.out.len
  obtain ⟨hil, hl0⟩ := List.getElem?_eq_some_iff.1 HL0.out
  have hgl : getB (bsOf gs) (f, t) = ls := HR.out.get
  have hpk3 := HR.out.pk.moved (heads_turned HN.out HR.out F3.out).2 F3.out.size
  have hst := net_close (x := ⟨(f, t), .slice (some ⟨b, 0, none⟩) (n - 1) c, n - 1, xs.eraseIdx i, ls.eraseIdx i⟩) HN.out HR.out F3.out (fun h => ⟨O3.out, Nat.pos_of_ne_zero h, hpk3.erase i⟩) (by rw [List.length_eraseIdx]; simp [hil]; omega) (fun _ => .inl rfl) K6.out
  refine .inl ⟨i, by rw [hgl]; exact hil, u, rfl, rfl, ?_, by rw [hgl]; exact hst⟩
  have e5 : (getB (bsOf gs) (f, t))[i]'(by rw [hgl]; exact hil) = l0 := by simp only [hgl]; exact hl0
  rw [e5]
  obtain ⟨own', _, hF, _⟩ := hst
  exact HP.out.moved (HN.out.u8s hF) hF.size

set_option maxRecDepth 100000 in
set_option maxHeartbeats 4000000 in
theorem take_no (W : World) (g : Nat) (bs : Bags) (own : List Nat) (f t i : Int) (h : NetC W g bs own) (hi : ¬ (0 ≤ i ∧ i < (getB bs (f, t)).length)) :
    Calls Try.prog 20 #[.pointer (some ⟨g, 0, none⟩), .int .i64 f, .int .i64 t, .int .i64 i] W (TakeR W g own bs (f, t) i) := by
  have h0 := h
  obtain ⟨m, gs, hn, rfl, rfl⟩ := h
  obtain ⟨v, n0, xs, ls, hR⟩ := row_of hn (f, t)
  obtain ⟨a0, c0, rfl, _, _, _⟩ := own_form hR.own
  have HW := Lib.hid h0
  have HI := Lib.hid hi
  have H0 := Lib.hid ((Boxs.start W).more #[.int .i64 f, .int .i64 t] 42)
  have cB := bag_any g m (hdOf gs) f t _ (hn.hd.below H0.out.bel)
  rw [hR.is] at cB
  have cH := fun V => has_any a0 n0 c0 i V
  have hdec : decide (0 ≤ i ∧ i < (n0 : Int)) = false := decide_eq_false (by rw [hR.get, hR.len] at hi; exact hi)
  rw [hdec] at cH
  clear hn hR hi hdec h0
  go_enter Try.func20, Try.ntmps20
  go_wp2_with (first | (go_at_call 33; ((with_reducible refine cB.mono ?_); rintro e w2 ⟨rfl, hb2⟩; have X2 := Lib.hid (H0.out.below hb2); clear hb2)) | (go_at_call 36; ((with_reducible refine (cH _).mono ?_); rintro e w3 ⟨rfl, rfl⟩)))
  go_ret2
  exact .inr ⟨HI.out, rfl, Step.same HW.out X2.out.bel⟩
/-- Whatever is taken. -/
theorem take_any (W : World) (g : Nat) (bs : Bags) (own : List Nat) (f t i : Int) (h : NetC W g bs own) (hm : (getB bs (f, t)).length ≤ 1099511627776) :
    Calls Try.prog 20 #[.pointer (some ⟨g, 0, none⟩), .int .i64 f, .int .i64 t, .int .i64 i] W (TakeR W g own bs (f, t) i) := by
  by_cases hi : 0 ≤ i ∧ i < (getB bs (f, t)).length
  · obtain ⟨m, gs, hn, rfl, rfl⟩ := h
    obtain ⟨v, n0, xs, ls, hR⟩ := row_of hn (f, t)
    rw [hR.get, hR.len] at hi hm
    obtain ⟨j, rfl⟩ := Int.eq_ofNat_of_zero_le hi.1
    have hj : j < n0 := by omega
    obtain ⟨b, c, e, _⟩ := hR.own.form (by omega)
    subst e
    exact take_yes W g m gs f t j b n0 c xs ls hn hR hj hm
  · exact take_no W g bs own f t i h hi

/-- What Double answers and leaves. -/
def DoubR (W : World) (g : Nat) (own : List Nat) (bs : Bags) (k : Lk) (i : Int) (e : Ending) (w' : World) : Prop :=
  (∃ (j : Nat) (hj : j < (getB bs k).length), i = (j : Int) ∧ SendR W g own bs k ((getB bs k)[j]) e w') ∨
  (¬ (0 ≤ i ∧ i < (getB bs k).length) ∧ e = .returned (.bool false) ∧ Step W w' g own bs)
set_option maxRecDepth 100000 in
set_option maxHeartbeats 4000000 in
theorem double_any (W : World) (g : Nat) (bs : Bags) (own : List Nat) (f t i : Int) (h : NetC W g bs own) (hB : ∀ l ∈ getB bs (f, t), l.length ≤ 1099511627776) :
    Calls Try.prog 19 #[.pointer (some ⟨g, 0, none⟩), .int .i64 f, .int .i64 t, .int .i64 i] W (DoubR W g own bs (f, t) i) := by
  have h0 := h
  obtain ⟨m, gs, hn, rfl, rfl⟩ := h
  obtain ⟨v, n0, xs, ls, hR⟩ := row_of hn (f, t)
  by_cases hi : 0 ≤ i ∧ i < n0
  · obtain ⟨j, rfl⟩ := Int.eq_ofNat_of_zero_le hi.1
    have hj : j < n0 := by omega
    obtain ⟨b, c, e, _⟩ := hR.own.form (by omega)
    subst e
    have hil : j < ls.length := by rw [hR.len]; exact hj
    obtain ⟨u, hu, a, q, cc, rfl, hba, hty⟩ := hR.pk.2 j hil
    obtain ⟨l0, hl0⟩ : ∃ l0, ls[j] = l0 := ⟨_, rfl⟩
    rw [hl0] at hba
    have hql : q ≤ 1099511627776 := by rw [← hba.len]; exact hB l0 (by rw [hR.get, ← hl0]; exact List.getElem_mem hil)
    have HL0 := Lib.hid (show ls[j]? = some l0 by rw [List.getElem?_eq_getElem hil, hl0])
    have HN := Lib.hid hn
    have HR := Lib.hid hR
    have HW := Lib.hid h0
    have HU := Lib.hid hu
    have HBA := Lib.hid hba
    have HQ := Lib.hid hql
    have cB := bag_any g m (hdOf gs) f t _ hn.hd
    rw [hR.is] at cB
    have cH := fun V => has_any (some ⟨b, 0, none⟩) n0 c (j : Nat) V
    have hdec : decide (0 ≤ ((j : Nat) : Int) ∧ ((j : Nat) : Int) < (n0 : Int)) = true := decide_eq_true hi
    rw [hdec] at cH
    have hin : ((j : Nat) : Int) < (n0 : Int) := by omega
    clear hn hR h0 hu hba hty hql hdec hl0 hil hi hB
    go_enter Try.func19, Try.ntmps19
    go_wp2_with (first | (go_at_call 33; ((with_reducible refine cB.mono ?_); rintro e w2 ⟨rfl, hb2⟩; have X2 := Lib.hid hb2; have y0 : w2.cell? ⟨b, j, none⟩ = some (.slice a q cc) := own_at_cell (own_below HR.out.own X2.out) HU.out; clear hb2)) | (go_at_call 36; ((with_reducible refine (cH _).mono ?_); rintro e w3 ⟨rfl, rfl⟩)) | (go_at_call 18; ((with_reducible refine (send_any _ g (bsOf gs) (ownN g m gs) f t a q cc l0 (HW.out.below X2.out) ((HBA.out.below X2.out (Nat.le_refl _)).more X2.out.size) HQ.out).mono ?_); rintro e w4 ⟨rfl, own4, hn4, hf4, ho4⟩; have N4 := Lib.hid hn4; have F4 := Lib.hid hf4; have O4 := Lib.hid ho4; clear hn4 hf4 ho4)))
    go_ret
    obtain ⟨hil, hl0⟩ := List.getElem?_eq_some_iff.1 HL0.out
    have hgl : getB (bsOf gs) (f, t) = ls := HR.out.get
    refine .inl ⟨j, by rw [hgl]; exact hil, rfl, ?_⟩
    have e5 : (getB (bsOf gs) (f, t))[j]'(by rw [hgl]; exact hil) = l0 := by simp only [hgl]; exact hl0
    rw [e5]
    exact ⟨rfl, own4, N4.out, (Fr.of_below X2.out).trans F4.out (fun i hi => .inl hi), fun i hi => (O4.out i hi).imp id fun h => Nat.le_trans X2.out.size h⟩
  · obtain ⟨a0, c0, rfl, _, _, _⟩ := own_form hR.own
    have HW := Lib.hid h0
    have HI : Hid (¬ (0 ≤ i ∧ i < (getB (bsOf gs) (f, t)).length)) := by rw [hR.get, hR.len]; exact hi
    have cB := bag_any g m (hdOf gs) f t _ hn.hd
    rw [hR.is] at cB
    have cH := fun V => has_any a0 n0 c0 i V
    have hdec : decide (0 ≤ i ∧ i < (n0 : Int)) = false := decide_eq_false hi
    rw [hdec] at cH
    clear hn hR hi hdec h0 hB
    go_enter Try.func19, Try.ntmps19
    go_wp2_with (first | (go_at_call 33; ((with_reducible refine cB.mono ?_); rintro e w2 ⟨rfl, hb2⟩; have X2 := Lib.hid hb2; clear hb2)) | (go_at_call 36; ((with_reducible refine (cH _).mono ?_); rintro e w3 ⟨rfl, rfl⟩)))
    go_ret
    exact .inr ⟨HI.out, rfl, Step.same HW.out X2.out⟩
end Go.Proofs.Ytgdgjgcmglgfmaa
