/- The walk of the statement TxnBack. Conditions: the transaction's lists lie in memory; the tables of utf8 lie there. -/
import Derived.Test.YtlkgpajpblhkeaaDoorGL
import Derived.Test.YtlkgpajpblhkeaaDoorGO
import Derived.Test.YtlkgpajpblhkeaaDoorGI
import Derived.Deep.DeepCutAuto
namespace Go.Proofs.YtlkgpajpblhkeaaDoor

open Go.RowKit

set_option linter.unusedVariables false

theorem ext_list {α : Type} {p : Prs α} (h : ExtP p) : ExtP (listP p) := ext_bind (ext_num 1) fun _ => ext_rep h _
theorem ext_txnF : ExtP txnF := ext_guard (ext_bind (ext_guard ext_id) fun _ => ext_bind (ext_list ext_read) fun _ => ext_bind (ext_list (ext_write ext_val)) fun _ => ext_pure _)
theorem back_list {α : Type} {p : Prs α} (enc : α → List UInt8) (good : α → Prop) (h : ∀ x R, good x → p (enc x ++ R) = some (x, R)) (xs : List α) (R : List UInt8) (hg : ∀ x ∈ xs, good x) (hn : xs.length < 256) : listP p (putB xs.length 1 ++ (xs.flatMap enc ++ R)) = some (xs, R) := by
  unfold listP
  rw [bind_some (back_num _ 1 _ (by omega))]
  exact back_rep enc good h xs R hg
theorem back_txnF (t : Tx Val) (R : List UInt8) (hf : formT formedB t = true) (hr : ∀ x ∈ t.rs, x.2 < 18446744073709551616) (hw : ∀ x ∈ t.ws, x.2.b < 18446744073709551616) : txnF (txnB bytesV t ++ R) = some (t, R) := by
  have hF := (formT_iff _ _).1 hf
  have l1 := hF.rlen
  have l2 := hF.wlen
  refine guard_yes ?_ hf
  unfold txnQ txnB
  rw [List.append_assoc, bind_some (show idQ _ = some (t.id, _) from guard_yes (back_id _ _ hF.id) hF.id)]
  rw [List.append_assoc, List.append_assoc, bind_some (back_list readB (fun x => x.1.length ≤ 12 ∧ x.2 < 18446744073709551616) back_read t.rs _ (fun x hx => ⟨key_len (List.all_eq_true.1 hF.rkeys x.1 (List.mem_map.2 ⟨x, hx, rfl⟩)), hr x hx⟩) (by omega))]
  rw [List.append_assoc, bind_some (back_list (writeB bytesV) (fun x => x.1.length ≤ 12 ∧ (x.2.b < 18446744073709551616 ∧ formedB x.2 = true)) (back_write back_val) t.ws _ (fun x hx => ⟨key_len (List.all_eq_true.1 hF.wkeys x.1 (List.mem_map.2 ⟨x, hx, rfl⟩)), hw x hx, List.all_eq_true.1 hF.vals x hx⟩) (by omega))]
  rfl
theorem txT_inj {i i' : IdN} {rs rs' : List RdM} {ws ws' : List WrM} (h : txT i rs ws = txT i' rs' ws') : i = i' ∧ rs = rs' ∧ ws = ws' := by
  unfold txT at h
  injection h with h1 h2 h3
  refine ⟨h1, ?_, ?_⟩
  · refine List.map_inj_right (fun x y e => ?_) |>.1 h2
    obtain ⟨⟨⟨xa⟩⟩, xb⟩ := x
    obtain ⟨⟨⟨ya⟩⟩, yb⟩ := y
    injection e with e1 e2
    simp only at e1 e2
    subst e1; subst e2; rfl
  · refine List.map_inj_right (fun x y e => ?_) |>.1 h3
    obtain ⟨⟨⟨xa⟩⟩, xk, xb, ⟨⟨xt⟩⟩⟩ := x
    obtain ⟨⟨⟨ya⟩⟩, yk, yb, ⟨⟨yt⟩⟩⟩ := y
    injection e with e1 e2
    injection e2 with e2 e3 e4
    simp only at e1 e2 e3 e4
    subst e1; subst e2; subst e3; subst e4; rfl
theorem txnB_len (t : Tx Val) (h : formT formedB t = true) : 5 ≤ (txnB bytesV t).length := by
  unfold txnB; rw [List.length_append, idBytes_len]; omega

theorem flat_le {α : Type} (f : α → List UInt8) (B : Nat) (h : ∀ x, (f x).length ≤ B) (xs : List α) : (xs.flatMap f).length ≤ xs.length * B := by
  induction xs with
  | nil => simp
  | cons x r ih => rw [List.flatMap_cons, List.length_append, List.length_cons, Nat.succ_mul]; have := h x; omega
theorem txnB_max (t : Tx Val) (h : formT formedB t = true) : (txnB bytesV t).length ≤ 1179727 := by
  have hF := (formT_iff _ _).1 h
  have l1 := hF.rlen
  have l2 := hF.wlen
  have h1 := flat_le readB 65545 (fun x => by unfold readB; rw [List.length_append, putB_len]; have := textB_le x.1; omega) t.rs
  have h2 := flat_le (writeB bytesV) 131075 (fun x => by unfold writeB; rw [List.length_append]; have := textB_le x.1; have := bytesV_len x.2; omega) t.ws
  have h3 : t.rs.length * 65545 ≤ 6 * 65545 := Nat.mul_le_mul_right _ l1
  have h4 : t.ws.length * 131075 ≤ 6 * 131075 := Nat.mul_le_mul_right _ l2
  unfold txnB
  rw [List.length_append, List.length_append, List.length_append, List.length_append, idBytes_len, putB_len, putB_len]
  omega

set_option maxRecDepth 100000 in
set_option maxHeartbeats 4000000 in
theorem back8_gen (s q : Int) (a : Option Addr) (n c : Nat) (b : Option Addr) (m d : Nat) (rs : List RdM) (ws : List WrM) (k : Nat) (w : World)
    (hX : TxAt w a n b m rs ws) (hk : k < 65536) (hU : Tabs w) (hf : fewT rs ws = true) (hT : formT formedB (txT (s, q) rs ws) = true) :
    Calls Tryd.prog 6 #[.agg (txV s q a n c b m d), .int .u16 k] w (Says w true) := by
  have H0 := Lib.hid ((Boxs.start w).more (txV s q a n c b m d) 27)
  have cF := fun W (hW : Below w.heap.size w W) => rFewT_any s q a n c b m d rs ws W (hX.later hW)
  have cT := fun W (hW : Below w.heap.size w W) => tFormed_any s q a n c b m d rs ws W (hX.later hW) (hU.below hW)
  rw [hf] at cF
  rw [hT] at cT
  obtain ⟨L, hL⟩ : ∃ L, L = txnB bytesV (txT (s, q) rs ws) := ⟨_, rfl⟩
  have cP : ∀ W, Below w.heap.size w W → Calls Tryd.prog 35 #[.slice none 0 0, .agg (txV s q a n c b m d)] W (NewB W L) := fun W hW => (tPut_any none 0 0 [] s q a n c b m d rs ws W BAt.nil (by omega) (hX.later hW) (hU.below hW)).mono fun e w' h => h.cast (by unfold putT; rw [if_pos hT, hL]; rfl)
  have h5 : 5 ≤ L.length := by rw [hL]; exact txnB_len _ hT
  have HLB : Hid (L.length ≤ 1179727) := by unfold Hid; rw [hL]; exact txnB_max _ hT
  have hback : txnF L = some (txT (s, q) rs ws, []) := by
    have h1 := back_txnF (txT (s, q) rs ws) [] hT (fun x hx => by
      obtain ⟨y, hy, rfl⟩ := List.mem_map.1 hx
      exact (hX.okR y hy).2) (fun x hx => by
      obtain ⟨y, hy, rfl⟩ := List.mem_map.1 hx
      exact (hX.okW y hy).2.1)
    rw [List.append_nil, ← hL] at h1
    exact h1
  have HB : Hid (∀ x st', Res txnF (some L) x st' → st' = some [] ∧ x = txT (s, q) rs ws) := fun x st' h => by
    obtain ⟨h1, h2⟩ := h.same (Res.yes hback)
    subst h1
    exact ⟨rfl, h2 (by simp)⟩
  have HC : Hid (∀ r, r < L.length → ∀ x st', Res txnF (some (L.take r)) x st' → st' = none) := fun r hr x st' h => by
    have h1 := ext_cut ext_txnF hback r hr
    rcases h with ⟨l, r', e, h2, rfl⟩ | ⟨_, e⟩
    · injection e with e; subst e
      rw [h1] at h2; cases h2
    · exact e
  have hn12 : n ≤ 12 := by have h1 := (fewT_len hf).1; have h2 := hX.lenR; omega
  have hm12 : m ≤ 12 := by have h1 := (fewT_len hf).2; have h2 := hX.lenW; omega
  have HU : Hid (∀ W, Below w.heap.size w W → Tabs W) := fun W hW => hU.below hW
  have HX := Lib.hid hX
  have cS : ∀ a' n' c' b' m' d' W, TxAt W a' n' b' m' rs ws → Below w.heap.size w W → n' ≤ 255 → m' ≤ 255 → Calls Tryd.prog 17 #[.agg (txV s q a' n' c' b' m' d'), .agg (txV s q a n c b m d)] W (Says W true) := fun a' n' c' b' m' d' W h1 h2 h3 h4 => by
    have h := rSame_any s q a' n' c' b' m' d' rs ws s q a n c b m d rs ws W h1 (hX.later h2) (by omega) (by omega)
    rw [sameM_self] at h; exact h
  obtain ⟨x0, x1, x2, x3⟩ := (H0.out.get 0 _ _ _ rfl).four
  clear hX hU hf hT hL hback
  go_enter Tryd.func6, Tryd.ntmps6
  go_upto_region 5 with (first | (go_at_call 8; ((with_reducible refine (awake8_any _).mono ?_); rintro e w1 ⟨rfl, hb1⟩; have H1 := Lib.hid (H0.out.below hb1); (clear x0 x1 x2 x3); obtain ⟨x0, x1, x2, x3⟩ := (H1.out.get 0 _ _ _ rfl).four)) | (go_at_call 9; ((with_reducible refine (cF _ H1.out.bel).mono ?_); rintro e w2 ⟨rfl, hb2⟩; have H2 := Lib.hid (H1.out.below hb2); (clear x0 x1 x2 x3); obtain ⟨x0, x1, x2, x3⟩ := (H2.out.get 0 _ _ _ rfl).four)) | (go_at_call 10; ((with_reducible refine (cT _ H2.out.bel).mono ?_); rintro e w3 ⟨rfl, hb3⟩; have H3 := Lib.hid (H2.out.below hb3); (clear x0 x1 x2 x3); obtain ⟨x0, x1, x2, x3⟩ := (H3.out.get 0 _ _ _ rfl).four)) | (go_at_call 35; ((with_reducible refine (cP _ H3.out.bel).mono ?_); rintro e w4 ⟨a4, n4, c4, rfl, ho4, hb4⟩; have H4 := Lib.hid (H3.out.below hb4); (clear x0 x1 x2 x3); obtain ⟨x0, x1, x2, x3⟩ := (H4.out.get 0 _ _ _ rfl).four; have B4 := Lib.hid (BAt.of_own ho4); have hn4 : n4 ≤ 1099511627776 := (by have := HLB.out; have := own_len ho4; omega); have F4 := Lib.hid (ownk_form ho4))) | (go_at_call 26; ((with_reducible refine (new_any a4 n4 c4 L _ B4.out hn4).mono ?_); rintro e w5 ⟨g, rfl, hr5, hg5, hg5', hb5⟩; have H5 := Lib.hid (H4.out.below hb5))))
  have hgw : w.heap.size < g := Nat.lt_of_lt_of_le (H4.out.get 0 _ _ _ rfl).lt hg5
  have hgl : ∀ x ∈ ([(w.heap.size, txV s q a n c b m d, 27)] : List (Nat × Array Value × TypeId)), x.1 ≠ g := by simp; omega
  have hLn := own_len ho4
  have X0 := Lib.hid H5.out.drew
  have R0 : Hid (RS g (some L) w5.drew) := Keep.keep (g := g) w5 _ hr5 fun _ _ => rfl
  have O0 := Lib.hid (own_below ho4 (hb5.trans (below_drewN 1 (Below.refl _ _))))
  have s0 := (X0.out.get 0 _ _ _ rfl).four
  have q5 : ((n4 : Int) == 0) = false := by simp; omega
  have JJ : Hid (∀ j, (Value.slice a4 n4 c4).ownBlock = some j → j < g) := fun j hj => Nat.lt_of_lt_of_le (ho4.lt j hj).2 hg5
  obtain ⟨_, _, e6, hc4, hc4'⟩ := F4.out
  injection e6 with e6 e7 e8
  subst e6; subst e8
  clear F4
  clear x0 x1 x2 x3 H0 H1 H2 H3 H4 H5 cF cT cP B4 hr5
  go_region_held3 (fun W => W.cell? ⟨w.heap.size, 0, none⟩ = some (.int .i64 s) ∧ W.cell? ⟨w.heap.size, 1, none⟩ = some (.int .i64 q) ∧ W.cell? ⟨w.heap.size, 2, none⟩ = some (.slice a n c) ∧ W.cell? ⟨w.heap.size, 3, none⟩ = some (.slice b m d)) (first | (with_reducible exact s0) | (with_reducible exact s1) | (with_reducible exact s2))
    (first | (go_at_call 27; ((with_reducible refine (tTake_any g (some L) _ R0.out (HU.out _ X0.out.bel)).mono ?_); rintro e v1 ⟨s', q', a', n', c', b', m', d', rs', ws', st', rfl, hr1, ho1, hT1, hn1, hRes, hz⟩; have X1 := Lib.hid (X0.out.only ho1 (by omega) hgl); obtain ⟨e1, e2⟩ := HB.out _ _ hRes; subst e1; obtain ⟨i1, i2, i3⟩ := txT_inj e2; injection i1 with i1 i4; subst i1; subst i4; subst i2; subst i3; have T1 := Lib.hid hT1; have D1 : Hid (RdAt v1 g [] true) := hr1; have s1 := (X1.out.get 0 _ _ _ rfl).four; have O1 := Lib.hid (ownk_grown O0.out ho1 (fun j hj e => by injection e with e; have := JJ.out j hj; omega)); clear hr1 ho1 hT1 hRes hz e2)) | (go_at_call 17; ((with_reducible refine (cS a' n' c' b' m' d' _ T1.out X1.out.bel hn1.1 hn1.2).mono ?_); rintro e v2 ⟨rfl, hb2⟩; have X2 := Lib.hid (X1.out.below hb2); have s2 := (X2.out.get 0 _ _ _ rfl).four; have B2 := Lib.hid (BAt.of_own (own_below O1.out hb2)))) | (go_at_call 39; ((with_reducible refine (end_any g [] true _ (RdAt.below D1.out hb2)).mono ?_); rintro e w' ⟨rfl, rfl⟩)))
  have hrn : k % n4 < n4 := Nat.mod_lt _ (by omega)
  have hn0 : ¬ (n4 : Int) = 0 := by omega
  unfold maxLen at hc4'
  clear X0 X1 s0 s1 s2 q5 hn1 T1 D1 O1 JJ R0 O0 HB
  have HCr := Lib.hid (HC.out (k % n4) (by omega))
  clear HC
  have B3 := Lib.hid (B2.out.take (k := k % n4) (by omega))
  have hr6 : k % n4 ≤ 1099511627776 := by omega
  generalize L.take (k % n4) = M at *
  go_upto_region 9 with (first | (go_at_call 26; ((with_reducible refine (new_any a4 (k % n4) c4 M _ B3.out hr6).mono ?_); rintro e w7 ⟨g2, rfl, hr7, hg7, hg7', hb7⟩; have X7 := Lib.hid (X2.out.below hb7); have R7 : Hid (RS g2 (some M) w7) := hr7)) | (go_at_call 27; ((with_reducible refine (tTake_any g2 (some M) _ R7.out (HU.out _ X7.out.bel)).mono ?_); rintro e w8 ⟨s2, q2, a2, n2, c2, b2, m2, d2, rs2, ws2, st2, rfl, hr8, ho8, hT8, hn8, hRes8, hz8⟩)))
  have hst := HCr.out _ _ hRes8
  subst hst
  obtain ⟨⟨rfl, rfl⟩, rfl, rfl⟩ := hz8 rfl
  have hg2 : w.heap.size < g2 := Nat.lt_of_lt_of_le (X2.out.get 0 _ _ _ rfl).lt hg7
  have X8 := Lib.hid ((X7.out.only ho8 (by omega) (by simp; omega)).more (txV 0 0 a2 n2 c2 b2 m2 d2) 27)
  have D8 : Hid (RS g2 none (w8.alloc (.cells (txV 0 0 a2 n2 c2 b2 m2 d2) 27))) := RdAt.below hr8 (one_box _ _ _)
  have cZ := rSame_any 0 0 a2 n2 c2 b2 m2 d2 [] [] 0 0 none 0 0 none 0 0 [] [] _ (hT8.later (one_box w8 (txV 0 0 a2 n2 c2 b2 m2 d2) 27)) TxAt.nil (by omega) (by omega)
  rw [sameM_self] at cZ
  clear hRes8 hz8 hr8 ho8 hT8 X7 R7 X2 B2 B3
  generalize w8.alloc (.cells (txV 0 0 a2 n2 c2 b2 m2 d2) 27) = W9 at *
  generalize w8.heap.size = G9 at *
  obtain ⟨y0, y1, y2, y3⟩ := (X8.out.get 0 _ _ _ rfl).four
  go_wp2_with (first | (go_at_call 31; ((with_reducible refine (okS_any g2 none _ D8.out).mono ?_); rintro e w' ⟨rfl, rfl⟩)) | (go_at_call 17; ((with_reducible refine cZ.mono ?_); rintro e w10 ⟨rfl, hb10⟩)))
  go_ret
  exact ⟨rfl, (X8.out.below hb10).bel⟩

set_option maxRecDepth 100000 in
set_option maxHeartbeats 2000000 in
theorem back8_walk (s q : Int) (a : Option Addr) (n c : Nat) (b : Option Addr) (m d : Nat) (rs : List RdM) (ws : List WrM) (k : Nat) (w : World)
    (hX : TxAt w a n b m rs ws) (hk : k < 65536) (hU : Tabs w) :
    Calls Tryd.prog 6 #[.agg (txV s q a n c b m d), .int .u16 k] w (Says w true) := by
  have H0 := Lib.hid ((Boxs.start w).more (txV s q a n c b m d) 27)
  have cF := fun W (hW : Below w.heap.size w W) => rFewT_any s q a n c b m d rs ws W (hX.later hW)
  have cT := fun W (hW : Below w.heap.size w W) => tFormed_any s q a n c b m d rs ws W (hX.later hW) (hU.below hW)
  obtain ⟨x0, x1, x2, x3⟩ := (H0.out.get 0 _ _ _ rfl).four
  cases hf : fewT rs ws
  · rw [hf] at cF
    clear hf cT hX hU
    go_enter Tryd.func6, Tryd.ntmps6
    go_upto_region 2 with (first | (go_at_call 8; ((with_reducible refine (awake8_any _).mono ?_); rintro e w1 ⟨rfl, hb1⟩; have H1 := Lib.hid (H0.out.below hb1); (clear x0 x1 x2 x3); obtain ⟨x0, x1, x2, x3⟩ := (H1.out.get 0 _ _ _ rfl).four)) | (go_at_call 9; ((with_reducible refine (cF _ H1.out.bel).mono ?_); rintro e w2 ⟨rfl, hb2⟩; have H2 := Lib.hid (H1.out.below hb2))))
    go_wp2_with (go_at_call 8; ((with_reducible refine (awake8_any _).mono ?_); rintro e w9 ⟨rfl, hb9⟩; have H9 := Lib.hid (H2.out.below hb9)))
    go_ret
    exact ⟨rfl, H9.out.bel⟩
  cases hT : formT formedB (txT (s, q) rs ws)
  · rw [hf] at cF
    rw [hT] at cT
    clear hf hT hX hU
    go_enter Tryd.func6, Tryd.ntmps6
    go_upto_region 2 with (first | (go_at_call 8; ((with_reducible refine (awake8_any _).mono ?_); rintro e w1 ⟨rfl, hb1⟩; have H1 := Lib.hid (H0.out.below hb1); (clear x0 x1 x2 x3); obtain ⟨x0, x1, x2, x3⟩ := (H1.out.get 0 _ _ _ rfl).four)) | (go_at_call 9; ((with_reducible refine (cF _ H1.out.bel).mono ?_); rintro e w2 ⟨rfl, hb2⟩; have H2 := Lib.hid (H1.out.below hb2); (clear x0 x1 x2 x3); obtain ⟨x0, x1, x2, x3⟩ := (H2.out.get 0 _ _ _ rfl).four)) | (go_at_call 10; ((with_reducible refine (cT _ H2.out.bel).mono ?_); rintro e w3 ⟨rfl, hb3⟩; have H3 := Lib.hid (H2.out.below hb3))))
    go_wp2_with (go_at_call 8; ((with_reducible refine (awake8_any _).mono ?_); rintro e w9 ⟨rfl, hb9⟩; have H9 := Lib.hid (H3.out.below hb9)))
    go_ret
    exact ⟨rfl, H9.out.bel⟩
  exact back8_gen s q a n c b m d rs ws k w hX hk hU hf hT
end Go.Proofs.YtlkgpajpblhkeaaDoor
