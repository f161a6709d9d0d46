
/- Contracts of slices.Equal of reads and of writes. Conditions: the lists lie in memory, and are no longer than a million. Contracts of txn.Same, of the document's own, and of the statements' awake. Conditions: the lists lie in memory, and are no longer than a million. Words for a command in memory; whether two are alike, and formed. No condition. Words for boxes that are filled anew or loaded whole; equality as a Bool. No condition. -/
import Derived.Test.YtcfmifongbapkaaGreatDoorQG
import Derived.Laws.StructEq
import Derived.WalkLawsBesides
/- TxnEqual -/
namespace Go.Proofs.YtcfmifongbapkaaGreatDoor

open Go.RowKit

theorem bytes_ne {x y : ByteArray} (h : ¬ x = y) : (x.toList == y.toList) = false := by
  rw [beq_eq_false_iff_ne]
  intro e
  rw [ByteArray.toList_eq, ByteArray.toList_eq] at e
  obtain ⟨⟨x⟩⟩ := x
  obtain ⟨⟨y⟩⟩ := y
  exact h (by rw [show x = y from e])
theorem rd_cases (x y : RdM) : x = y ∨ (¬ x = y ∧ (x.1.toList == y.1.toList) = false) ∨ (¬ x = y ∧ (x.1.toList == y.1.toList) = true ∧ ((x.2 : Int) == (y.2 : Int)) = false) := by
  obtain ⟨x1, x2⟩ := x
  obtain ⟨y1, y2⟩ := y
  by_cases h1 : x1 = y1
  · subst h1
    by_cases h2 : x2 = y2
    · subst h2; exact .inl rfl
    · exact .inr (.inr ⟨fun e => h2 (by injection e), by simp, by simp; omega⟩)
  · refine .inr (.inl ⟨fun e => h1 (by injection e), ?_⟩)
    exact bytes_ne h1
theorem wr_cases (x y : WrM) : x = y ∨ (¬ x = y ∧ (x.key.toList == y.key.toList) = false) ∨ (¬ x = y ∧ (x.key.toList == y.key.toList) = true ∧ (x.k == y.k) = false) ∨ (¬ x = y ∧ (x.key.toList == y.key.toList) = true ∧ (x.k == y.k) = true ∧ ((x.b : Int) == (y.b : Int)) = false) ∨ (¬ x = y ∧ (x.key.toList == y.key.toList) = true ∧ (x.k == y.k) = true ∧ ((x.b : Int) == (y.b : Int)) = true ∧ (x.t.toList == y.t.toList) = false) := by
  obtain ⟨x1, x2, x3, x4⟩ := x
  obtain ⟨y1, y2, y3, y4⟩ := y
  by_cases h1 : x1 = y1
  · subst h1
    by_cases h2 : x2 = y2
    · subst h2
      by_cases h3 : x3 = y3
      · subst h3
        by_cases h4 : x4 = y4
        · subst h4; exact .inl rfl
        · refine .inr (.inr (.inr (.inr ⟨fun e => h4 (by injection e), by simp, by simp, by simp, ?_⟩)))
          exact bytes_ne h4
      · exact .inr (.inr (.inr (.inl ⟨fun e => h3 (by injection e), by simp, by simp, by simp; omega⟩)))
    · exact .inr (.inr (.inl ⟨fun e => h2 (by injection e), by simp, by simpa using h2⟩))
  · refine .inr (.inl ⟨fun e => h1 (by injection e), ?_⟩)
    exact bytes_ne h1

set_option maxHeartbeats 1000000 in
theorem eqR_any (a a' : Option Addr) (n n' c c' B B' : Nat) (l l' : List RdM) (w : World) (h : RdsAt w B a n l) (h' : RdsAt w B' a' n' l') (hn : n ≤ 1000000) :
    Calls Tryz.prog 124 #[.slice a n c, .slice a' n' c'] w (Says w (eqB l l')) := by
  have hl := h.1
  have hl' := h'.1
  by_cases hnn : n = n'
  · subst hnn
    have HA := Lib.hid h
    have HB := Lib.hid h'
    clear h h'
    go_enter Tryz.func124, Tryz.ntmps124
    go_wp2
    go_loopw [13] (fun i wr => ∃ k q : Nat, k ≤ n ∧ i = .int .i64 k ∧ wr = w.drewN q ∧ l.take k = l'.take k) (fun i _ => n - (intOf i).toNat)
    case atStart => exact ⟨0, 0, Nat.zero_le _, rfl, rfl, rfl⟩
    case round =>
      obtain ⟨k, q, hk, rfl, rfl, ht⟩ := hrel
      by_cases hlt : k < n
      · have hk1 : k < l.length := by omega
        have hk2 : k < l'.length := by omega
        have HG : l[k] = l'[k] → Hid (l.take (k + 1) = l'.take (k + 1)) := fun e => eq_step ht hk1 hk2 e
        have HN : ¬ l[k] = l'[k] → Hid (eqB l l' = false) := fun e => eq_bad hk1 hk2 e
        obtain ⟨b, off, rfl, _, x0, x1⟩ := HA.out.at_ (i := k) (by omega)
        obtain ⟨b', off', rfl, _, y0, y1⟩ := HB.out.at_ (i := k) (by omega)
        clear ht
        generalize l[k] = x at *
        generalize l'[k] = y at *
        have i1 : (k : Int) < (n : Int) := by omega
        rcases rd_cases x y with rfl | ⟨hne, q1⟩ | ⟨hne, q1, q2⟩
        · have Q := HG rfl
          clear HG HN
          go_upto_region 6 with (fail)
          go_quiet (fail)
          go_wp2
          go_roundw
          case rel => exact ⟨k + 1, _, by omega, by go_num, rfl, Q.out⟩
          case measure => simp [intOf]; omega
        · have Q := HN hne
          clear HG HN
          go_upto_region 6 with (fail)
          go_quiet (fail)
          go_wp2
          go_ret
          exact ⟨by rw [Q.out]; rfl, below_drewN _ (below_drewN _ (Below.refl _ _))⟩
        · have Q := HN hne
          clear HG HN
          go_upto_region 6 with (fail)
          go_quiet (fail)
          go_wp2
          go_ret
          exact ⟨by rw [Q.out]; rfl, below_drewN _ (below_drewN _ (Below.refl _ _))⟩
      · have Q := Lib.hid (eq_done ht (by omega) (by omega))
        clear ht
        go_wp2
        go_ret
        exact ⟨by rw [Q.out]; rfl, below_drewN _ (Below.refl _ _)⟩
  · have Q := Lib.hid (eq_len (l := l) (l' := l') (by omega))
    have q1 : ((n : Int) != (n' : Int)) = true := by simp; omega
    clear h h'
    go_enter Tryz.func124, Tryz.ntmps124
    go_wp2
    go_ret
    exact ⟨by rw [Q.out]; rfl, Below.refl _ _⟩

set_option maxHeartbeats 1000000 in
theorem eqW_any (a a' : Option Addr) (n n' c c' B B' : Nat) (l l' : List WrM) (w : World) (h : WrsAt w B a n l) (h' : WrsAt w B' a' n' l') (hn : n ≤ 1000000) :
    Calls Tryz.prog 125 #[.slice a n c, .slice a' n' c'] w (Says w (eqB l l')) := by
  have hl := h.1
  have hl' := h'.1
  by_cases hnn : n = n'
  · subst hnn
    have HA := Lib.hid h
    have HB := Lib.hid h'
    clear h h'
    go_enter Tryz.func125, Tryz.ntmps125
    go_wp2
    go_loopw [13] (fun i wr => ∃ k q : Nat, k ≤ n ∧ i = .int .i64 k ∧ wr = w.drewN q ∧ l.take k = l'.take k) (fun i _ => n - (intOf i).toNat)
    case atStart => exact ⟨0, 0, Nat.zero_le _, rfl, rfl, rfl⟩
    case round =>
      obtain ⟨k, q, hk, rfl, rfl, ht⟩ := hrel
      by_cases hlt : k < n
      · have hk1 : k < l.length := by omega
        have hk2 : k < l'.length := by omega
        have HG : l[k] = l'[k] → Hid (l.take (k + 1) = l'.take (k + 1)) := fun e => eq_step ht hk1 hk2 e
        have HN : ¬ l[k] = l'[k] → Hid (eqB l l' = false) := fun e => eq_bad hk1 hk2 e
        obtain ⟨b, off, rfl, _, x0, x1, x2, x3⟩ := HA.out.at_ (i := k) (by omega)
        obtain ⟨b', off', rfl, _, y0, y1, y2, y3⟩ := HB.out.at_ (i := k) (by omega)
        clear ht
        generalize l[k] = x at *
        generalize l'[k] = y at *
        have i1 : (k : Int) < (n : Int) := by omega
        rcases wr_cases x y with rfl | ⟨hne, q1⟩ | ⟨hne, q1, q2⟩ | ⟨hne, q1, q2, q3⟩ | ⟨hne, q1, q2, q3, q4⟩
        · have Q := HG rfl
          clear HG HN
          go_upto_region 6 with (fail)
          go_quiet (fail)
          go_wp2
          go_roundw
          case rel => exact ⟨k + 1, _, by omega, by go_num, rfl, Q.out⟩
          case measure => simp [intOf]; omega
        · have Q := HN hne
          clear HG HN
          go_upto_region 6 with (fail)
          go_quiet (fail)
          go_wp2
          go_ret
          exact ⟨by rw [Q.out]; rfl, below_drewN _ (below_drewN _ (Below.refl _ _))⟩
        · have Q := HN hne
          clear HG HN
          go_upto_region 6 with (fail)
          go_quiet (fail)
          go_wp2
          go_ret
          exact ⟨by rw [Q.out]; rfl, below_drewN _ (below_drewN _ (Below.refl _ _))⟩
        · have Q := HN hne
          clear HG HN
          go_upto_region 6 with (fail)
          go_quiet (fail)
          go_wp2
          go_ret
          exact ⟨by rw [Q.out]; rfl, below_drewN _ (below_drewN _ (Below.refl _ _))⟩
        · have Q := HN hne
          clear HG HN
          go_upto_region 6 with (fail)
          go_quiet (fail)
          go_wp2
          go_ret
          exact ⟨by rw [Q.out]; rfl, below_drewN _ (below_drewN _ (Below.refl _ _))⟩
      · have Q := Lib.hid (eq_done ht (by omega) (by omega))
        clear ht
        go_wp2
        go_ret
        exact ⟨by rw [Q.out]; rfl, below_drewN _ (Below.refl _ _)⟩
  · have Q := Lib.hid (eq_len (l := l) (l' := l') (by omega))
    have q1 : ((n : Int) != (n' : Int)) = true := by simp; omega
    clear h h'
    go_enter Tryz.func125, Tryz.ntmps125
    go_wp2
    go_ret
    exact ⟨by rw [Q.out]; rfl, Below.refl _ _⟩
end Go.Proofs.YtcfmifongbapkaaGreatDoor

/- TxnSame -/
namespace Go.Proofs.YtcfmifongbapkaaGreatDoor

open Go.RowKit

/-- Whether two transactions in memory are alike. -/
noncomputable def sameM (x y : IdN) (rs rs' : List RdM) (ws ws' : List WrM) : Bool := eqB x y && (eqB rs rs' && eqB ws ws')
theorem sameM_self (x : IdN) (rs : List RdM) (ws : List WrM) : sameM x x rs rs ws ws = true := by unfold sameM; rw [eqB_self, eqB_self, eqB_self]; rfl
theorem id_cases (s q s' q' : Int) : (eqB (s, q) (s', q') = true ∧ (s == s') = true ∧ (q == q') = true) ∨ (eqB (s, q) (s', q') = false ∧ (s == s') = false) ∨ (eqB (s, q) (s', q') = false ∧ (s == s') = true ∧ (q == q') = false) := by
  by_cases h1 : s = s'
  · by_cases h2 : q = q'
    · exact .inl ⟨eqB_yes (by rw [h1, h2]), by simpa using h1, by simpa using h2⟩
    · exact .inr (.inr ⟨eqB_no (fun e => h2 (by injection e)), by simpa using h1, by simpa using h2⟩)
  · exact .inr (.inl ⟨eqB_no (fun e => h1 (by injection e)), by simpa using h1⟩)

set_option maxHeartbeats 1000000 in
theorem tSame_any (s q : Int) (a : Option Addr) (n c : Nat) (b : Option Addr) (m d : Nat) (rs : List RdM) (ws : List WrM) (s' q' : Int) (a' : Option Addr) (n' c' : Nat) (b' : Option Addr) (m' d' : Nat) (rs' : List RdM) (ws' : List WrM) (w : World)
    (h : TxAt w a n b m rs ws) (h' : TxAt w a' n' b' m' rs' ws') (hn : n ≤ 1000000) (hm : m ≤ 1000000) :
    Calls Tryz.prog 95 #[.agg (txV s q a n c b m d), .agg (txV s' q' a' n' c' b' m' d')] w (Says w (sameM (s, q) (s', q') rs rs' ws ws')) := by
  have H0 := Lib.hid (((Boxs.start w).more (txV s q a n c b m d) 30).more (txV s' q' a' n' c' b' m' d') 30)
  have hs : (w.alloc (.cells (txV s q a n c b m d) 30)).heap.size = w.heap.size + 1 := by simp
  rw [hs] at H0
  have c1 := eqR_any a a' n n' c c' _ _ rs rs' _ (h.later H0.out.bel).rds (h'.later H0.out.bel).rds hn
  have HT := Lib.hid h
  have HT' := Lib.hid h'
  have c2 := fun W (hW : Below w.heap.size w W) => eqW_any b b' m m' d d' _ _ ws ws' W (HT.out.later hW).wrs (HT'.out.later hW).wrs hm
  obtain ⟨x0, x1, x2, x3⟩ := (H0.out.get 1 _ _ _ rfl).four
  obtain ⟨y0, y1, y2, y3⟩ := (H0.out.get 0 _ _ _ rfl).four
  clear h h'
  unfold sameM
  rcases id_cases s q s' q' with ⟨e, q1, q2⟩ | ⟨e, q1⟩ | ⟨e, q1, q2⟩
  · rw [e]
    cases hR : eqB rs rs'
    · rw [hR] at c1
      clear hR c2
      go_enter Tryz.func95, Tryz.ntmps95
      go_wp2_with (go_at_call 124; ((with_reducible refine c1.mono ?_); rintro e w1 ⟨rfl, hb1⟩; have H1 := Lib.hid (H0.out.below hb1)))
      go_ret
      exact ⟨rfl, H1.out.bel⟩
    · rw [hR] at c1
      clear hR
      go_enter Tryz.func95, Tryz.ntmps95
      go_wp2_with (first | (go_at_call 124; ((with_reducible refine c1.mono ?_); rintro e w1 ⟨rfl, hb1⟩; have H1 := Lib.hid (H0.out.below hb1); (clear x0 x1 x2 x3 y0 y1 y2 y3); obtain ⟨x0, x1, x2, x3⟩ := (H1.out.get 1 _ _ _ rfl).four; obtain ⟨y0, y1, y2, y3⟩ := (H1.out.get 0 _ _ _ rfl).four)) | (go_at_call 125; ((with_reducible refine (c2 _ H1.out.bel).mono ?_); rintro e w2 ⟨rfl, hb2⟩; have H2 := Lib.hid (H1.out.below hb2))))
      go_ret
      exact ⟨rfl, H2.out.bel⟩
  · rw [e]
    clear c1 c2
    go_enter Tryz.func95, Tryz.ntmps95
    go_wp2
    go_ret
    exact ⟨rfl, H0.out.bel⟩
  · rw [e]
    clear c1 c2
    go_enter Tryz.func95, Tryz.ntmps95
    go_wp2
    go_ret
    exact ⟨rfl, H0.out.bel⟩

end Go.Proofs.YtcfmifongbapkaaGreatDoor

/- CommandMem -/
namespace Go.Proofs.YtcfmifongbapkaaGreatDoor

open Go.RowKit

set_option linter.unusedVariables false

theorem BoxC.ten {w : World} {g : Nat} {c0 c1 c2 c3 c4 c5 c6 c7 c8 c9 : Value} {t : TypeId} (h : BoxC w g #[c0, c1, c2, c3, c4, c5, c6, c7, c8, c9] t) : w.cell? ⟨g, 0, none⟩ = some c0 ∧ w.cell? ⟨g, 1, none⟩ = some c1 ∧ w.cell? ⟨g, 2, none⟩ = some c2 ∧ w.cell? ⟨g, 3, none⟩ = some c3 ∧ w.cell? ⟨g, 4, none⟩ = some c4 ∧ w.cell? ⟨g, 5, none⟩ = some c5 ∧ w.cell? ⟨g, 6, none⟩ = some c6 ∧ w.cell? ⟨g, 7, none⟩ = some c7 ∧ w.cell? ⟨g, 8, none⟩ = some c8 ∧ w.cell? ⟨g, 9, none⟩ = some c9 :=
  ⟨h.cell 0 c0 rfl, h.cell 1 c1 rfl, h.cell 2 c2 rfl, h.cell 3 c3 rfl, h.cell 4 c4 rfl, h.cell 5 c5 rfl, h.cell 6 c6 rfl, h.cell 7 c7 rfl, h.cell 8 c8 rfl, h.cell 9 c9 rfl⟩
/-- A command by value: its kind, its transaction (id, reads, writes), its id, group, stamp, and whether it is a yes. -/
structure CmM where
  k : Int
  s : Int
  q : Int
  a : Option Addr
  n : Nat
  c : Nat
  b : Option Addr
  m : Nat
  d : Nat
  i : Int
  j : Int
  g : Int
  st : Nat
  y : Bool
abbrev cmV (x : CmM) : Array Value := #[.int .i64 x.k, .int .i64 x.s, .int .i64 x.q, .slice x.a x.n x.c, .slice x.b x.m x.d, .int .i64 x.i, .int .i64 x.j, .int .i64 x.g, .int .u64 ((x.st : Nat) : Int), .bool x.y]
abbrev zeroM : CmM := ⟨0, 0, 0, none, 0, 0, none, 0, 0, 0, 0, 0, 0, false⟩
abbrev zeroV : Array Value := #[.int .i64 0, .int .i64 0, .int .i64 0, .slice none 0 0, .slice none 0 0, .int .i64 0, .int .i64 0, .int .i64 0, .int .u64 0, .bool false]
abbrev idA (x : IdN) : Value := .agg #[.int .i64 x.1, .int .i64 x.2]
/-- Its transaction's lists lie in memory, and its stamp is one of 64 bits. -/
def CmAt (w : World) (x : CmM) (rs : List RdM) (ws : List WrM) : Prop := TxAt w x.a x.n x.b x.m rs ws ∧ x.st < 18446744073709551616
section

variable {w w' : World} {x : CmM} {rs : List RdM} {ws : List WrM}

theorem CmAt.tx (h : CmAt w x rs ws) : TxAt w x.a x.n x.b x.m rs ws := h.1
theorem CmAt.st (h : CmAt w x rs ws) : x.st < 18446744073709551616 := h.2
theorem CmAt.later (h : CmAt w x rs ws) (hb : Below w.heap.size w w') : CmAt w' x rs ws := ⟨h.1.later hb, h.2⟩
theorem CmAt.zero : CmAt w zeroM [] [] := ⟨TxAt.nil, by show 0 < 18446744073709551616; decide⟩
end

def cmT (x : CmM) (rs : List RdM) (ws : List WrM) : Cm := ⟨x.k, txT (x.s, x.q) rs ws, (x.i, x.j), x.g, x.st, x.y⟩
/-- Whether two commands in memory are alike. -/
noncomputable def sameC (x y : CmM) (rs rs' : List RdM) (ws ws' : List WrM) : Bool :=
  (x.k == y.k) && (sameM (x.s, x.q) (y.s, y.q) rs rs' ws ws' && (eqB (x.i, x.j) (y.i, y.j) && ((x.g == y.g) && ((((x.st : Nat) : Int) == ((y.st : Nat) : Int)) && (x.y == y.y)))))
theorem sameC_doc (x y : CmM) (rs rs' : List RdM) (ws ws' : List WrM) : sameC x y rs rs' ws ws' = ((x.k == y.k) && (eqB (x.i, x.j) (y.i, y.j) && ((x.g == y.g) && ((((x.st : Nat) : Int) == ((y.st : Nat) : Int)) && ((x.y == y.y) && sameM (x.s, x.q) (y.s, y.q) rs rs' ws ws'))))) := by
  unfold sameC
  generalize sameM (x.s, x.q) (y.s, y.q) rs rs' ws ws' = B
  generalize eqB (x.i, x.j) (y.i, y.j) = B1
  generalize (x.k == y.k) = B2
  generalize (x.g == y.g) = B3
  generalize (((x.st : Nat) : Int) == ((y.st : Nat) : Int)) = B4
  generalize (x.y == y.y) = B5
  cases B <;> cases B1 <;> cases B2 <;> cases B3 <;> cases B4 <;> cases B5 <;> rfl
theorem sameM_of {i i' : IdN} {rs rs' : List RdM} {ws ws' : List WrM} (h : sameM i i' rs rs' ws ws' = true) : i = i' ∧ rs = rs' ∧ ws = ws' := by
  unfold sameM at h
  rw [Bool.and_eq_true, Bool.and_eq_true] at h
  exact ⟨eqB_of h.1, eqB_of h.2.1, eqB_of h.2.2⟩
/-- Alike in memory just if they are the same commands. -/
theorem txT_eq {i i' : IdN} {rs rs' : List RdM} {ws ws' : List WrM} (h : txT i rs ws = txT i' rs' ws') : i = i' ∧ rs = rs' ∧ ws = ws' := by
  unfold txT at h
  injection h with h1 h2 h3
  refine ⟨h1, ?_, ?_⟩
  · refine List.map_inj_right (f := fun x : RdM => (x.1.data.toList, x.2)) (fun x y e => ?_) |>.1 h2
    injection e with e1 e2
    exact Prod.ext (ByteArray.ext (Array.toList_inj.1 e1)) e2
  · refine List.map_inj_right (f := fun x : WrM => (x.key.data.toList, valM x)) (fun x y e => ?_) |>.1 h3
    injection e with e1 e2
    unfold valM at e2
    injection e2 with e3 e4 e5
    obtain ⟨xk, xa, xb, xt⟩ := x
    obtain ⟨yk, ya, yb, yt⟩ := y
    simp only at e1 e3 e4 e5
    have h1 : xk = yk := ByteArray.ext (Array.toList_inj.1 e1)
    have h2 : xt = yt := ByteArray.ext (Array.toList_inj.1 e5)
    rw [h1, h2, e3, e4]
theorem sameC_iff (x y : CmM) (rs rs' : List RdM) (ws ws' : List WrM) : sameC x y rs rs' ws ws' = true ↔ cmT x rs ws = cmT y rs' ws' := by
  constructor
  · intro h
    unfold sameC at h
    simp only [Bool.and_eq_true, beq_iff_eq] at h
    obtain ⟨h1, h2, h3, h4, h5, h6⟩ := h
    obtain ⟨i1, i2, i3⟩ := sameM_of h2
    have i4 := eqB_of h3
    have i5 : x.st = y.st := by omega
    unfold cmT
    rw [h1, i1, i2, i3, i4, h4, i5, h6]
  · intro h
    unfold cmT at h
    injection h with h1 h2 h3 h4 h5 h6
    obtain ⟨i1, i2, i3⟩ := txT_eq h2
    unfold sameC sameM
    rw [eqB_yes i1, eqB_yes i2, eqB_yes i3, eqB_yes h3, h1, h4, h5, h6]; simp
theorem eqB_dec {α : Type} [DecidableEq α] (x y : α) : eqB x y = decide (x = y) := by
  by_cases h : x = y
  · rw [eqB_yes h, decide_eq_true h]
  · rw [eqB_no h, decide_eq_false h]
theorem eqB_nil {α : Type} (l : List α) : eqB l [] = decide (l.length = 0) := by
  cases l with
  | nil => rw [eqB_self]; rfl
  | cons a r => rw [eqB_no (by simp)]; simp
theorem sameM_zero (i : IdN) (rs : List RdM) (ws : List WrM) : sameM i (0, 0) rs [] ws [] = zeroTB (txT i rs ws) := by
  unfold sameM zeroTB txT txR txW
  rw [eqB_dec, eqB_nil, eqB_nil]; simp
/-- What a command's kind names of it. -/
def namedM (x : CmM) : CmM :=
  if x.k = 1 then ⟨1, x.s, x.q, x.a, x.n, x.c, x.b, x.m, x.d, 0, 0, 0, 0, false⟩
  else if x.k = 2 then ⟨2, 0, 0, none, 0, 0, none, 0, 0, x.i, x.j, x.g, x.st, false⟩
  else if x.k = 3 then ⟨3, 0, 0, none, 0, 0, none, 0, 0, x.i, x.j, x.g, 0, x.y⟩
  else zeroM
def namedL {α : Type} (x : CmM) (l : List α) : List α := if x.k = 1 then l else []
theorem named_at {w : World} {x : CmM} {rs : List RdM} {ws : List WrM} (h : CmAt w x rs ws) : CmAt w (namedM x) (namedL x rs) (namedL x ws) := by
  unfold namedM namedL
  split
  · exact ⟨h.1, by show 0 < 18446744073709551616; decide⟩
  · split
    · exact ⟨TxAt.nil, h.2⟩
    · split
      · exact ⟨TxAt.nil, by show 0 < 18446744073709551616; decide⟩
      · exact CmAt.zero
/-- A command and what its kind names of it are alike. -/
noncomputable def cleanB (x : CmM) (rs : List RdM) (ws : List WrM) : Bool := sameC x (namedM x) rs (namedL x rs) ws (namedL x ws)
def srcB (x : CmM) : Bool := idB (x.i, x.j) && (decide (0 ≤ x.g) && decide (x.g < 4))
def labelM (x : CmM) : IdN := if x.k = 1 then (x.s, x.q) else if x.k = 2 ∨ x.k = 3 then (x.i, x.j) else (0, 0)
section

variable {x : CmM} {rs : List RdM} {ws : List WrM}

theorem form_clean (h : cleanB x rs ws = false) : formCm (cmT x rs ws) = false := by
  unfold cleanB namedM namedL at h
  unfold formCm cmT aboutB restB
  by_cases h0 : x.k = 0
  · rw [if_neg (by omega), if_neg (by omega), if_neg (by omega), if_neg (by omega), if_neg (by omega)] at h
    unfold sameC at h
    rw [sameM_zero, eqB_dec] at h
    simp only [h0, if_true]
    generalize zeroTB (txT (x.s, x.q) rs ws) = B at h ⊢
    revert h
    cases x.y <;> cases B <;> simp [h0] <;> omega
  · by_cases h1 : x.k = 1
    · rw [if_pos h1, if_pos h1, if_pos h1] at h
      unfold sameC at h
      rw [sameM_self, eqB_dec] at h
      simp only [h1, if_true]
      rw [if_neg (by omega)]
      revert h
      generalize formT formedB (txT (x.s, x.q) rs ws) = B
      cases x.y <;> cases B <;> simp [h1] <;> omega
    · by_cases h2 : x.k = 2
      · rw [if_neg h1, if_neg h1, if_neg h1, if_pos h2] at h
        unfold sameC at h
        rw [sameM_zero, eqB_self] at h
        simp only [h2, if_true]
        rw [if_neg (by omega), if_neg (by omega)]
        revert h
        generalize zeroTB (txT (x.s, x.q) rs ws) = B
        cases x.y <;> cases B <;> simp [h2]
      · by_cases h3 : x.k = 3
        · rw [if_neg h1, if_neg h1, if_neg h1, if_neg h2, if_pos h3] at h
          unfold sameC at h
          rw [sameM_zero, eqB_self] at h
          simp only [h3, if_true]
          rw [if_neg (by omega), if_neg (by omega), if_neg (by omega)]
          revert h
          generalize zeroTB (txT (x.s, x.q) rs ws) = B
          cases x.y <;> cases B <;> simp [h3] <;> omega
        · simp only []
          rw [if_neg h0, if_neg h1, if_neg h2, if_neg h3]
theorem clean_kind (h : cleanB x rs ws = true) : x.k = 0 ∨ x.k = 1 ∨ x.k = 2 ∨ x.k = 3 := by
  by_cases h1 : x.k = 1
  · exact .inr (.inl h1)
  · by_cases h2 : x.k = 2
    · exact .inr (.inr (.inl h2))
    · by_cases h3 : x.k = 3
      · exact .inr (.inr (.inr h3))
      · unfold cleanB namedM namedL sameC at h
        rw [if_neg h1, if_neg h2, if_neg h3] at h
        simp only [Bool.and_eq_true, beq_iff_eq] at h
        exact .inl h.1
theorem form_zero (h : cleanB x rs ws = true) (h0 : x.k = 0) : formCm (cmT x rs ws) = true := by
  unfold cleanB namedM namedL at h
  rw [if_neg (by omega), if_neg (by omega), if_neg (by omega), if_neg (by omega), if_neg (by omega)] at h
  have e := (sameC_iff _ _ _ _ _ _).1 h
  rw [e]; rfl
theorem form_begin (h : cleanB x rs ws = true) (h1 : x.k = 1) : formCm (cmT x rs ws) = formT formedB (txT (x.s, x.q) rs ws) := by
  unfold cleanB namedM namedL at h
  rw [if_pos h1, if_pos h1, if_pos h1] at h
  have e := (sameC_iff _ _ _ _ _ _).1 h
  rw [e]
  show (formT formedB (txT (x.s, x.q) rs ws) && restB _) = _
  exact Bool.and_true _
theorem form_stamp (h : cleanB x rs ws = true) (h2 : x.k = 2) : formCm (cmT x rs ws) = (srcB x && (decide (1 ≤ x.st) && decide (x.st ≤ 9223372036854775807))) := by
  unfold cleanB namedM namedL at h
  have h1 : ¬ x.k = 1 := by omega
  rw [if_neg h1, if_neg h1, if_neg h1, if_pos h2] at h
  have e := (sameC_iff _ _ _ _ _ _).1 h
  rw [e]
  show (srcB x && (decide (0 < x.st) && decide (x.st ≤ 9223372036854775807))) = _
  rfl
theorem form_vote (h : cleanB x rs ws = true) (h3 : x.k = 3) : formCm (cmT x rs ws) = srcB x := by
  unfold cleanB namedM namedL at h
  have h1 : ¬ x.k = 1 := by omega
  have h2 : ¬ x.k = 2 := by omega
  rw [if_neg h1, if_neg h1, if_neg h1, if_neg h2, if_pos h3] at h
  have e := (sameC_iff _ _ _ _ _ _).1 h
  rw [e]
  show (srcB x && true) = _
  exact Bool.and_true _
end

end Go.Proofs.YtcfmifongbapkaaGreatDoor

/- BoxFill -/
namespace Go.Proofs.YtcfmifongbapkaaGreatDoor

open Go.RowKit

set_option linter.unusedVariables false

theorem bytes_inj {u v : ByteArray} (h : u.data.toList = v.data.toList) : u = v := ByteArray.ext (Array.toList_inj.1 h)
theorem sameC_eqB (x y : CmM) (rs rs' : List RdM) (ws ws' : List WrM) : sameC x y rs rs' ws ws' = eqB (cmT x rs ws) (cmT y rs' ws') := by
  by_cases h : cmT x rs ws = cmT y rs' ws'
  · rw [eqB_yes h, (sameC_iff _ _ _ _ _ _).2 h]
  · rw [eqB_no h]
    cases e : sameC x y rs rs' ws ws'
    · rfl
    · exact absurd ((sameC_iff _ _ _ _ _ _).1 e) h
theorem bytes_beq (u v : ByteArray) : (u.toList == v.toList) = eqB u v := by
  by_cases h : u = v
  · rw [eqB_yes h, h]; simp
  · rw [eqB_no h]
    have : ¬ u.toList = v.toList := fun e => h (by
      rw [ByteArray.toList_eq, ByteArray.toList_eq] at e
      exact bytes_inj e)
    simpa using this
theorem eqB_iff {α : Type} {x y : α} : eqB x y = true ↔ x = y := ⟨eqB_of, eqB_yes⟩
/-- A whole box is filled anew. -/
theorem BoxC.fill {w : World} {g : Nat} {cs : Array Value} {t : TypeId} (h : BoxC w g cs t) (ds : Array Value) : BoxC (w.setRow g ds) g ds t := setRow_heap w g cs ds t (0, 0) h
theorem only_fill (w : World) (g : Nat) (ds : Array Value) : Only g w (w.setRow g ds) := ⟨rfl, rfl, rfl, by rw [setRow_size]; exact Nat.le_refl _, fun b _ hne => setRow_other w g b ds (fun e => hne (by rw [e]))⟩
end Go.Proofs.YtcfmifongbapkaaGreatDoor
