/- Words for a transaction in memory, and equality of lists as a Bool. No condition. Contracts of slices.Equal of reads and of writes. Conditions: the lists lie in memory, and are no longer than a million. Contracts of txn.Same, of the document's own, and of the statements' awake. Conditions: the lists lie in memory, and are no longer than a million. Contracts of the document's Same and Few of transactions. Conditions: the lists lie in memory, and are no longer than a million (Same). -/
import Derived.Test.YtlkgpajpblhkeaaDoorGC
import Derived.Test.YtlkgpajpblhkeaaDoorGB
import Derived.Test.YtlkgpajpblhkeaaDoorGF
import Derived.Laws.StructEq
import Derived.WalkLawsBesides
/- TxnMem -/
namespace Go.Proofs.YtlkgpajpblhkeaaDoor

open Go.RowKit

/-- Equality as a Bool. -/
noncomputable def eqB {α : Type} (x y : α) : Bool := @decide (x = y) (Classical.propDecidable _)
section

variable {α : Type} {x y : α} {l l' : List α} {k : Nat}

theorem eqB_yes (h : x = y) : eqB x y = true := @decide_eq_true _ (Classical.propDecidable _) h
theorem eqB_no (h : ¬ x = y) : eqB x y = false := @decide_eq_false _ (Classical.propDecidable _) h
theorem eqB_self (x : α) : eqB x x = true := eqB_yes rfl
theorem eqB_of (h : eqB x y = true) : x = y := @of_decide_eq_true _ (Classical.propDecidable _) h
theorem eqB_ne (h : eqB x y = false) : ¬ x = y := @of_decide_eq_false _ (Classical.propDecidable _) h
theorem eq_step (h : l.take k = l'.take k) (h1 : k < l.length) (h2 : k < l'.length) (he : l[k] = l'[k]) : l.take (k + 1) = l'.take (k + 1) := by
  rw [List.take_succ_eq_append_getElem h1, List.take_succ_eq_append_getElem h2, h, he]
theorem eq_bad (h1 : k < l.length) (h2 : k < l'.length) (he : ¬ l[k] = l'[k]) : eqB l l' = false := eqB_no fun e => he (by subst e; rfl)
theorem eq_done (h : l.take k = l'.take k) (h1 : l.length ≤ k) (h2 : l'.length ≤ k) : eqB l l' = true := by
  rw [List.take_of_length_le h1, List.take_of_length_le h2] at h
  exact eqB_yes h
theorem eq_len (h : ¬ l.length = l'.length) : eqB l l' = false := eqB_no fun e => h (by rw [e])
end

/-- What a write in memory holds; the lists of a transaction in memory, as lists of bytes. -/
def valM (x : WrM) : Val := ⟨x.k, x.b, x.t.data.toList⟩
def txR (l : List RdM) : List (List UInt8 × Nat) := l.map fun x => (x.1.data.toList, x.2)
def txW (l : List WrM) : List (List UInt8 × Val) := l.map fun x => (x.key.data.toList, valM x)
def txT (i : IdN) (rs : List RdM) (ws : List WrM) : Tx Val := ⟨i, txR rs, txW ws⟩
def keysM (rs : List RdM) : List ByteArray := rs.map (·.1)
def keysV (ws : List WrM) : List ByteArray := ws.map (·.key)
theorem keysM_txt (i : IdN) (rs : List RdM) (ws : List WrM) : keysR (txT i rs ws) = txt (keysM rs) := by simp [keysR, txT, txR, txt, keysM]
theorem keysV_txt (i : IdN) (rs : List RdM) (ws : List WrM) : keysW (txT i rs ws) = txt (keysV ws) := by simp [keysW, txT, txW, txt, keysV]

/-- What is in the lists is of a size that is. -/
def RdOk (x : RdM) : Prop := x.1.size ≤ maxLen ∧ x.2 < 18446744073709551616
def WrOk (x : WrM) : Prop := x.key.size ≤ maxLen ∧ x.b < 18446744073709551616 ∧ x.t.size ≤ maxLen
/-- A transaction's lists lie in memory. -/
def TxAt (w : World) (a : Option Addr) (n : Nat) (b : Option Addr) (m : Nat) (rs : List RdM) (ws : List WrM) : Prop :=
  (RdsAt w w.heap.size a n rs ∧ WrsAt w w.heap.size b m ws) ∧ (∀ x ∈ rs, RdOk x) ∧ ∀ x ∈ ws, WrOk x
section

variable {w w' : World} {a b : Option Addr} {n m : Nat} {rs : List RdM} {ws : List WrM}

theorem TxAt.later (h : TxAt w a n b m rs ws) (hb : Below w.heap.size w w') : TxAt w' a n b m rs ws := ⟨⟨h.1.1.later hb, h.1.2.later hb⟩, h.2⟩
theorem TxAt.lenR (h : TxAt w a n b m rs ws) : rs.length = n := h.1.1.1
theorem TxAt.lenW (h : TxAt w a n b m rs ws) : ws.length = m := h.1.2.1
theorem TxAt.rds (h : TxAt w a n b m rs ws) : RdsAt w w.heap.size a n rs := h.1.1
theorem TxAt.wrs (h : TxAt w a n b m rs ws) : WrsAt w w.heap.size b m ws := h.1.2
theorem TxAt.okR (h : TxAt w a n b m rs ws) : ∀ x ∈ rs, RdOk x := h.2.1
theorem TxAt.okW (h : TxAt w a n b m rs ws) : ∀ x ∈ ws, WrOk x := h.2.2
theorem TxAt.nil : TxAt w none 0 none 0 [] [] := ⟨⟨RdsAt.nil, WrsAt.nil⟩, (fun _ h => by cases h), (fun _ h => by cases h)⟩
end

/-- A transaction by value. -/
abbrev txV (s q : Int) (a : Option Addr) (n c : Nat) (b : Option Addr) (m d : Nat) : Array Value := #[.int .i64 s, .int .i64 q, .slice a n c, .slice b m d]
theorem BoxC.four {w : World} {g : Nat} {x y z u : Value} {t : TypeId} (h : BoxC w g #[x, y, z, u] t) : w.cell? ⟨g, 0, none⟩ = some x ∧ w.cell? ⟨g, 1, none⟩ = some y ∧ w.cell? ⟨g, 2, none⟩ = some z ∧ w.cell? ⟨g, 3, none⟩ = some u := ⟨h.cell 0 x rfl, h.cell 1 y rfl, h.cell 2 z rfl, h.cell 3 u rfl⟩
end Go.Proofs.YtlkgpajpblhkeaaDoor

/- TxnEqual -/
namespace Go.Proofs.YtlkgpajpblhkeaaDoor

open Go.RowKit

theorem bytes_ne {x y : ByteArray} (h : ¬ x = y) : (x.toList == y.toList) = false := by
  rw [beq_eq_false_iff_ne]
  intro e
  rw [ByteArray.toList_eq, ByteArray.toList_eq] at e
  obtain ⟨⟨x⟩⟩ := x
  obtain ⟨⟨y⟩⟩ := y
  exact h (by rw [show x = y from e])
theorem rd_cases (x y : RdM) : x = y ∨ (¬ x = y ∧ (x.1.toList == y.1.toList) = false) ∨ (¬ x = y ∧ (x.1.toList == y.1.toList) = true ∧ ((x.2 : Int) == (y.2 : Int)) = false) := by
  obtain ⟨x1, x2⟩ := x
  obtain ⟨y1, y2⟩ := y
  by_cases h1 : x1 = y1
  · subst h1
    by_cases h2 : x2 = y2
    · subst h2; exact .inl rfl
    · exact .inr (.inr ⟨fun e => h2 (by injection e), by simp, by simp; omega⟩)
  · refine .inr (.inl ⟨fun e => h1 (by injection e), ?_⟩)
    exact bytes_ne h1
theorem wr_cases (x y : WrM) : x = y ∨ (¬ x = y ∧ (x.key.toList == y.key.toList) = false) ∨ (¬ x = y ∧ (x.key.toList == y.key.toList) = true ∧ (x.k == y.k) = false) ∨ (¬ x = y ∧ (x.key.toList == y.key.toList) = true ∧ (x.k == y.k) = true ∧ ((x.b : Int) == (y.b : Int)) = false) ∨ (¬ x = y ∧ (x.key.toList == y.key.toList) = true ∧ (x.k == y.k) = true ∧ ((x.b : Int) == (y.b : Int)) = true ∧ (x.t.toList == y.t.toList) = false) := by
  obtain ⟨x1, x2, x3, x4⟩ := x
  obtain ⟨y1, y2, y3, y4⟩ := y
  by_cases h1 : x1 = y1
  · subst h1
    by_cases h2 : x2 = y2
    · subst h2
      by_cases h3 : x3 = y3
      · subst h3
        by_cases h4 : x4 = y4
        · subst h4; exact .inl rfl
        · refine .inr (.inr (.inr (.inr ⟨fun e => h4 (by injection e), by simp, by simp, by simp, ?_⟩)))
          exact bytes_ne h4
      · exact .inr (.inr (.inr (.inl ⟨fun e => h3 (by injection e), by simp, by simp, by simp; omega⟩)))
    · exact .inr (.inr (.inl ⟨fun e => h2 (by injection e), by simp, by simpa using h2⟩))
  · refine .inr (.inl ⟨fun e => h1 (by injection e), ?_⟩)
    exact bytes_ne h1

set_option maxHeartbeats 1000000 in
theorem eqR_any (a a' : Option Addr) (n n' c c' B B' : Nat) (l l' : List RdM) (w : World) (h : RdsAt w B a n l) (h' : RdsAt w B' a' n' l') (hn : n ≤ 1000000) :
    Calls Tryd.prog 47 #[.slice a n c, .slice a' n' c'] w (Says w (eqB l l')) := by
  have hl := h.1
  have hl' := h'.1
  by_cases hnn : n = n'
  · subst hnn
    have HA := Lib.hid h
    have HB := Lib.hid h'
    clear h h'
    go_enter Tryd.func47, Tryd.ntmps47
    go_wp2
    go_loopw [13] (fun i wr => ∃ k q : Nat, k ≤ n ∧ i = .int .i64 k ∧ wr = w.drewN q ∧ l.take k = l'.take k) (fun i _ => n - (intOf i).toNat)
    case atStart => exact ⟨0, 0, Nat.zero_le _, rfl, rfl, rfl⟩
    case round =>
      obtain ⟨k, q, hk, rfl, rfl, ht⟩ := hrel
      by_cases hlt : k < n
      · have hk1 : k < l.length := by omega
        have hk2 : k < l'.length := by omega
        have HG : l[k] = l'[k] → Hid (l.take (k + 1) = l'.take (k + 1)) := fun e => eq_step ht hk1 hk2 e
        have HN : ¬ l[k] = l'[k] → Hid (eqB l l' = false) := fun e => eq_bad hk1 hk2 e
        obtain ⟨b, off, rfl, _, x0, x1⟩ := HA.out.at_ (i := k) (by omega)
        obtain ⟨b', off', rfl, _, y0, y1⟩ := HB.out.at_ (i := k) (by omega)
        clear ht
        generalize l[k] = x at *
        generalize l'[k] = y at *
        have i1 : (k : Int) < (n : Int) := by omega
        rcases rd_cases x y with rfl | ⟨hne, q1⟩ | ⟨hne, q1, q2⟩
        · have Q := HG rfl
          clear HG HN
          go_upto_region 6 with (fail)
          go_quiet (fail)
          go_wp2
          go_roundw
          case rel => exact ⟨k + 1, _, by omega, by go_num, rfl, Q.out⟩
          case measure => simp [intOf]; omega
        · have Q := HN hne
          clear HG HN
          go_upto_region 6 with (fail)
          go_quiet (fail)
          go_wp2
          go_ret
          exact ⟨by rw [Q.out]; rfl, below_drewN _ (below_drewN _ (Below.refl _ _))⟩
        · have Q := HN hne
          clear HG HN
          go_upto_region 6 with (fail)
          go_quiet (fail)
          go_wp2
          go_ret
          exact ⟨by rw [Q.out]; rfl, below_drewN _ (below_drewN _ (Below.refl _ _))⟩
      · have Q := Lib.hid (eq_done ht (by omega) (by omega))
        clear ht
        go_wp2
        go_ret
        exact ⟨by rw [Q.out]; rfl, below_drewN _ (Below.refl _ _)⟩
  · have Q := Lib.hid (eq_len (l := l) (l' := l') (by omega))
    have q1 : ((n : Int) != (n' : Int)) = true := by simp; omega
    clear h h'
    go_enter Tryd.func47, Tryd.ntmps47
    go_wp2
    go_ret
    exact ⟨by rw [Q.out]; rfl, Below.refl _ _⟩

set_option maxHeartbeats 1000000 in
theorem eqW_any (a a' : Option Addr) (n n' c c' B B' : Nat) (l l' : List WrM) (w : World) (h : WrsAt w B a n l) (h' : WrsAt w B' a' n' l') (hn : n ≤ 1000000) :
    Calls Tryd.prog 48 #[.slice a n c, .slice a' n' c'] w (Says w (eqB l l')) := by
  have hl := h.1
  have hl' := h'.1
  by_cases hnn : n = n'
  · subst hnn
    have HA := Lib.hid h
    have HB := Lib.hid h'
    clear h h'
    go_enter Tryd.func48, Tryd.ntmps48
    go_wp2
    go_loopw [13] (fun i wr => ∃ k q : Nat, k ≤ n ∧ i = .int .i64 k ∧ wr = w.drewN q ∧ l.take k = l'.take k) (fun i _ => n - (intOf i).toNat)
    case atStart => exact ⟨0, 0, Nat.zero_le _, rfl, rfl, rfl⟩
    case round =>
      obtain ⟨k, q, hk, rfl, rfl, ht⟩ := hrel
      by_cases hlt : k < n
      · have hk1 : k < l.length := by omega
        have hk2 : k < l'.length := by omega
        have HG : l[k] = l'[k] → Hid (l.take (k + 1) = l'.take (k + 1)) := fun e => eq_step ht hk1 hk2 e
        have HN : ¬ l[k] = l'[k] → Hid (eqB l l' = false) := fun e => eq_bad hk1 hk2 e
        obtain ⟨b, off, rfl, _, x0, x1, x2, x3⟩ := HA.out.at_ (i := k) (by omega)
        obtain ⟨b', off', rfl, _, y0, y1, y2, y3⟩ := HB.out.at_ (i := k) (by omega)
        clear ht
        generalize l[k] = x at *
        generalize l'[k] = y at *
        have i1 : (k : Int) < (n : Int) := by omega
        rcases wr_cases x y with rfl | ⟨hne, q1⟩ | ⟨hne, q1, q2⟩ | ⟨hne, q1, q2, q3⟩ | ⟨hne, q1, q2, q3, q4⟩
        · have Q := HG rfl
          clear HG HN
          go_upto_region 6 with (fail)
          go_quiet (fail)
          go_wp2
          go_roundw
          case rel => exact ⟨k + 1, _, by omega, by go_num, rfl, Q.out⟩
          case measure => simp [intOf]; omega
        · have Q := HN hne
          clear HG HN
          go_upto_region 6 with (fail)
          go_quiet (fail)
          go_wp2
          go_ret
          exact ⟨by rw [Q.out]; rfl, below_drewN _ (below_drewN _ (Below.refl _ _))⟩
        · have Q := HN hne
          clear HG HN
          go_upto_region 6 with (fail)
          go_quiet (fail)
          go_wp2
          go_ret
          exact ⟨by rw [Q.out]; rfl, below_drewN _ (below_drewN _ (Below.refl _ _))⟩
        · have Q := HN hne
          clear HG HN
          go_upto_region 6 with (fail)
          go_quiet (fail)
          go_wp2
          go_ret
          exact ⟨by rw [Q.out]; rfl, below_drewN _ (below_drewN _ (Below.refl _ _))⟩
        · have Q := HN hne
          clear HG HN
          go_upto_region 6 with (fail)
          go_quiet (fail)
          go_wp2
          go_ret
          exact ⟨by rw [Q.out]; rfl, below_drewN _ (below_drewN _ (Below.refl _ _))⟩
      · have Q := Lib.hid (eq_done ht (by omega) (by omega))
        clear ht
        go_wp2
        go_ret
        exact ⟨by rw [Q.out]; rfl, below_drewN _ (Below.refl _ _)⟩
  · have Q := Lib.hid (eq_len (l := l) (l' := l') (by omega))
    have q1 : ((n : Int) != (n' : Int)) = true := by simp; omega
    clear h h'
    go_enter Tryd.func48, Tryd.ntmps48
    go_wp2
    go_ret
    exact ⟨by rw [Q.out]; rfl, Below.refl _ _⟩
end Go.Proofs.YtlkgpajpblhkeaaDoor

/- TxnSame -/
namespace Go.Proofs.YtlkgpajpblhkeaaDoor

open Go.RowKit

/-- Whether two transactions in memory are alike. -/
noncomputable def sameM (x y : IdN) (rs rs' : List RdM) (ws ws' : List WrM) : Bool := eqB x y && (eqB rs rs' && eqB ws ws')
theorem sameM_self (x : IdN) (rs : List RdM) (ws : List WrM) : sameM x x rs rs ws ws = true := by unfold sameM; rw [eqB_self, eqB_self, eqB_self]; rfl
theorem id_cases (s q s' q' : Int) : (eqB (s, q) (s', q') = true ∧ (s == s') = true ∧ (q == q') = true) ∨ (eqB (s, q) (s', q') = false ∧ (s == s') = false) ∨ (eqB (s, q) (s', q') = false ∧ (s == s') = true ∧ (q == q') = false) := by
  by_cases h1 : s = s'
  · by_cases h2 : q = q'
    · exact .inl ⟨eqB_yes (by rw [h1, h2]), by simpa using h1, by simpa using h2⟩
    · exact .inr (.inr ⟨eqB_no (fun e => h2 (by injection e)), by simpa using h1, by simpa using h2⟩)
  · exact .inr (.inl ⟨eqB_no (fun e => h1 (by injection e)), by simpa using h1⟩)

set_option maxHeartbeats 1000000 in
theorem tSame_any (s q : Int) (a : Option Addr) (n c : Nat) (b : Option Addr) (m d : Nat) (rs : List RdM) (ws : List WrM) (s' q' : Int) (a' : Option Addr) (n' c' : Nat) (b' : Option Addr) (m' d' : Nat) (rs' : List RdM) (ws' : List WrM) (w : World)
    (h : TxAt w a n b m rs ws) (h' : TxAt w a' n' b' m' rs' ws') (hn : n ≤ 1000000) (hm : m ≤ 1000000) :
    Calls Tryd.prog 16 #[.agg (txV s q a n c b m d), .agg (txV s' q' a' n' c' b' m' d')] w (Says w (sameM (s, q) (s', q') rs rs' ws ws')) := by
  have H0 := Lib.hid (((Boxs.start w).more (txV s q a n c b m d) 27).more (txV s' q' a' n' c' b' m' d') 27)
  have hs : (w.alloc (.cells (txV s q a n c b m d) 27)).heap.size = w.heap.size + 1 := by simp
  rw [hs] at H0
  have c1 := eqR_any a a' n n' c c' _ _ rs rs' _ (h.later H0.out.bel).rds (h'.later H0.out.bel).rds hn
  have HT := Lib.hid h
  have HT' := Lib.hid h'
  have c2 := fun W (hW : Below w.heap.size w W) => eqW_any b b' m m' d d' _ _ ws ws' W (HT.out.later hW).wrs (HT'.out.later hW).wrs hm
  obtain ⟨x0, x1, x2, x3⟩ := (H0.out.get 1 _ _ _ rfl).four
  obtain ⟨y0, y1, y2, y3⟩ := (H0.out.get 0 _ _ _ rfl).four
  clear h h'
  unfold sameM
  rcases id_cases s q s' q' with ⟨e, q1, q2⟩ | ⟨e, q1⟩ | ⟨e, q1, q2⟩
  · rw [e]
    cases hR : eqB rs rs'
    · rw [hR] at c1
      clear hR c2
      go_enter Tryd.func16, Tryd.ntmps16
      go_wp2_with (go_at_call 47; ((with_reducible refine c1.mono ?_); rintro e w1 ⟨rfl, hb1⟩; have H1 := Lib.hid (H0.out.below hb1)))
      go_ret
      exact ⟨rfl, H1.out.bel⟩
    · rw [hR] at c1
      clear hR
      go_enter Tryd.func16, Tryd.ntmps16
      go_wp2_with (first | (go_at_call 47; ((with_reducible refine c1.mono ?_); rintro e w1 ⟨rfl, hb1⟩; have H1 := Lib.hid (H0.out.below hb1); (clear x0 x1 x2 x3 y0 y1 y2 y3); obtain ⟨x0, x1, x2, x3⟩ := (H1.out.get 1 _ _ _ rfl).four; obtain ⟨y0, y1, y2, y3⟩ := (H1.out.get 0 _ _ _ rfl).four)) | (go_at_call 48; ((with_reducible refine (c2 _ H1.out.bel).mono ?_); rintro e w2 ⟨rfl, hb2⟩; have H2 := Lib.hid (H1.out.below hb2))))
      go_ret
      exact ⟨rfl, H2.out.bel⟩
  · rw [e]
    clear c1 c2
    go_enter Tryd.func16, Tryd.ntmps16
    go_wp2
    go_ret
    exact ⟨rfl, H0.out.bel⟩
  · rw [e]
    clear c1 c2
    go_enter Tryd.func16, Tryd.ntmps16
    go_wp2
    go_ret
    exact ⟨rfl, H0.out.bel⟩

set_option maxHeartbeats 1000000 in
theorem awake8_any (w : World) : Calls Tryd.prog 8 #[] w (Says w true) := by
  have cI := tId_any 1 1 w
  have eI : idB (1, 1) = true := by decide
  rw [eI] at cI
  have cS := fun W => tSame_any 0 0 none 0 0 none 0 0 [] [] 0 0 none 0 0 none 0 0 [] [] W TxAt.nil TxAt.nil (by omega) (by omega)
  rw [sameM_self] at cS
  go_enter Tryd.func8, Tryd.ntmps8
  go_wp2_with (first | (go_at_call 12; ((with_reducible refine cI.mono ?_); rintro e w1 ⟨rfl, hb1⟩)) | (go_at_call 16; ((with_reducible refine (cS _).mono ?_); rintro e w2 ⟨rfl, hb2⟩)))
  go_ret
  exact ⟨rfl, hb1.trans (hb2.mono hb1.size)⟩
end Go.Proofs.YtlkgpajpblhkeaaDoor

/- TxnFew -/
namespace Go.Proofs.YtlkgpajpblhkeaaDoor

open Go.RowKit

set_option maxHeartbeats 1000000 in
theorem rSame_any (s q : Int) (a : Option Addr) (n c : Nat) (b : Option Addr) (m d : Nat) (rs : List RdM) (ws : List WrM) (s' q' : Int) (a' : Option Addr) (n' c' : Nat) (b' : Option Addr) (m' d' : Nat) (rs' : List RdM) (ws' : List WrM) (w : World)
    (h : TxAt w a n b m rs ws) (h' : TxAt w a' n' b' m' rs' ws') (hn : n ≤ 1000000) (hm : m ≤ 1000000) :
    Calls Tryd.prog 17 #[.agg (txV s q a n c b m d), .agg (txV s' q' a' n' c' b' m' d')] w (Says w (sameM (s, q) (s', q') rs rs' ws ws')) := by
  have H0 := Lib.hid (((Boxs.start w).more (txV s q a n c b m d) 27).more (txV s' q' a' n' c' b' m' d') 27)
  have hs : (w.alloc (.cells (txV s q a n c b m d) 27)).heap.size = w.heap.size + 1 := by simp
  rw [hs] at H0
  have HT := Lib.hid h
  have HT' := Lib.hid h'
  have hl := h.lenR
  have hl' := h'.lenR
  have hk := h.lenW
  have hk' := h'.lenW
  obtain ⟨x0, x1, x2, x3⟩ := (H0.out.get 1 _ _ _ rfl).four
  obtain ⟨y0, y1, y2, y3⟩ := (H0.out.get 0 _ _ _ rfl).four
  clear h h' hs
  unfold sameM
  rcases id_cases s q s' q' with ⟨e, q1, q2⟩ | ⟨e, q1⟩ | ⟨e, q1, q2⟩
  · rw [e, Bool.true_and]
    clear e
    by_cases hnn : n = n'
    · subst hnn
      by_cases hmm : m = m'
      · subst hmm
        go_enter Tryd.func17, Tryd.ntmps17
        go_wp2
        go_loopw [5] (fun i wr => ∃ k : Nat, k ≤ n ∧ i = .int .i64 k ∧ rs.take k = rs'.take k ∧ Boxs w wr [(w.heap.size + 1, txV s' q' a' n c' b' m d', 27), (w.heap.size, txV s q a n c b m d, 27)]) (fun i _ => n - (intOf i).toNat)
        case atStart => exact ⟨0, Nat.zero_le _, rfl, rfl, H0.out⟩
        case round =>
          obtain ⟨k, hk3, rfl, ht, hX⟩ := hrel
          have HX := Lib.hid hX
          clear hX H0 x0 x1 x2 x3 y0 y1 y2 y3
          obtain ⟨x0, x1, x2, x3⟩ := (HX.out.get 1 _ _ _ rfl).four
          obtain ⟨y0, y1, y2, y3⟩ := (HX.out.get 0 _ _ _ rfl).four
          by_cases hlt : k < n
          · have hk1 : k < rs.length := by omega
            have hk2 : k < rs'.length := by omega
            have HG : rs[k] = rs'[k] → Hid (rs.take (k + 1) = rs'.take (k + 1)) := fun e => eq_step ht hk1 hk2 e
            have HN : ¬ rs[k] = rs'[k] → Hid (eqB rs rs' = false) := fun e => eq_bad hk1 hk2 e
            obtain ⟨g, off, rfl, _, z0, z1⟩ := (HT.out.later HX.out.bel).rds.at_ (i := k) hk1
            obtain ⟨g', off', rfl, _, u0, u1⟩ := (HT'.out.later HX.out.bel).rds.at_ (i := k) hk2
            clear ht
            generalize rs[k] = x at *
            generalize rs'[k] = y at *
            have i1 : (k : Int) < (n : Int) := by omega
            rcases rd_cases x y with rfl | ⟨hne, p1⟩ | ⟨hne, p1, p2⟩
            · have Q := HG rfl
              clear HG HN
              go_upto_region 6 with (fail)
              go_quiet (fail)
              go_wp2
              go_roundw
              case rel => exact ⟨k + 1, by omega, by go_num, Q.out, HX.out.drewN _⟩
              case measure => simp [intOf]; omega
            · have Q := HN hne
              clear HG HN
              go_upto_region 6 with (fail)
              go_quiet (fail)
              go_wp2
              go_ret
              exact ⟨by rw [Q.out]; rfl, (HX.out.drewN _).bel⟩
            · have Q := HN hne
              clear HG HN
              go_upto_region 6 with (fail)
              go_quiet (fail)
              go_wp2
              go_ret
              exact ⟨by rw [Q.out]; rfl, (HX.out.drewN _).bel⟩
          · have Q := Lib.hid (eq_done ht (by omega) (by omega))
            have QR := Q
            clear ht Q
            go_wp2
            go_loopw [6] (fun i wr => ∃ k : Nat, k ≤ m ∧ i = .int .i64 k ∧ ws.take k = ws'.take k ∧ Boxs w wr [(w.heap.size + 1, txV s' q' a' n c' b' m d', 27), (w.heap.size, txV s q a n c b m d, 27)]) (fun i _ => m - (intOf i).toNat)
            case atStart => exact ⟨0, Nat.zero_le _, rfl, rfl, HX.out⟩
            case round =>
              obtain ⟨j, hj3, rfl, ht, hX⟩ := hrel
              clear HX x0 x1 x2 x3 y0 y1 y2 y3
              have HX := Lib.hid hX
              clear hX
              obtain ⟨x0, x1, x2, x3⟩ := (HX.out.get 1 _ _ _ rfl).four
              obtain ⟨y0, y1, y2, y3⟩ := (HX.out.get 0 _ _ _ rfl).four
              by_cases hlt : j < m
              · have hk1 : j < ws.length := by omega
                have hk2 : j < ws'.length := by omega
                have HG : ws[j] = ws'[j] → Hid (ws.take (j + 1) = ws'.take (j + 1)) := fun e => eq_step ht hk1 hk2 e
                have HN : ¬ ws[j] = ws'[j] → Hid (eqB ws ws' = false) := fun e => eq_bad hk1 hk2 e
                obtain ⟨g, off, rfl, _, z0, z1, z2, z3⟩ := (HT.out.later HX.out.bel).wrs.at_ (i := j) hk1
                obtain ⟨g', off', rfl, _, u0, u1, u2, u3⟩ := (HT'.out.later HX.out.bel).wrs.at_ (i := j) hk2
                clear ht
                generalize ws[j] = x at *
                generalize ws'[j] = y at *
                have i1 : (j : Int) < (m : Int) := by omega
                rcases wr_cases x y with rfl | ⟨hne, p1⟩ | ⟨hne, p1, p2⟩ | ⟨hne, p1, p2, p3⟩ | ⟨hne, p1, p2, p3, p4⟩
                · have Q := HG rfl
                  clear HG HN
                  go_upto_region 11 with (fail)
                  go_quiet (fail)
                  go_wp2
                  go_roundw
                  case rel => exact ⟨j + 1, by omega, by go_num, Q.out, HX.out.drewN _⟩
                  case measure => simp [intOf]; omega
                · have Q := HN hne
                  clear HG HN
                  go_upto_region 11 with (fail)
                  go_quiet (fail)
                  go_wp2
                  go_ret
                  exact ⟨by rw [QR.out, Q.out]; rfl, (HX.out.drewN _).bel⟩
                · have Q := HN hne
                  clear HG HN
                  go_upto_region 11 with (fail)
                  go_quiet (fail)
                  go_wp2
                  go_ret
                  exact ⟨by rw [QR.out, Q.out]; rfl, (HX.out.drewN _).bel⟩
                · have Q := HN hne
                  clear HG HN
                  go_upto_region 11 with (fail)
                  go_quiet (fail)
                  go_wp2
                  go_ret
                  exact ⟨by rw [QR.out, Q.out]; rfl, (HX.out.drewN _).bel⟩
                · have Q := HN hne
                  clear HG HN
                  go_upto_region 11 with (fail)
                  go_quiet (fail)
                  go_wp2
                  go_ret
                  exact ⟨by rw [QR.out, Q.out]; rfl, (HX.out.drewN _).bel⟩
              · have Q := Lib.hid (eq_done ht (by omega) (by omega))
                clear ht
                go_wp2
                go_ret
                exact ⟨by rw [QR.out, Q.out]; rfl, HX.out.bel⟩
      · have Q := Lib.hid (eq_len (l := ws) (l' := ws') (by omega))
        have p1 : ((m : Int) != (m' : Int)) = true := by simp; omega
        rw [Q.out, Bool.and_false]
        go_enter Tryd.func17, Tryd.ntmps17
        go_wp2
        go_ret
        exact ⟨rfl, H0.out.bel⟩
    · have Q := Lib.hid (eq_len (l := rs) (l' := rs') (by omega))
      have p1 : ((n : Int) != (n' : Int)) = true := by simp; omega
      rw [Q.out, Bool.false_and]
      go_enter Tryd.func17, Tryd.ntmps17
      go_wp2
      go_ret
      exact ⟨rfl, H0.out.bel⟩
  · rw [e]
    go_enter Tryd.func17, Tryd.ntmps17
    go_wp2
    go_ret
    exact ⟨rfl, H0.out.bel⟩
  · rw [e]
    go_enter Tryd.func17, Tryd.ntmps17
    go_wp2
    go_ret
    exact ⟨rfl, H0.out.bel⟩

/-- A transaction of a size that is looked at. -/
def fewR (x : RdM) : Bool := decide (x.1.size ≤ 1000)
def fewW (x : WrM) : Bool := decide (x.key.size ≤ 1000) && decide (x.t.size ≤ 1000)
def fewT (rs : List RdM) (ws : List WrM) : Bool := (decide (rs.length ≤ 12) && decide (ws.length ≤ 12)) && (rs.all fewR && ws.all fewW)
theorem fewT_len {rs : List RdM} {ws : List WrM} (h : fewT rs ws = true) : rs.length ≤ 12 ∧ ws.length ≤ 12 := by
  unfold fewT at h
  rw [Bool.and_eq_true, Bool.and_eq_true] at h
  exact ⟨of_decide_eq_true h.1.1, of_decide_eq_true h.1.2⟩

set_option maxHeartbeats 1000000 in
theorem rFewT_any (s q : Int) (a : Option Addr) (n c : Nat) (b : Option Addr) (m d : Nat) (rs : List RdM) (ws : List WrM) (w : World) (h : TxAt w a n b m rs ws) :
    Calls Tryd.prog 9 #[.agg (txV s q a n c b m d)] w (Says w (fewT rs ws)) := by
  have H0 := Lib.hid ((Boxs.start w).more (txV s q a n c b m d) 27)
  have HT := Lib.hid (h.later H0.out.bel)
  have hl := h.lenR
  have hk := h.lenW
  obtain ⟨x0, x1, x2, x3⟩ := (H0.out.get 0 _ _ _ rfl).four
  clear h
  unfold fewT
  rw [hl, hk]
  by_cases hn : n ≤ 12
  · have d1 : decide ((12 : Int) < (n : Int)) = false := by simp; omega
    by_cases hm : m ≤ 12
    · have d2 : decide ((12 : Int) < (m : Int)) = false := by simp; omega
      rw [decide_eq_true hn, decide_eq_true hm, Bool.true_and, Bool.true_and]
      go_enter Tryd.func9, Tryd.ntmps9
      go_wp2
      go_loop [3] (fun i => ∃ k : Nat, k ≤ n ∧ i = .int .i64 k ∧ (rs.take k).all fewR = true) (fun i => n - (intOf i).toNat)
      case atStart => exact ⟨0, Nat.zero_le _, rfl, rfl⟩
      case round =>
        obtain ⟨k, hk3, rfl, ht⟩ := hrel
        by_cases hlt : k < n
        · have hk1 : k < rs.length := by omega
          have hbad := fun e => Lib.hid (all_bad fewR rs k hk1 e)
          have hgood := fun e => Lib.hid (all_next fewR rs k hk1 ht e)
          obtain ⟨g, off, rfl, _, z0, z1⟩ := HT.out.rds.at_ (i := k) hk1
          clear ht
          generalize rs[k] = x at *
          obtain ⟨xk, xv⟩ := x
          by_cases hz : xk.size ≤ 1000
          · have p1 : decide ((1000 : Int) < (xk.size : Int)) = false := by simp; omega
            have Q := hgood (decide_eq_true hz)
            clear hbad hgood
            go_wp2
            go_round
            case rel => exact ⟨k + 1, by omega, by go_num, Q.out⟩
            case measure => simp [intOf]; omega
          · have p1 : decide ((1000 : Int) < (xk.size : Int)) = true := by simp; omega
            have Q := hbad (decide_eq_false hz)
            clear hbad hgood
            go_wp2
            go_ret
            exact ⟨by rw [Q.out]; rfl, H0.out.bel⟩
        · have Q := Lib.hid (all_done fewR rs k (by omega) ht)
          have QR := Q
          clear ht Q
          go_wp2
          go_loop [4] (fun i => ∃ k : Nat, k ≤ m ∧ i = .int .i64 k ∧ (ws.take k).all fewW = true) (fun i => m - (intOf i).toNat)
          case atStart => exact ⟨0, Nat.zero_le _, rfl, rfl⟩
          case round =>
            obtain ⟨j, hj3, rfl, ht⟩ := hrel
            by_cases hlt : j < m
            · have hk1 : j < ws.length := by omega
              have hbad := fun e => Lib.hid (all_bad fewW ws j hk1 e)
              have hgood := fun e => Lib.hid (all_next fewW ws j hk1 ht e)
              obtain ⟨g, off, rfl, _, z0, z1, z2, z3⟩ := HT.out.wrs.at_ (i := j) hk1
              clear ht
              generalize ws[j] = x at *
              obtain ⟨xk, xa, xb, xt⟩ := x
              by_cases hz : xk.size ≤ 1000
              · have p1 : decide ((1000 : Int) < (xk.size : Int)) = false := by simp; omega
                by_cases hy : xt.size ≤ 1000
                · have p2 : decide ((1000 : Int) < (xt.size : Int)) = false := by simp; omega
                  have Q := hgood (by unfold fewW; rw [decide_eq_true hz, decide_eq_true hy]; rfl)
                  clear hbad hgood
                  go_wp2
                  go_round
                  case rel => exact ⟨j + 1, by omega, by go_num, Q.out⟩
                  case measure => simp [intOf]; omega
                · have p2 : decide ((1000 : Int) < (xt.size : Int)) = true := by simp; omega
                  have Q := hbad (by unfold fewW; rw [decide_eq_false hy, Bool.and_false])
                  clear hbad hgood
                  go_wp2
                  go_ret
                  exact ⟨by rw [QR.out, Q.out]; rfl, H0.out.bel⟩
              · have p1 : decide ((1000 : Int) < (xk.size : Int)) = true := by simp; omega
                have Q := hbad (by unfold fewW; rw [decide_eq_false hz, Bool.false_and])
                clear hbad hgood
                go_wp2
                go_ret
                exact ⟨by rw [QR.out, Q.out]; rfl, H0.out.bel⟩
            · have Q := Lib.hid (all_done fewW ws j (by omega) ht)
              clear ht
              go_wp2
              go_ret
              exact ⟨by rw [QR.out, Q.out]; rfl, H0.out.bel⟩
    · have d2 : decide ((12 : Int) < (m : Int)) = true := by simp; omega
      rw [decide_eq_true hn, decide_eq_false hm]
      go_enter Tryd.func9, Tryd.ntmps9
      go_wp2
      go_ret
      exact ⟨rfl, H0.out.bel⟩
  · have d1 : decide ((12 : Int) < (n : Int)) = true := by simp; omega
    rw [decide_eq_false hn]
    go_enter Tryd.func9, Tryd.ntmps9
    go_wp2
    go_ret
    exact ⟨rfl, H0.out.bel⟩
end Go.Proofs.YtlkgpajpblhkeaaDoor
