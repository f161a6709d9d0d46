/- Contracts of the document's Same and Few of transactions. Conditions: the lists lie in memory, and are no longer than a million (Same). -/
import Derived.Test.YtlkgpajpblhkeaaDoorTxnSame

namespace Go.Proofs.YtlkgpajpblhkeaaDoor

open Go.RowKit

set_option maxHeartbeats 1000000 in
theorem rSame_any (s q : Int) (a : Option Addr) (n c : Nat) (b : Option Addr) (m d : Nat) (rs : List RdM) (ws : List WrM) (s' q' : Int) (a' : Option Addr) (n' c' : Nat) (b' : Option Addr) (m' d' : Nat) (rs' : List RdM) (ws' : List WrM) (w : World)
    (h : TxAt w a n b m rs ws) (h' : TxAt w a' n' b' m' rs' ws') (hn : n ≤ 1000000) (hm : m ≤ 1000000) :
    Calls Tryd.prog 17 #[.agg (txV s q a n c b m d), .agg (txV s' q' a' n' c' b' m' d')] w (Says w (sameM (s, q) (s', q') rs rs' ws ws')) := by
  have H0 := Lib.hid (((Boxs.start w).more (txV s q a n c b m d) 27).more (txV s' q' a' n' c' b' m' d') 27)
  have hs : (w.alloc (.cells (txV s q a n c b m d) 27)).heap.size = w.heap.size + 1 := by simp
  rw [hs] at H0
  have HT := Lib.hid h
  have HT' := Lib.hid h'
  have hl := h.lenR
  have hl' := h'.lenR
  have hk := h.lenW
  have hk' := h'.lenW
  obtain ⟨x0, x1, x2, x3⟩ := (H0.out.get 1 _ _ _ rfl).four
  obtain ⟨y0, y1, y2, y3⟩ := (H0.out.get 0 _ _ _ rfl).four
  clear h h' hs
  unfold sameM
  rcases id_cases s q s' q' with ⟨e, q1, q2⟩ | ⟨e, q1⟩ | ⟨e, q1, q2⟩
  · rw [e, Bool.true_and]
    clear e
    by_cases hnn : n = n'
    · subst hnn
      by_cases hmm : m = m'
      · subst hmm
        go_enter Tryd.func17, Tryd.ntmps17
        go_wp2
        go_loopw [5] (fun i wr => ∃ k : Nat, k ≤ n ∧ i = .int .i64 k ∧ rs.take k = rs'.take k ∧ Boxs w wr [(w.heap.size + 1, txV s' q' a' n c' b' m d', 27), (w.heap.size, txV s q a n c b m d, 27)]) (fun i _ => n - (intOf i).toNat)
        case atStart => exact ⟨0, Nat.zero_le _, rfl, rfl, H0.out⟩
        case round =>
          obtain ⟨k, hk3, rfl, ht, hX⟩ := hrel
          have HX := Lib.hid hX
          clear hX H0 x0 x1 x2 x3 y0 y1 y2 y3
          obtain ⟨x0, x1, x2, x3⟩ := (HX.out.get 1 _ _ _ rfl).four
          obtain ⟨y0, y1, y2, y3⟩ := (HX.out.get 0 _ _ _ rfl).four
          by_cases hlt : k < n
          · have hk1 : k < rs.length := by omega
            have hk2 : k < rs'.length := by omega
            have HG : rs[k] = rs'[k] → Hid (rs.take (k + 1) = rs'.take (k + 1)) := fun e => eq_step ht hk1 hk2 e
            have HN : ¬ rs[k] = rs'[k] → Hid (eqB rs rs' = false) := fun e => eq_bad hk1 hk2 e
            obtain ⟨g, off, rfl, _, z0, z1⟩ := (HT.out.later HX.out.bel).rds.at_ (i := k) hk1
            obtain ⟨g', off', rfl, _, u0, u1⟩ := (HT'.out.later HX.out.bel).rds.at_ (i := k) hk2
            clear ht
            generalize rs[k] = x at *
            generalize rs'[k] = y at *
            have i1 : (k : Int) < (n : Int) := by omega
            rcases rd_cases x y with rfl | ⟨hne, p1⟩ | ⟨hne, p1, p2⟩
            · have Q := HG rfl
              clear HG HN
              go_upto_region 6 with (fail)
              go_quiet (fail)
              go_wp2
              go_roundw
              case rel => exact ⟨k + 1, by omega, by go_num, Q.out, HX.out.drewN _⟩
              case measure => simp [intOf]; omega
            · have Q := HN hne
              clear HG HN
              go_upto_region 6 with (fail)
              go_quiet (fail)
              go_wp2
              go_ret
              exact ⟨by rw [Q.out]; rfl, (HX.out.drewN _).bel⟩
            · have Q := HN hne
              clear HG HN
              go_upto_region 6 with (fail)
              go_quiet (fail)
              go_wp2
              go_ret
              exact ⟨by rw [Q.out]; rfl, (HX.out.drewN _).bel⟩
          · have Q := Lib.hid (eq_done ht (by omega) (by omega))
            have QR := Q
            clear ht Q
            go_wp2
            go_loopw [6] (fun i wr => ∃ k : Nat, k ≤ m ∧ i = .int .i64 k ∧ ws.take k = ws'.take k ∧ Boxs w wr [(w.heap.size + 1, txV s' q' a' n c' b' m d', 27), (w.heap.size, txV s q a n c b m d, 27)]) (fun i _ => m - (intOf i).toNat)
            case atStart => exact ⟨0, Nat.zero_le _, rfl, rfl, HX.out⟩
            case round =>
              obtain ⟨j, hj3, rfl, ht, hX⟩ := hrel
              clear HX x0 x1 x2 x3 y0 y1 y2 y3
              have HX := Lib.hid hX
              clear hX
              obtain ⟨x0, x1, x2, x3⟩ := (HX.out.get 1 _ _ _ rfl).four
              obtain ⟨y0, y1, y2, y3⟩ := (HX.out.get 0 _ _ _ rfl).four
              by_cases hlt : j < m
              · have hk1 : j < ws.length := by omega
                have hk2 : j < ws'.length := by omega
                have HG : ws[j] = ws'[j] → Hid (ws.take (j + 1) = ws'.take (j + 1)) := fun e => eq_step ht hk1 hk2 e
                have HN : ¬ ws[j] = ws'[j] → Hid (eqB ws ws' = false) := fun e => eq_bad hk1 hk2 e
                obtain ⟨g, off, rfl, _, z0, z1, z2, z3⟩ := (HT.out.later HX.out.bel).wrs.at_ (i := j) hk1
                obtain ⟨g', off', rfl, _, u0, u1, u2, u3⟩ := (HT'.out.later HX.out.bel).wrs.at_ (i := j) hk2
                clear ht
                generalize ws[j] = x at *
                generalize ws'[j] = y at *
                have i1 : (j : Int) < (m : Int) := by omega
                rcases wr_cases x y with rfl | ⟨hne, p1⟩ | ⟨hne, p1, p2⟩ | ⟨hne, p1, p2, p3⟩ | ⟨hne, p1, p2, p3, p4⟩
                · have Q := HG rfl
                  clear HG HN
                  go_upto_region 11 with (fail)
                  go_quiet (fail)
                  go_wp2
                  go_roundw
                  case rel => exact ⟨j + 1, by omega, by go_num, Q.out, HX.out.drewN _⟩
                  case measure => simp [intOf]; omega
                · have Q := HN hne
                  clear HG HN
                  go_upto_region 11 with (fail)
                  go_quiet (fail)
                  go_wp2
                  go_ret
                  exact ⟨by rw [QR.out, Q.out]; rfl, (HX.out.drewN _).bel⟩
                · have Q := HN hne
                  clear HG HN
                  go_upto_region 11 with (fail)
                  go_quiet (fail)
                  go_wp2
                  go_ret
                  exact ⟨by rw [QR.out, Q.out]; rfl, (HX.out.drewN _).bel⟩
                · have Q := HN hne
                  clear HG HN
                  go_upto_region 11 with (fail)
                  go_quiet (fail)
                  go_wp2
                  go_ret
                  exact ⟨by rw [QR.out, Q.out]; rfl, (HX.out.drewN _).bel⟩
                · have Q := HN hne
                  clear HG HN
                  go_upto_region 11 with (fail)
                  go_quiet (fail)
                  go_wp2
                  go_ret
                  exact ⟨by rw [QR.out, Q.out]; rfl, (HX.out.drewN _).bel⟩
              · have Q := Lib.hid (eq_done ht (by omega) (by omega))
                clear ht
                go_wp2
                go_ret
                exact ⟨by rw [QR.out, Q.out]; rfl, HX.out.bel⟩
      · have Q := Lib.hid (eq_len (l := ws) (l' := ws') (by omega))
        have p1 : ((m : Int) != (m' : Int)) = true := by simp; omega
        rw [Q.out, Bool.and_false]
        go_enter Tryd.func17, Tryd.ntmps17
        go_wp2
        go_ret
        exact ⟨rfl, H0.out.bel⟩
    · have Q := Lib.hid (eq_len (l := rs) (l' := rs') (by omega))
      have p1 : ((n : Int) != (n' : Int)) = true := by simp; omega
      rw [Q.out, Bool.false_and]
      go_enter Tryd.func17, Tryd.ntmps17
      go_wp2
      go_ret
      exact ⟨rfl, H0.out.bel⟩
  · rw [e]
    go_enter Tryd.func17, Tryd.ntmps17
    go_wp2
    go_ret
    exact ⟨rfl, H0.out.bel⟩
  · rw [e]
    go_enter Tryd.func17, Tryd.ntmps17
    go_wp2
    go_ret
    exact ⟨rfl, H0.out.bel⟩

/-- A transaction of a size that is looked at. -/
def fewR (x : RdM) : Bool := decide (x.1.size ≤ 1000)
def fewW (x : WrM) : Bool := decide (x.key.size ≤ 1000) && decide (x.t.size ≤ 1000)
def fewT (rs : List RdM) (ws : List WrM) : Bool := (decide (rs.length ≤ 12) && decide (ws.length ≤ 12)) && (rs.all fewR && ws.all fewW)
theorem fewT_len {rs : List RdM} {ws : List WrM} (h : fewT rs ws = true) : rs.length ≤ 12 ∧ ws.length ≤ 12 := by
  unfold fewT at h
  rw [Bool.and_eq_true, Bool.and_eq_true] at h
  exact ⟨of_decide_eq_true h.1.1, of_decide_eq_true h.1.2⟩

set_option maxHeartbeats 1000000 in
theorem rFewT_any (s q : Int) (a : Option Addr) (n c : Nat) (b : Option Addr) (m d : Nat) (rs : List RdM) (ws : List WrM) (w : World) (h : TxAt w a n b m rs ws) :
    Calls Tryd.prog 9 #[.agg (txV s q a n c b m d)] w (Says w (fewT rs ws)) := by
  have H0 := Lib.hid ((Boxs.start w).more (txV s q a n c b m d) 27)
  have HT := Lib.hid (h.later H0.out.bel)
  have hl := h.lenR
  have hk := h.lenW
  obtain ⟨x0, x1, x2, x3⟩ := (H0.out.get 0 _ _ _ rfl).four
  clear h
  unfold fewT
  rw [hl, hk]
  by_cases hn : n ≤ 12
  · have d1 : decide ((12 : Int) < (n : Int)) = false := by simp; omega
    by_cases hm : m ≤ 12
    · have d2 : decide ((12 : Int) < (m : Int)) = false := by simp; omega
      rw [decide_eq_true hn, decide_eq_true hm, Bool.true_and, Bool.true_and]
      go_enter Tryd.func9, Tryd.ntmps9
      go_wp2
      go_loop [3] (fun i => ∃ k : Nat, k ≤ n ∧ i = .int .i64 k ∧ (rs.take k).all fewR = true) (fun i => n - (intOf i).toNat)
      case atStart => exact ⟨0, Nat.zero_le _, rfl, rfl⟩
      case round =>
        obtain ⟨k, hk3, rfl, ht⟩ := hrel
        by_cases hlt : k < n
        · have hk1 : k < rs.length := by omega
          have hbad := fun e => Lib.hid (all_bad fewR rs k hk1 e)
          have hgood := fun e => Lib.hid (all_next fewR rs k hk1 ht e)
          obtain ⟨g, off, rfl, _, z0, z1⟩ := HT.out.rds.at_ (i := k) hk1
          clear ht
          generalize rs[k] = x at *
          obtain ⟨xk, xv⟩ := x
          by_cases hz : xk.size ≤ 1000
          · have p1 : decide ((1000 : Int) < (xk.size : Int)) = false := by simp; omega
            have Q := hgood (decide_eq_true hz)
            clear hbad hgood
            go_wp2
            go_round
            case rel => exact ⟨k + 1, by omega, by go_num, Q.out⟩
            case measure => simp [intOf]; omega
          · have p1 : decide ((1000 : Int) < (xk.size : Int)) = true := by simp; omega
            have Q := hbad (decide_eq_false hz)
            clear hbad hgood
            go_wp2
            go_ret
            exact ⟨by rw [Q.out]; rfl, H0.out.bel⟩
        · have Q := Lib.hid (all_done fewR rs k (by omega) ht)
          have QR := Q
          clear ht Q
          go_wp2
          go_loop [4] (fun i => ∃ k : Nat, k ≤ m ∧ i = .int .i64 k ∧ (ws.take k).all fewW = true) (fun i => m - (intOf i).toNat)
          case atStart => exact ⟨0, Nat.zero_le _, rfl, rfl⟩
          case round =>
            obtain ⟨j, hj3, rfl, ht⟩ := hrel
            by_cases hlt : j < m
            · have hk1 : j < ws.length := by omega
              have hbad := fun e => Lib.hid (all_bad fewW ws j hk1 e)
              have hgood := fun e => Lib.hid (all_next fewW ws j hk1 ht e)
              obtain ⟨g, off, rfl, _, z0, z1, z2, z3⟩ := HT.out.wrs.at_ (i := j) hk1
              clear ht
              generalize ws[j] = x at *
              obtain ⟨xk, xa, xb, xt⟩ := x
              by_cases hz : xk.size ≤ 1000
              · have p1 : decide ((1000 : Int) < (xk.size : Int)) = false := by simp; omega
                by_cases hy : xt.size ≤ 1000
                · have p2 : decide ((1000 : Int) < (xt.size : Int)) = false := by simp; omega
                  have Q := hgood (by unfold fewW; rw [decide_eq_true hz, decide_eq_true hy]; rfl)
                  clear hbad hgood
                  go_wp2
                  go_round
                  case rel => exact ⟨j + 1, by omega, by go_num, Q.out⟩
                  case measure => simp [intOf]; omega
                · have p2 : decide ((1000 : Int) < (xt.size : Int)) = true := by simp; omega
                  have Q := hbad (by unfold fewW; rw [decide_eq_false hy, Bool.and_false])
                  clear hbad hgood
                  go_wp2
                  go_ret
                  exact ⟨by rw [QR.out, Q.out]; rfl, H0.out.bel⟩
              · have p1 : decide ((1000 : Int) < (xk.size : Int)) = true := by simp; omega
                have Q := hbad (by unfold fewW; rw [decide_eq_false hz, Bool.false_and])
                clear hbad hgood
                go_wp2
                go_ret
                exact ⟨by rw [QR.out, Q.out]; rfl, H0.out.bel⟩
            · have Q := Lib.hid (all_done fewW ws j (by omega) ht)
              clear ht
              go_wp2
              go_ret
              exact ⟨by rw [QR.out, Q.out]; rfl, H0.out.bel⟩
    · have d2 : decide ((12 : Int) < (m : Int)) = true := by simp; omega
      rw [decide_eq_true hn, decide_eq_false hm]
      go_enter Tryd.func9, Tryd.ntmps9
      go_wp2
      go_ret
      exact ⟨rfl, H0.out.bel⟩
  · have d1 : decide ((12 : Int) < (n : Int)) = true := by simp; omega
    rw [decide_eq_false hn]
    go_enter Tryd.func9, Tryd.ntmps9
    go_wp2
    go_ret
    exact ⟨rfl, H0.out.bel⟩
end Go.Proofs.YtlkgpajpblhkeaaDoor
