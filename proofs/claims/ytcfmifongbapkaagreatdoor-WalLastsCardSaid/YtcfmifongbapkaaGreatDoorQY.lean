/- Contract of the document's own Same of bytes, for any two rows of bytes. Conditions: what it is handed lies in memory. Contracts of wal.Same and of the document's. Conditions: the records' lists lie in memory, and are no longer than a million. -/
import Derived.Test.YtcfmifongbapkaaGreatDoorQC
import Derived.Test.YtcfmifongbapkaaGreatDoorQO
import Derived.Test.YtcfmifongbapkaaGreatDoorQV
import Derived.Laws.ResultCell
/- CodeSame -/
namespace Go.Proofs.YtcfmifongbapkaaGreatDoor

open Go.RowKit

set_option linter.unusedVariables false

set_option maxHeartbeats 1000000 in
theorem same_any (a a' : Option Addr) (n n' c c' B B' : Nat) (l l' : List UInt8) (w : World) (h : BAt w B a n l) (h' : BAt w B' a' n' l') (hn : n ≤ maxLen) (hn' : n' ≤ maxLen) :
    Calls Tryz.prog 19 #[.slice a n c, .slice a' n' c'] w (Reads1 w (.bool (decide (l = l')))) := by
  have e1 := h.len
  have e2 := h'.len
  unfold maxLen at hn hn'
  by_cases hnn : n = n'
  · subst hnn
    go_enter Tryz.func19, Tryz.ntmps19
    go_wp2
    go_loopw [5] (fun i wr => ∃ (k q : Nat), k ≤ n ∧ i = .int .i64 k ∧ wr = w.drewN q ∧ l.take k = l'.take k) (fun i _ => n - (intOf i).toNat)
    case atStart => exact ⟨0, 0, by omega, rfl, rfl, rfl⟩
    case round =>
      obtain ⟨k, q, hk, rfl, rfl, ht⟩ := hrel
      by_cases hlt : k < n
      · obtain ⟨b, off, rfl, _, hc⟩ := h.at_ (i := k) (by omega)
        obtain ⟨b', off', rfl, _, hc'⟩ := h'.at_ (i := k) (by omega)
        have hk1 : k < l.length := by omega
        have hk2 : k < l'.length := by omega
        by_cases he : l[k] = l'[k]
        · have HT : Hid (l.take (k + 1) = l'.take (k + 1)) := by unfold Hid; rw [List.take_succ_eq_append_getElem hk1, List.take_succ_eq_append_getElem hk2, ht, he]
          rw [← he] at hc'
          generalize l[k].toNat = v at *
          clear h h' e1 e2 ht he
          go_upto_region 6 with (fail)
          go_quiet (fail)
          go_wp2
          go_roundw
          case rel => exact ⟨k + 1, _, by omega, by go_num, rfl, HT.out⟩
          case measure => simp [intOf]; omega
        · have Q : Hid (decide (l = l') = false) := decide_eq_false (fun e => he (by subst e; rfl))
          have qn : (((l[k].toNat : Nat) : Int) != ((l'[k].toNat : Nat) : Int)) = true := by
            have h1 : l[k].toNat ≠ l'[k].toNat := fun e => he (UInt8.toNat_inj.1 e)
            simp only [bne_iff_ne, ne_eq]; omega
          generalize l[k].toNat = v at *
          generalize l'[k].toNat = v' at *
          clear h h' e1 e2 ht he
          go_upto_region 6 with (fail)
          go_quiet (fail)
          go_wp2
          go_ret
          exact ⟨by rw [Q.out]; rfl, q + nq, by rw [World.drewN_drewN]⟩
      · have Q : Hid (decide (l = l') = true) := by
          unfold Hid
          rw [List.take_of_length_le (by omega), List.take_of_length_le (by omega)] at ht
          exact decide_eq_true ht
        clear e1 e2 h h' ht
        go_wp2
        go_ret
        exact ⟨by rw [Q.out]; rfl, q, rfl⟩
  · have Q : Hid (decide (l = l') = false) := decide_eq_false (fun e => hnn (by rw [← e1, ← e2, e]))
    have qn : ((n : Int) != (n' : Int)) = true := by simp; omega
    clear h h' e1 e2
    go_enter Tryz.func19, Tryz.ntmps19
    go_wp2
    go_ret
    exact ⟨by rw [Q.out]; rfl, 0, rfl⟩
end Go.Proofs.YtcfmifongbapkaaGreatDoor

/- WalSame -/
namespace Go.Proofs.YtcfmifongbapkaaGreatDoor

open Go.RowKit

set_option linter.unusedVariables false
set_option linter.unusedSimpArgs false

set_option maxRecDepth 100000 in
set_option maxHeartbeats 4000000 in
theorem wSame_any (x y : RcM) (L L' : RcL) (w : World) (h : RcAt w x L) (h' : RcAt w y L') (hx : RcF x) (hy : RcF y) :
    Calls Tryz.prog 17 #[.agg (rcV x), .agg (rcV y)] w (Says w (sameR x y L L')) := by
  have H0 := Lib.hid (((Boxs.start w).more (rcV x) 36).more (rcV y) 36)
  have hs : (w.alloc (.cells (rcV x) 36)).heap.size = w.heap.size + 1 := by simp
  rw [hs] at H0
  clear hs
  have cS : ∀ W, Below w.heap.size w W → Calls Tryz.prog 54 #[.agg (cmV x.cm), .agg (cmV y.cm)] W (Says W (sameC x.cm y.cm L.rs L'.rs L.ws L'.ws)) := fun W hW => kSame_any x.cm y.cm L.rs L'.rs L.ws L'.ws W (h.cm.later hW) (h'.cm.later hW) hx.n hx.m
  have cE : ∀ W, Below w.heap.size w W → Calls Tryz.prog 55 #[.slice x.da x.dn x.dc, .slice y.da y.dn y.dc] W (Says W (eqB L.dl L'.dl)) := fun W hW => (bequal_any x.da y.da x.dn y.dn x.dc y.dc w.heap.size w.heap.size L.dl L'.dl W (h.da.below hW (Nat.le_refl _)) (h'.da.below hW (Nat.le_refl _))).mono fun _ _ h => ⟨h.1, h.2 ▸ Below.refl _ _⟩
  clear h h' hx hy
  unfold sameR
  generalize sameC x.cm y.cm L.rs L'.rs L.ws L'.ws = SC at *
  generalize eqB L.dl L'.dl = SD at *
  cases q0 : (x.k == y.k)
  · have x0 := (H0.out.get 1 _ _ _ rfl).cell 0 _ rfl; have x1 := (H0.out.get 1 _ _ _ rfl).cell 1 _ rfl; have x2 := (H0.out.get 1 _ _ _ rfl).cell 2 _ rfl; have x3 := (H0.out.get 1 _ _ _ rfl).cell 3 _ rfl; have x4 := (H0.out.get 1 _ _ _ rfl).cell 4 _ rfl; have x5 := (H0.out.get 1 _ _ _ rfl).cell 5 _ rfl; have x6 := (H0.out.get 1 _ _ _ rfl).cell 6 _ rfl; have x7 := (H0.out.get 1 _ _ _ rfl).cell 7 _ rfl; have x8 := (H0.out.get 1 _ _ _ rfl).cell 8 _ rfl; have x9 := (H0.out.get 1 _ _ _ rfl).cell 9 _ rfl; have x10 := (H0.out.get 1 _ _ _ rfl).cell 10 _ rfl; have x11 := (H0.out.get 1 _ _ _ rfl).cell 11 _ rfl; have x12 := (H0.out.get 1 _ _ _ rfl).cell 12 _ rfl; have x13 := (H0.out.get 1 _ _ _ rfl).cell 13 _ rfl; have x14 := (H0.out.get 1 _ _ _ rfl).cell 14 _ rfl; have y0 := (H0.out.get 0 _ _ _ rfl).cell 0 _ rfl; have y1 := (H0.out.get 0 _ _ _ rfl).cell 1 _ rfl; have y2 := (H0.out.get 0 _ _ _ rfl).cell 2 _ rfl; have y3 := (H0.out.get 0 _ _ _ rfl).cell 3 _ rfl; have y4 := (H0.out.get 0 _ _ _ rfl).cell 4 _ rfl; have y5 := (H0.out.get 0 _ _ _ rfl).cell 5 _ rfl; have y6 := (H0.out.get 0 _ _ _ rfl).cell 6 _ rfl; have y7 := (H0.out.get 0 _ _ _ rfl).cell 7 _ rfl; have y8 := (H0.out.get 0 _ _ _ rfl).cell 8 _ rfl; have y9 := (H0.out.get 0 _ _ _ rfl).cell 9 _ rfl; have y10 := (H0.out.get 0 _ _ _ rfl).cell 10 _ rfl; have y11 := (H0.out.get 0 _ _ _ rfl).cell 11 _ rfl; have y12 := (H0.out.get 0 _ _ _ rfl).cell 12 _ rfl; have y13 := (H0.out.get 0 _ _ _ rfl).cell 13 _ rfl; have y14 := (H0.out.get 0 _ _ _ rfl).cell 14 _ rfl
    clear cS cE
    go_enter Tryz.func17, Tryz.ntmps17
    go_wp2
    go_ret
    exact ⟨by first | rfl | simp [*], H0.out.bel⟩
  rcases id_cases ((x.br : Nat) : Int) x.bn ((y.br : Nat) : Int) y.bn with ⟨e, q1, q2⟩ | ⟨e, q1⟩ | ⟨e, q1, q2⟩
  rotate_left
  · rw [e]
    have x0 := (H0.out.get 1 _ _ _ rfl).cell 0 _ rfl; have x1 := (H0.out.get 1 _ _ _ rfl).cell 1 _ rfl; have x2 := (H0.out.get 1 _ _ _ rfl).cell 2 _ rfl; have x3 := (H0.out.get 1 _ _ _ rfl).cell 3 _ rfl; have x4 := (H0.out.get 1 _ _ _ rfl).cell 4 _ rfl; have x5 := (H0.out.get 1 _ _ _ rfl).cell 5 _ rfl; have x6 := (H0.out.get 1 _ _ _ rfl).cell 6 _ rfl; have x7 := (H0.out.get 1 _ _ _ rfl).cell 7 _ rfl; have x8 := (H0.out.get 1 _ _ _ rfl).cell 8 _ rfl; have x9 := (H0.out.get 1 _ _ _ rfl).cell 9 _ rfl; have x10 := (H0.out.get 1 _ _ _ rfl).cell 10 _ rfl; have x11 := (H0.out.get 1 _ _ _ rfl).cell 11 _ rfl; have x12 := (H0.out.get 1 _ _ _ rfl).cell 12 _ rfl; have x13 := (H0.out.get 1 _ _ _ rfl).cell 13 _ rfl; have x14 := (H0.out.get 1 _ _ _ rfl).cell 14 _ rfl; have y0 := (H0.out.get 0 _ _ _ rfl).cell 0 _ rfl; have y1 := (H0.out.get 0 _ _ _ rfl).cell 1 _ rfl; have y2 := (H0.out.get 0 _ _ _ rfl).cell 2 _ rfl; have y3 := (H0.out.get 0 _ _ _ rfl).cell 3 _ rfl; have y4 := (H0.out.get 0 _ _ _ rfl).cell 4 _ rfl; have y5 := (H0.out.get 0 _ _ _ rfl).cell 5 _ rfl; have y6 := (H0.out.get 0 _ _ _ rfl).cell 6 _ rfl; have y7 := (H0.out.get 0 _ _ _ rfl).cell 7 _ rfl; have y8 := (H0.out.get 0 _ _ _ rfl).cell 8 _ rfl; have y9 := (H0.out.get 0 _ _ _ rfl).cell 9 _ rfl; have y10 := (H0.out.get 0 _ _ _ rfl).cell 10 _ rfl; have y11 := (H0.out.get 0 _ _ _ rfl).cell 11 _ rfl; have y12 := (H0.out.get 0 _ _ _ rfl).cell 12 _ rfl; have y13 := (H0.out.get 0 _ _ _ rfl).cell 13 _ rfl; have y14 := (H0.out.get 0 _ _ _ rfl).cell 14 _ rfl
    clear cS cE
    go_enter Tryz.func17, Tryz.ntmps17
    go_wp2
    go_ret
    exact ⟨by first | rfl | simp [*], H0.out.bel⟩
  · rw [e]
    have x0 := (H0.out.get 1 _ _ _ rfl).cell 0 _ rfl; have x1 := (H0.out.get 1 _ _ _ rfl).cell 1 _ rfl; have x2 := (H0.out.get 1 _ _ _ rfl).cell 2 _ rfl; have x3 := (H0.out.get 1 _ _ _ rfl).cell 3 _ rfl; have x4 := (H0.out.get 1 _ _ _ rfl).cell 4 _ rfl; have x5 := (H0.out.get 1 _ _ _ rfl).cell 5 _ rfl; have x6 := (H0.out.get 1 _ _ _ rfl).cell 6 _ rfl; have x7 := (H0.out.get 1 _ _ _ rfl).cell 7 _ rfl; have x8 := (H0.out.get 1 _ _ _ rfl).cell 8 _ rfl; have x9 := (H0.out.get 1 _ _ _ rfl).cell 9 _ rfl; have x10 := (H0.out.get 1 _ _ _ rfl).cell 10 _ rfl; have x11 := (H0.out.get 1 _ _ _ rfl).cell 11 _ rfl; have x12 := (H0.out.get 1 _ _ _ rfl).cell 12 _ rfl; have x13 := (H0.out.get 1 _ _ _ rfl).cell 13 _ rfl; have x14 := (H0.out.get 1 _ _ _ rfl).cell 14 _ rfl; have y0 := (H0.out.get 0 _ _ _ rfl).cell 0 _ rfl; have y1 := (H0.out.get 0 _ _ _ rfl).cell 1 _ rfl; have y2 := (H0.out.get 0 _ _ _ rfl).cell 2 _ rfl; have y3 := (H0.out.get 0 _ _ _ rfl).cell 3 _ rfl; have y4 := (H0.out.get 0 _ _ _ rfl).cell 4 _ rfl; have y5 := (H0.out.get 0 _ _ _ rfl).cell 5 _ rfl; have y6 := (H0.out.get 0 _ _ _ rfl).cell 6 _ rfl; have y7 := (H0.out.get 0 _ _ _ rfl).cell 7 _ rfl; have y8 := (H0.out.get 0 _ _ _ rfl).cell 8 _ rfl; have y9 := (H0.out.get 0 _ _ _ rfl).cell 9 _ rfl; have y10 := (H0.out.get 0 _ _ _ rfl).cell 10 _ rfl; have y11 := (H0.out.get 0 _ _ _ rfl).cell 11 _ rfl; have y12 := (H0.out.get 0 _ _ _ rfl).cell 12 _ rfl; have y13 := (H0.out.get 0 _ _ _ rfl).cell 13 _ rfl; have y14 := (H0.out.get 0 _ _ _ rfl).cell 14 _ rfl
    clear cS cE
    go_enter Tryz.func17, Tryz.ntmps17
    go_wp2
    go_ret
    exact ⟨by first | rfl | simp [*], H0.out.bel⟩
  rw [e]
  clear e
  cases q3 : (x.sl == y.sl)
  · have x0 := (H0.out.get 1 _ _ _ rfl).cell 0 _ rfl; have x1 := (H0.out.get 1 _ _ _ rfl).cell 1 _ rfl; have x2 := (H0.out.get 1 _ _ _ rfl).cell 2 _ rfl; have x3 := (H0.out.get 1 _ _ _ rfl).cell 3 _ rfl; have x4 := (H0.out.get 1 _ _ _ rfl).cell 4 _ rfl; have x5 := (H0.out.get 1 _ _ _ rfl).cell 5 _ rfl; have x6 := (H0.out.get 1 _ _ _ rfl).cell 6 _ rfl; have x7 := (H0.out.get 1 _ _ _ rfl).cell 7 _ rfl; have x8 := (H0.out.get 1 _ _ _ rfl).cell 8 _ rfl; have x9 := (H0.out.get 1 _ _ _ rfl).cell 9 _ rfl; have x10 := (H0.out.get 1 _ _ _ rfl).cell 10 _ rfl; have x11 := (H0.out.get 1 _ _ _ rfl).cell 11 _ rfl; have x12 := (H0.out.get 1 _ _ _ rfl).cell 12 _ rfl; have x13 := (H0.out.get 1 _ _ _ rfl).cell 13 _ rfl; have x14 := (H0.out.get 1 _ _ _ rfl).cell 14 _ rfl; have y0 := (H0.out.get 0 _ _ _ rfl).cell 0 _ rfl; have y1 := (H0.out.get 0 _ _ _ rfl).cell 1 _ rfl; have y2 := (H0.out.get 0 _ _ _ rfl).cell 2 _ rfl; have y3 := (H0.out.get 0 _ _ _ rfl).cell 3 _ rfl; have y4 := (H0.out.get 0 _ _ _ rfl).cell 4 _ rfl; have y5 := (H0.out.get 0 _ _ _ rfl).cell 5 _ rfl; have y6 := (H0.out.get 0 _ _ _ rfl).cell 6 _ rfl; have y7 := (H0.out.get 0 _ _ _ rfl).cell 7 _ rfl; have y8 := (H0.out.get 0 _ _ _ rfl).cell 8 _ rfl; have y9 := (H0.out.get 0 _ _ _ rfl).cell 9 _ rfl; have y10 := (H0.out.get 0 _ _ _ rfl).cell 10 _ rfl; have y11 := (H0.out.get 0 _ _ _ rfl).cell 11 _ rfl; have y12 := (H0.out.get 0 _ _ _ rfl).cell 12 _ rfl; have y13 := (H0.out.get 0 _ _ _ rfl).cell 13 _ rfl; have y14 := (H0.out.get 0 _ _ _ rfl).cell 14 _ rfl
    clear cS cE
    go_enter Tryz.func17, Tryz.ntmps17
    go_wp2
    go_ret
    exact ⟨by first | rfl | simp [*], H0.out.bel⟩
  cases SC
  · have x0 := (H0.out.get 1 _ _ _ rfl).cell 0 _ rfl; have x1 := (H0.out.get 1 _ _ _ rfl).cell 1 _ rfl; have x2 := (H0.out.get 1 _ _ _ rfl).cell 2 _ rfl; have x3 := (H0.out.get 1 _ _ _ rfl).cell 3 _ rfl; have x4 := (H0.out.get 1 _ _ _ rfl).cell 4 _ rfl; have x5 := (H0.out.get 1 _ _ _ rfl).cell 5 _ rfl; have x6 := (H0.out.get 1 _ _ _ rfl).cell 6 _ rfl; have x7 := (H0.out.get 1 _ _ _ rfl).cell 7 _ rfl; have x8 := (H0.out.get 1 _ _ _ rfl).cell 8 _ rfl; have x9 := (H0.out.get 1 _ _ _ rfl).cell 9 _ rfl; have x10 := (H0.out.get 1 _ _ _ rfl).cell 10 _ rfl; have x11 := (H0.out.get 1 _ _ _ rfl).cell 11 _ rfl; have x12 := (H0.out.get 1 _ _ _ rfl).cell 12 _ rfl; have x13 := (H0.out.get 1 _ _ _ rfl).cell 13 _ rfl; have x14 := (H0.out.get 1 _ _ _ rfl).cell 14 _ rfl; have y0 := (H0.out.get 0 _ _ _ rfl).cell 0 _ rfl; have y1 := (H0.out.get 0 _ _ _ rfl).cell 1 _ rfl; have y2 := (H0.out.get 0 _ _ _ rfl).cell 2 _ rfl; have y3 := (H0.out.get 0 _ _ _ rfl).cell 3 _ rfl; have y4 := (H0.out.get 0 _ _ _ rfl).cell 4 _ rfl; have y5 := (H0.out.get 0 _ _ _ rfl).cell 5 _ rfl; have y6 := (H0.out.get 0 _ _ _ rfl).cell 6 _ rfl; have y7 := (H0.out.get 0 _ _ _ rfl).cell 7 _ rfl; have y8 := (H0.out.get 0 _ _ _ rfl).cell 8 _ rfl; have y9 := (H0.out.get 0 _ _ _ rfl).cell 9 _ rfl; have y10 := (H0.out.get 0 _ _ _ rfl).cell 10 _ rfl; have y11 := (H0.out.get 0 _ _ _ rfl).cell 11 _ rfl; have y12 := (H0.out.get 0 _ _ _ rfl).cell 12 _ rfl; have y13 := (H0.out.get 0 _ _ _ rfl).cell 13 _ rfl; have y14 := (H0.out.get 0 _ _ _ rfl).cell 14 _ rfl
    clear cE
    go_enter Tryz.func17, Tryz.ntmps17
    go_wp2_with (go_at_call 54; ((with_reducible refine (cS _ H0.out.bel).mono ?_); rintro e w1 ⟨rfl, hb1⟩; have H1 := Lib.hid (H0.out.below hb1); (clear x0 x1 x2 x3 x4 x5 x6 x7 x8 x9 x10 x11 x12 x13 x14 y0 y1 y2 y3 y4 y5 y6 y7 y8 y9 y10 y11 y12 y13 y14); have x0 := (H1.out.get 1 _ _ _ rfl).cell 0 _ rfl; have x1 := (H1.out.get 1 _ _ _ rfl).cell 1 _ rfl; have x2 := (H1.out.get 1 _ _ _ rfl).cell 2 _ rfl; have x3 := (H1.out.get 1 _ _ _ rfl).cell 3 _ rfl; have x4 := (H1.out.get 1 _ _ _ rfl).cell 4 _ rfl; have x5 := (H1.out.get 1 _ _ _ rfl).cell 5 _ rfl; have x6 := (H1.out.get 1 _ _ _ rfl).cell 6 _ rfl; have x7 := (H1.out.get 1 _ _ _ rfl).cell 7 _ rfl; have x8 := (H1.out.get 1 _ _ _ rfl).cell 8 _ rfl; have x9 := (H1.out.get 1 _ _ _ rfl).cell 9 _ rfl; have x10 := (H1.out.get 1 _ _ _ rfl).cell 10 _ rfl; have x11 := (H1.out.get 1 _ _ _ rfl).cell 11 _ rfl; have x12 := (H1.out.get 1 _ _ _ rfl).cell 12 _ rfl; have x13 := (H1.out.get 1 _ _ _ rfl).cell 13 _ rfl; have x14 := (H1.out.get 1 _ _ _ rfl).cell 14 _ rfl; have y0 := (H1.out.get 0 _ _ _ rfl).cell 0 _ rfl; have y1 := (H1.out.get 0 _ _ _ rfl).cell 1 _ rfl; have y2 := (H1.out.get 0 _ _ _ rfl).cell 2 _ rfl; have y3 := (H1.out.get 0 _ _ _ rfl).cell 3 _ rfl; have y4 := (H1.out.get 0 _ _ _ rfl).cell 4 _ rfl; have y5 := (H1.out.get 0 _ _ _ rfl).cell 5 _ rfl; have y6 := (H1.out.get 0 _ _ _ rfl).cell 6 _ rfl; have y7 := (H1.out.get 0 _ _ _ rfl).cell 7 _ rfl; have y8 := (H1.out.get 0 _ _ _ rfl).cell 8 _ rfl; have y9 := (H1.out.get 0 _ _ _ rfl).cell 9 _ rfl; have y10 := (H1.out.get 0 _ _ _ rfl).cell 10 _ rfl; have y11 := (H1.out.get 0 _ _ _ rfl).cell 11 _ rfl; have y12 := (H1.out.get 0 _ _ _ rfl).cell 12 _ rfl; have y13 := (H1.out.get 0 _ _ _ rfl).cell 13 _ rfl; have y14 := (H1.out.get 0 _ _ _ rfl).cell 14 _ rfl))
    go_ret
    exact ⟨by first | rfl | simp [*], H1.out.bel⟩
  · have x0 := (H0.out.get 1 _ _ _ rfl).cell 0 _ rfl; have x1 := (H0.out.get 1 _ _ _ rfl).cell 1 _ rfl; have x2 := (H0.out.get 1 _ _ _ rfl).cell 2 _ rfl; have x3 := (H0.out.get 1 _ _ _ rfl).cell 3 _ rfl; have x4 := (H0.out.get 1 _ _ _ rfl).cell 4 _ rfl; have x5 := (H0.out.get 1 _ _ _ rfl).cell 5 _ rfl; have x6 := (H0.out.get 1 _ _ _ rfl).cell 6 _ rfl; have x7 := (H0.out.get 1 _ _ _ rfl).cell 7 _ rfl; have x8 := (H0.out.get 1 _ _ _ rfl).cell 8 _ rfl; have x9 := (H0.out.get 1 _ _ _ rfl).cell 9 _ rfl; have x10 := (H0.out.get 1 _ _ _ rfl).cell 10 _ rfl; have x11 := (H0.out.get 1 _ _ _ rfl).cell 11 _ rfl; have x12 := (H0.out.get 1 _ _ _ rfl).cell 12 _ rfl; have x13 := (H0.out.get 1 _ _ _ rfl).cell 13 _ rfl; have x14 := (H0.out.get 1 _ _ _ rfl).cell 14 _ rfl; have y0 := (H0.out.get 0 _ _ _ rfl).cell 0 _ rfl; have y1 := (H0.out.get 0 _ _ _ rfl).cell 1 _ rfl; have y2 := (H0.out.get 0 _ _ _ rfl).cell 2 _ rfl; have y3 := (H0.out.get 0 _ _ _ rfl).cell 3 _ rfl; have y4 := (H0.out.get 0 _ _ _ rfl).cell 4 _ rfl; have y5 := (H0.out.get 0 _ _ _ rfl).cell 5 _ rfl; have y6 := (H0.out.get 0 _ _ _ rfl).cell 6 _ rfl; have y7 := (H0.out.get 0 _ _ _ rfl).cell 7 _ rfl; have y8 := (H0.out.get 0 _ _ _ rfl).cell 8 _ rfl; have y9 := (H0.out.get 0 _ _ _ rfl).cell 9 _ rfl; have y10 := (H0.out.get 0 _ _ _ rfl).cell 10 _ rfl; have y11 := (H0.out.get 0 _ _ _ rfl).cell 11 _ rfl; have y12 := (H0.out.get 0 _ _ _ rfl).cell 12 _ rfl; have y13 := (H0.out.get 0 _ _ _ rfl).cell 13 _ rfl; have y14 := (H0.out.get 0 _ _ _ rfl).cell 14 _ rfl
    go_enter Tryz.func17, Tryz.ntmps17
    go_wp2_with (first | (go_at_call 54; ((with_reducible refine (cS _ H0.out.bel).mono ?_); rintro e w1 ⟨rfl, hb1⟩; have H1 := Lib.hid (H0.out.below hb1); (clear x0 x1 x2 x3 x4 x5 x6 x7 x8 x9 x10 x11 x12 x13 x14 y0 y1 y2 y3 y4 y5 y6 y7 y8 y9 y10 y11 y12 y13 y14); have x0 := (H1.out.get 1 _ _ _ rfl).cell 0 _ rfl; have x1 := (H1.out.get 1 _ _ _ rfl).cell 1 _ rfl; have x2 := (H1.out.get 1 _ _ _ rfl).cell 2 _ rfl; have x3 := (H1.out.get 1 _ _ _ rfl).cell 3 _ rfl; have x4 := (H1.out.get 1 _ _ _ rfl).cell 4 _ rfl; have x5 := (H1.out.get 1 _ _ _ rfl).cell 5 _ rfl; have x6 := (H1.out.get 1 _ _ _ rfl).cell 6 _ rfl; have x7 := (H1.out.get 1 _ _ _ rfl).cell 7 _ rfl; have x8 := (H1.out.get 1 _ _ _ rfl).cell 8 _ rfl; have x9 := (H1.out.get 1 _ _ _ rfl).cell 9 _ rfl; have x10 := (H1.out.get 1 _ _ _ rfl).cell 10 _ rfl; have x11 := (H1.out.get 1 _ _ _ rfl).cell 11 _ rfl; have x12 := (H1.out.get 1 _ _ _ rfl).cell 12 _ rfl; have x13 := (H1.out.get 1 _ _ _ rfl).cell 13 _ rfl; have x14 := (H1.out.get 1 _ _ _ rfl).cell 14 _ rfl; have y0 := (H1.out.get 0 _ _ _ rfl).cell 0 _ rfl; have y1 := (H1.out.get 0 _ _ _ rfl).cell 1 _ rfl; have y2 := (H1.out.get 0 _ _ _ rfl).cell 2 _ rfl; have y3 := (H1.out.get 0 _ _ _ rfl).cell 3 _ rfl; have y4 := (H1.out.get 0 _ _ _ rfl).cell 4 _ rfl; have y5 := (H1.out.get 0 _ _ _ rfl).cell 5 _ rfl; have y6 := (H1.out.get 0 _ _ _ rfl).cell 6 _ rfl; have y7 := (H1.out.get 0 _ _ _ rfl).cell 7 _ rfl; have y8 := (H1.out.get 0 _ _ _ rfl).cell 8 _ rfl; have y9 := (H1.out.get 0 _ _ _ rfl).cell 9 _ rfl; have y10 := (H1.out.get 0 _ _ _ rfl).cell 10 _ rfl; have y11 := (H1.out.get 0 _ _ _ rfl).cell 11 _ rfl; have y12 := (H1.out.get 0 _ _ _ rfl).cell 12 _ rfl; have y13 := (H1.out.get 0 _ _ _ rfl).cell 13 _ rfl; have y14 := (H1.out.get 0 _ _ _ rfl).cell 14 _ rfl)) | (go_at_call 55; ((with_reducible refine (cE _ H1.out.bel).mono ?_); rintro e w2 ⟨rfl, hb2⟩; have H2 := Lib.hid (H1.out.below hb2))))
    go_ret
    exact ⟨by first | rfl | simp [*], H2.out.bel⟩
set_option maxRecDepth 100000 in
set_option maxHeartbeats 4000000 in
theorem rSameR_any (x y : RcM) (L L' : RcL) (w : World) (h : RcAt w x L) (h' : RcAt w y L') (hx : RcF x) (hy : RcF y) :
    Calls Tryz.prog 18 #[.agg (rcV x), .agg (rcV y)] w (Says w (sameR x y L L')) := by
  have H0 := Lib.hid (((Boxs.start w).more (rcV x) 47).more (rcV y) 47)
  have hs : (w.alloc (.cells (rcV x) 47)).heap.size = w.heap.size + 1 := by simp
  rw [hs] at H0
  clear hs
  have cS : ∀ W, Below w.heap.size w W → Calls Tryz.prog 51 #[.agg (cmV x.cm), .agg (cmV y.cm)] W (Says W (sameC x.cm y.cm L.rs L'.rs L.ws L'.ws)) := fun W hW => dSame_any x.cm y.cm L.rs L'.rs L.ws L'.ws W (h.cm.later hW) (h'.cm.later hW) hx.n hx.m
  have cE : ∀ W, Below w.heap.size w W → Calls Tryz.prog 19 #[.slice x.da x.dn x.dc, .slice y.da y.dn y.dc] W (Says W (eqB L.dl L'.dl)) := fun W hW => (same_any x.da y.da x.dn y.dn x.dc y.dc w.heap.size w.heap.size L.dl L'.dl W (h.da.below hW (Nat.le_refl _)) (h'.da.below hW (Nat.le_refl _)) (by have := hx.dn; unfold maxLen; omega) (by have := hy.dn; unfold maxLen; omega)).mono fun _ _ h => ⟨by rw [eqB_dec]; exact h.1, by obtain ⟨k, hk⟩ := h.2; rw [hk]; exact below_drewN k (Below.refl _ _)⟩
  clear h h' hx hy
  unfold sameR
  generalize sameC x.cm y.cm L.rs L'.rs L.ws L'.ws = SC at *
  generalize eqB L.dl L'.dl = SD at *
  cases q0 : (x.k == y.k)
  · have x0 := (H0.out.get 1 _ _ _ rfl).cell 0 _ rfl; have x1 := (H0.out.get 1 _ _ _ rfl).cell 1 _ rfl; have x2 := (H0.out.get 1 _ _ _ rfl).cell 2 _ rfl; have x3 := (H0.out.get 1 _ _ _ rfl).cell 3 _ rfl; have x4 := (H0.out.get 1 _ _ _ rfl).cell 4 _ rfl; have x5 := (H0.out.get 1 _ _ _ rfl).cell 5 _ rfl; have x6 := (H0.out.get 1 _ _ _ rfl).cell 6 _ rfl; have x7 := (H0.out.get 1 _ _ _ rfl).cell 7 _ rfl; have x8 := (H0.out.get 1 _ _ _ rfl).cell 8 _ rfl; have x9 := (H0.out.get 1 _ _ _ rfl).cell 9 _ rfl; have x10 := (H0.out.get 1 _ _ _ rfl).cell 10 _ rfl; have x11 := (H0.out.get 1 _ _ _ rfl).cell 11 _ rfl; have x12 := (H0.out.get 1 _ _ _ rfl).cell 12 _ rfl; have x13 := (H0.out.get 1 _ _ _ rfl).cell 13 _ rfl; have x14 := (H0.out.get 1 _ _ _ rfl).cell 14 _ rfl; have y0 := (H0.out.get 0 _ _ _ rfl).cell 0 _ rfl; have y1 := (H0.out.get 0 _ _ _ rfl).cell 1 _ rfl; have y2 := (H0.out.get 0 _ _ _ rfl).cell 2 _ rfl; have y3 := (H0.out.get 0 _ _ _ rfl).cell 3 _ rfl; have y4 := (H0.out.get 0 _ _ _ rfl).cell 4 _ rfl; have y5 := (H0.out.get 0 _ _ _ rfl).cell 5 _ rfl; have y6 := (H0.out.get 0 _ _ _ rfl).cell 6 _ rfl; have y7 := (H0.out.get 0 _ _ _ rfl).cell 7 _ rfl; have y8 := (H0.out.get 0 _ _ _ rfl).cell 8 _ rfl; have y9 := (H0.out.get 0 _ _ _ rfl).cell 9 _ rfl; have y10 := (H0.out.get 0 _ _ _ rfl).cell 10 _ rfl; have y11 := (H0.out.get 0 _ _ _ rfl).cell 11 _ rfl; have y12 := (H0.out.get 0 _ _ _ rfl).cell 12 _ rfl; have y13 := (H0.out.get 0 _ _ _ rfl).cell 13 _ rfl; have y14 := (H0.out.get 0 _ _ _ rfl).cell 14 _ rfl
    clear cS cE
    go_enter Tryz.func18, Tryz.ntmps18
    go_wp2
    go_ret
    exact ⟨by first | rfl | simp [*], H0.out.bel⟩
  rcases id_cases ((x.br : Nat) : Int) x.bn ((y.br : Nat) : Int) y.bn with ⟨e, q1, q2⟩ | ⟨e, q1⟩ | ⟨e, q1, q2⟩
  rotate_left
  · rw [e]
    have x0 := (H0.out.get 1 _ _ _ rfl).cell 0 _ rfl; have x1 := (H0.out.get 1 _ _ _ rfl).cell 1 _ rfl; have x2 := (H0.out.get 1 _ _ _ rfl).cell 2 _ rfl; have x3 := (H0.out.get 1 _ _ _ rfl).cell 3 _ rfl; have x4 := (H0.out.get 1 _ _ _ rfl).cell 4 _ rfl; have x5 := (H0.out.get 1 _ _ _ rfl).cell 5 _ rfl; have x6 := (H0.out.get 1 _ _ _ rfl).cell 6 _ rfl; have x7 := (H0.out.get 1 _ _ _ rfl).cell 7 _ rfl; have x8 := (H0.out.get 1 _ _ _ rfl).cell 8 _ rfl; have x9 := (H0.out.get 1 _ _ _ rfl).cell 9 _ rfl; have x10 := (H0.out.get 1 _ _ _ rfl).cell 10 _ rfl; have x11 := (H0.out.get 1 _ _ _ rfl).cell 11 _ rfl; have x12 := (H0.out.get 1 _ _ _ rfl).cell 12 _ rfl; have x13 := (H0.out.get 1 _ _ _ rfl).cell 13 _ rfl; have x14 := (H0.out.get 1 _ _ _ rfl).cell 14 _ rfl; have y0 := (H0.out.get 0 _ _ _ rfl).cell 0 _ rfl; have y1 := (H0.out.get 0 _ _ _ rfl).cell 1 _ rfl; have y2 := (H0.out.get 0 _ _ _ rfl).cell 2 _ rfl; have y3 := (H0.out.get 0 _ _ _ rfl).cell 3 _ rfl; have y4 := (H0.out.get 0 _ _ _ rfl).cell 4 _ rfl; have y5 := (H0.out.get 0 _ _ _ rfl).cell 5 _ rfl; have y6 := (H0.out.get 0 _ _ _ rfl).cell 6 _ rfl; have y7 := (H0.out.get 0 _ _ _ rfl).cell 7 _ rfl; have y8 := (H0.out.get 0 _ _ _ rfl).cell 8 _ rfl; have y9 := (H0.out.get 0 _ _ _ rfl).cell 9 _ rfl; have y10 := (H0.out.get 0 _ _ _ rfl).cell 10 _ rfl; have y11 := (H0.out.get 0 _ _ _ rfl).cell 11 _ rfl; have y12 := (H0.out.get 0 _ _ _ rfl).cell 12 _ rfl; have y13 := (H0.out.get 0 _ _ _ rfl).cell 13 _ rfl; have y14 := (H0.out.get 0 _ _ _ rfl).cell 14 _ rfl
    clear cS cE
    go_enter Tryz.func18, Tryz.ntmps18
    go_wp2
    go_ret
    exact ⟨by first | rfl | simp [*], H0.out.bel⟩
  · rw [e]
    have x0 := (H0.out.get 1 _ _ _ rfl).cell 0 _ rfl; have x1 := (H0.out.get 1 _ _ _ rfl).cell 1 _ rfl; have x2 := (H0.out.get 1 _ _ _ rfl).cell 2 _ rfl; have x3 := (H0.out.get 1 _ _ _ rfl).cell 3 _ rfl; have x4 := (H0.out.get 1 _ _ _ rfl).cell 4 _ rfl; have x5 := (H0.out.get 1 _ _ _ rfl).cell 5 _ rfl; have x6 := (H0.out.get 1 _ _ _ rfl).cell 6 _ rfl; have x7 := (H0.out.get 1 _ _ _ rfl).cell 7 _ rfl; have x8 := (H0.out.get 1 _ _ _ rfl).cell 8 _ rfl; have x9 := (H0.out.get 1 _ _ _ rfl).cell 9 _ rfl; have x10 := (H0.out.get 1 _ _ _ rfl).cell 10 _ rfl; have x11 := (H0.out.get 1 _ _ _ rfl).cell 11 _ rfl; have x12 := (H0.out.get 1 _ _ _ rfl).cell 12 _ rfl; have x13 := (H0.out.get 1 _ _ _ rfl).cell 13 _ rfl; have x14 := (H0.out.get 1 _ _ _ rfl).cell 14 _ rfl; have y0 := (H0.out.get 0 _ _ _ rfl).cell 0 _ rfl; have y1 := (H0.out.get 0 _ _ _ rfl).cell 1 _ rfl; have y2 := (H0.out.get 0 _ _ _ rfl).cell 2 _ rfl; have y3 := (H0.out.get 0 _ _ _ rfl).cell 3 _ rfl; have y4 := (H0.out.get 0 _ _ _ rfl).cell 4 _ rfl; have y5 := (H0.out.get 0 _ _ _ rfl).cell 5 _ rfl; have y6 := (H0.out.get 0 _ _ _ rfl).cell 6 _ rfl; have y7 := (H0.out.get 0 _ _ _ rfl).cell 7 _ rfl; have y8 := (H0.out.get 0 _ _ _ rfl).cell 8 _ rfl; have y9 := (H0.out.get 0 _ _ _ rfl).cell 9 _ rfl; have y10 := (H0.out.get 0 _ _ _ rfl).cell 10 _ rfl; have y11 := (H0.out.get 0 _ _ _ rfl).cell 11 _ rfl; have y12 := (H0.out.get 0 _ _ _ rfl).cell 12 _ rfl; have y13 := (H0.out.get 0 _ _ _ rfl).cell 13 _ rfl; have y14 := (H0.out.get 0 _ _ _ rfl).cell 14 _ rfl
    clear cS cE
    go_enter Tryz.func18, Tryz.ntmps18
    go_wp2
    go_ret
    exact ⟨by first | rfl | simp [*], H0.out.bel⟩
  rw [e]
  clear e
  cases q3 : (x.sl == y.sl)
  · have x0 := (H0.out.get 1 _ _ _ rfl).cell 0 _ rfl; have x1 := (H0.out.get 1 _ _ _ rfl).cell 1 _ rfl; have x2 := (H0.out.get 1 _ _ _ rfl).cell 2 _ rfl; have x3 := (H0.out.get 1 _ _ _ rfl).cell 3 _ rfl; have x4 := (H0.out.get 1 _ _ _ rfl).cell 4 _ rfl; have x5 := (H0.out.get 1 _ _ _ rfl).cell 5 _ rfl; have x6 := (H0.out.get 1 _ _ _ rfl).cell 6 _ rfl; have x7 := (H0.out.get 1 _ _ _ rfl).cell 7 _ rfl; have x8 := (H0.out.get 1 _ _ _ rfl).cell 8 _ rfl; have x9 := (H0.out.get 1 _ _ _ rfl).cell 9 _ rfl; have x10 := (H0.out.get 1 _ _ _ rfl).cell 10 _ rfl; have x11 := (H0.out.get 1 _ _ _ rfl).cell 11 _ rfl; have x12 := (H0.out.get 1 _ _ _ rfl).cell 12 _ rfl; have x13 := (H0.out.get 1 _ _ _ rfl).cell 13 _ rfl; have x14 := (H0.out.get 1 _ _ _ rfl).cell 14 _ rfl; have y0 := (H0.out.get 0 _ _ _ rfl).cell 0 _ rfl; have y1 := (H0.out.get 0 _ _ _ rfl).cell 1 _ rfl; have y2 := (H0.out.get 0 _ _ _ rfl).cell 2 _ rfl; have y3 := (H0.out.get 0 _ _ _ rfl).cell 3 _ rfl; have y4 := (H0.out.get 0 _ _ _ rfl).cell 4 _ rfl; have y5 := (H0.out.get 0 _ _ _ rfl).cell 5 _ rfl; have y6 := (H0.out.get 0 _ _ _ rfl).cell 6 _ rfl; have y7 := (H0.out.get 0 _ _ _ rfl).cell 7 _ rfl; have y8 := (H0.out.get 0 _ _ _ rfl).cell 8 _ rfl; have y9 := (H0.out.get 0 _ _ _ rfl).cell 9 _ rfl; have y10 := (H0.out.get 0 _ _ _ rfl).cell 10 _ rfl; have y11 := (H0.out.get 0 _ _ _ rfl).cell 11 _ rfl; have y12 := (H0.out.get 0 _ _ _ rfl).cell 12 _ rfl; have y13 := (H0.out.get 0 _ _ _ rfl).cell 13 _ rfl; have y14 := (H0.out.get 0 _ _ _ rfl).cell 14 _ rfl
    clear cS cE
    go_enter Tryz.func18, Tryz.ntmps18
    go_wp2
    go_ret
    exact ⟨by first | rfl | simp [*], H0.out.bel⟩
  cases SC
  · have x0 := (H0.out.get 1 _ _ _ rfl).cell 0 _ rfl; have x1 := (H0.out.get 1 _ _ _ rfl).cell 1 _ rfl; have x2 := (H0.out.get 1 _ _ _ rfl).cell 2 _ rfl; have x3 := (H0.out.get 1 _ _ _ rfl).cell 3 _ rfl; have x4 := (H0.out.get 1 _ _ _ rfl).cell 4 _ rfl; have x5 := (H0.out.get 1 _ _ _ rfl).cell 5 _ rfl; have x6 := (H0.out.get 1 _ _ _ rfl).cell 6 _ rfl; have x7 := (H0.out.get 1 _ _ _ rfl).cell 7 _ rfl; have x8 := (H0.out.get 1 _ _ _ rfl).cell 8 _ rfl; have x9 := (H0.out.get 1 _ _ _ rfl).cell 9 _ rfl; have x10 := (H0.out.get 1 _ _ _ rfl).cell 10 _ rfl; have x11 := (H0.out.get 1 _ _ _ rfl).cell 11 _ rfl; have x12 := (H0.out.get 1 _ _ _ rfl).cell 12 _ rfl; have x13 := (H0.out.get 1 _ _ _ rfl).cell 13 _ rfl; have x14 := (H0.out.get 1 _ _ _ rfl).cell 14 _ rfl; have y0 := (H0.out.get 0 _ _ _ rfl).cell 0 _ rfl; have y1 := (H0.out.get 0 _ _ _ rfl).cell 1 _ rfl; have y2 := (H0.out.get 0 _ _ _ rfl).cell 2 _ rfl; have y3 := (H0.out.get 0 _ _ _ rfl).cell 3 _ rfl; have y4 := (H0.out.get 0 _ _ _ rfl).cell 4 _ rfl; have y5 := (H0.out.get 0 _ _ _ rfl).cell 5 _ rfl; have y6 := (H0.out.get 0 _ _ _ rfl).cell 6 _ rfl; have y7 := (H0.out.get 0 _ _ _ rfl).cell 7 _ rfl; have y8 := (H0.out.get 0 _ _ _ rfl).cell 8 _ rfl; have y9 := (H0.out.get 0 _ _ _ rfl).cell 9 _ rfl; have y10 := (H0.out.get 0 _ _ _ rfl).cell 10 _ rfl; have y11 := (H0.out.get 0 _ _ _ rfl).cell 11 _ rfl; have y12 := (H0.out.get 0 _ _ _ rfl).cell 12 _ rfl; have y13 := (H0.out.get 0 _ _ _ rfl).cell 13 _ rfl; have y14 := (H0.out.get 0 _ _ _ rfl).cell 14 _ rfl
    clear cE
    go_enter Tryz.func18, Tryz.ntmps18
    go_wp2_with (go_at_call 51; ((with_reducible refine (cS _ H0.out.bel).mono ?_); rintro e w1 ⟨rfl, hb1⟩; have H1 := Lib.hid (H0.out.below hb1); (clear x0 x1 x2 x3 x4 x5 x6 x7 x8 x9 x10 x11 x12 x13 x14 y0 y1 y2 y3 y4 y5 y6 y7 y8 y9 y10 y11 y12 y13 y14); have x0 := (H1.out.get 1 _ _ _ rfl).cell 0 _ rfl; have x1 := (H1.out.get 1 _ _ _ rfl).cell 1 _ rfl; have x2 := (H1.out.get 1 _ _ _ rfl).cell 2 _ rfl; have x3 := (H1.out.get 1 _ _ _ rfl).cell 3 _ rfl; have x4 := (H1.out.get 1 _ _ _ rfl).cell 4 _ rfl; have x5 := (H1.out.get 1 _ _ _ rfl).cell 5 _ rfl; have x6 := (H1.out.get 1 _ _ _ rfl).cell 6 _ rfl; have x7 := (H1.out.get 1 _ _ _ rfl).cell 7 _ rfl; have x8 := (H1.out.get 1 _ _ _ rfl).cell 8 _ rfl; have x9 := (H1.out.get 1 _ _ _ rfl).cell 9 _ rfl; have x10 := (H1.out.get 1 _ _ _ rfl).cell 10 _ rfl; have x11 := (H1.out.get 1 _ _ _ rfl).cell 11 _ rfl; have x12 := (H1.out.get 1 _ _ _ rfl).cell 12 _ rfl; have x13 := (H1.out.get 1 _ _ _ rfl).cell 13 _ rfl; have x14 := (H1.out.get 1 _ _ _ rfl).cell 14 _ rfl; have y0 := (H1.out.get 0 _ _ _ rfl).cell 0 _ rfl; have y1 := (H1.out.get 0 _ _ _ rfl).cell 1 _ rfl; have y2 := (H1.out.get 0 _ _ _ rfl).cell 2 _ rfl; have y3 := (H1.out.get 0 _ _ _ rfl).cell 3 _ rfl; have y4 := (H1.out.get 0 _ _ _ rfl).cell 4 _ rfl; have y5 := (H1.out.get 0 _ _ _ rfl).cell 5 _ rfl; have y6 := (H1.out.get 0 _ _ _ rfl).cell 6 _ rfl; have y7 := (H1.out.get 0 _ _ _ rfl).cell 7 _ rfl; have y8 := (H1.out.get 0 _ _ _ rfl).cell 8 _ rfl; have y9 := (H1.out.get 0 _ _ _ rfl).cell 9 _ rfl; have y10 := (H1.out.get 0 _ _ _ rfl).cell 10 _ rfl; have y11 := (H1.out.get 0 _ _ _ rfl).cell 11 _ rfl; have y12 := (H1.out.get 0 _ _ _ rfl).cell 12 _ rfl; have y13 := (H1.out.get 0 _ _ _ rfl).cell 13 _ rfl; have y14 := (H1.out.get 0 _ _ _ rfl).cell 14 _ rfl))
    go_ret
    exact ⟨by first | rfl | simp [*], H1.out.bel⟩
  · have x0 := (H0.out.get 1 _ _ _ rfl).cell 0 _ rfl; have x1 := (H0.out.get 1 _ _ _ rfl).cell 1 _ rfl; have x2 := (H0.out.get 1 _ _ _ rfl).cell 2 _ rfl; have x3 := (H0.out.get 1 _ _ _ rfl).cell 3 _ rfl; have x4 := (H0.out.get 1 _ _ _ rfl).cell 4 _ rfl; have x5 := (H0.out.get 1 _ _ _ rfl).cell 5 _ rfl; have x6 := (H0.out.get 1 _ _ _ rfl).cell 6 _ rfl; have x7 := (H0.out.get 1 _ _ _ rfl).cell 7 _ rfl; have x8 := (H0.out.get 1 _ _ _ rfl).cell 8 _ rfl; have x9 := (H0.out.get 1 _ _ _ rfl).cell 9 _ rfl; have x10 := (H0.out.get 1 _ _ _ rfl).cell 10 _ rfl; have x11 := (H0.out.get 1 _ _ _ rfl).cell 11 _ rfl; have x12 := (H0.out.get 1 _ _ _ rfl).cell 12 _ rfl; have x13 := (H0.out.get 1 _ _ _ rfl).cell 13 _ rfl; have x14 := (H0.out.get 1 _ _ _ rfl).cell 14 _ rfl; have y0 := (H0.out.get 0 _ _ _ rfl).cell 0 _ rfl; have y1 := (H0.out.get 0 _ _ _ rfl).cell 1 _ rfl; have y2 := (H0.out.get 0 _ _ _ rfl).cell 2 _ rfl; have y3 := (H0.out.get 0 _ _ _ rfl).cell 3 _ rfl; have y4 := (H0.out.get 0 _ _ _ rfl).cell 4 _ rfl; have y5 := (H0.out.get 0 _ _ _ rfl).cell 5 _ rfl; have y6 := (H0.out.get 0 _ _ _ rfl).cell 6 _ rfl; have y7 := (H0.out.get 0 _ _ _ rfl).cell 7 _ rfl; have y8 := (H0.out.get 0 _ _ _ rfl).cell 8 _ rfl; have y9 := (H0.out.get 0 _ _ _ rfl).cell 9 _ rfl; have y10 := (H0.out.get 0 _ _ _ rfl).cell 10 _ rfl; have y11 := (H0.out.get 0 _ _ _ rfl).cell 11 _ rfl; have y12 := (H0.out.get 0 _ _ _ rfl).cell 12 _ rfl; have y13 := (H0.out.get 0 _ _ _ rfl).cell 13 _ rfl; have y14 := (H0.out.get 0 _ _ _ rfl).cell 14 _ rfl
    go_enter Tryz.func18, Tryz.ntmps18
    go_wp2_with (first | (go_at_call 51; ((with_reducible refine (cS _ H0.out.bel).mono ?_); rintro e w1 ⟨rfl, hb1⟩; have H1 := Lib.hid (H0.out.below hb1); (clear x0 x1 x2 x3 x4 x5 x6 x7 x8 x9 x10 x11 x12 x13 x14 y0 y1 y2 y3 y4 y5 y6 y7 y8 y9 y10 y11 y12 y13 y14); have x0 := (H1.out.get 1 _ _ _ rfl).cell 0 _ rfl; have x1 := (H1.out.get 1 _ _ _ rfl).cell 1 _ rfl; have x2 := (H1.out.get 1 _ _ _ rfl).cell 2 _ rfl; have x3 := (H1.out.get 1 _ _ _ rfl).cell 3 _ rfl; have x4 := (H1.out.get 1 _ _ _ rfl).cell 4 _ rfl; have x5 := (H1.out.get 1 _ _ _ rfl).cell 5 _ rfl; have x6 := (H1.out.get 1 _ _ _ rfl).cell 6 _ rfl; have x7 := (H1.out.get 1 _ _ _ rfl).cell 7 _ rfl; have x8 := (H1.out.get 1 _ _ _ rfl).cell 8 _ rfl; have x9 := (H1.out.get 1 _ _ _ rfl).cell 9 _ rfl; have x10 := (H1.out.get 1 _ _ _ rfl).cell 10 _ rfl; have x11 := (H1.out.get 1 _ _ _ rfl).cell 11 _ rfl; have x12 := (H1.out.get 1 _ _ _ rfl).cell 12 _ rfl; have x13 := (H1.out.get 1 _ _ _ rfl).cell 13 _ rfl; have x14 := (H1.out.get 1 _ _ _ rfl).cell 14 _ rfl; have y0 := (H1.out.get 0 _ _ _ rfl).cell 0 _ rfl; have y1 := (H1.out.get 0 _ _ _ rfl).cell 1 _ rfl; have y2 := (H1.out.get 0 _ _ _ rfl).cell 2 _ rfl; have y3 := (H1.out.get 0 _ _ _ rfl).cell 3 _ rfl; have y4 := (H1.out.get 0 _ _ _ rfl).cell 4 _ rfl; have y5 := (H1.out.get 0 _ _ _ rfl).cell 5 _ rfl; have y6 := (H1.out.get 0 _ _ _ rfl).cell 6 _ rfl; have y7 := (H1.out.get 0 _ _ _ rfl).cell 7 _ rfl; have y8 := (H1.out.get 0 _ _ _ rfl).cell 8 _ rfl; have y9 := (H1.out.get 0 _ _ _ rfl).cell 9 _ rfl; have y10 := (H1.out.get 0 _ _ _ rfl).cell 10 _ rfl; have y11 := (H1.out.get 0 _ _ _ rfl).cell 11 _ rfl; have y12 := (H1.out.get 0 _ _ _ rfl).cell 12 _ rfl; have y13 := (H1.out.get 0 _ _ _ rfl).cell 13 _ rfl; have y14 := (H1.out.get 0 _ _ _ rfl).cell 14 _ rfl)) | (go_at_call 19; ((with_reducible refine (cE _ H1.out.bel).mono ?_); rintro e w2 ⟨rfl, hb2⟩; have H2 := Lib.hid (H1.out.below hb2))))
    go_ret
    exact ⟨by first | rfl | simp [*], H2.out.bel⟩
end Go.Proofs.YtcfmifongbapkaaGreatDoor
