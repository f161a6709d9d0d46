/- Contracts of slices.Equal of reads and of writes. Conditions: the lists lie in memory, and are no longer than a million. -/
import Derived.Test.YtlkgpajpblhkeaaDoorTxnMem

import Derived.Laws.StructEq

namespace Go.Proofs.YtlkgpajpblhkeaaDoor

open Go.RowKit

theorem bytes_ne {x y : ByteArray} (h : ¬ x = y) : (x.toList == y.toList) = false := by
  rw [beq_eq_false_iff_ne]
  intro e
  rw [ByteArray.toList_eq, ByteArray.toList_eq] at e
  obtain ⟨⟨x⟩⟩ := x
  obtain ⟨⟨y⟩⟩ := y
  exact h (by rw [show x = y from e])
theorem rd_cases (x y : RdM) : x = y ∨ (¬ x = y ∧ (x.1.toList == y.1.toList) = false) ∨ (¬ x = y ∧ (x.1.toList == y.1.toList) = true ∧ ((x.2 : Int) == (y.2 : Int)) = false) := by
  obtain ⟨x1, x2⟩ := x
  obtain ⟨y1, y2⟩ := y
  by_cases h1 : x1 = y1
  · subst h1
    by_cases h2 : x2 = y2
    · subst h2; exact .inl rfl
    · exact .inr (.inr ⟨fun e => h2 (by injection e), by simp, by simp; omega⟩)
  · refine .inr (.inl ⟨fun e => h1 (by injection e), ?_⟩)
    exact bytes_ne h1
theorem wr_cases (x y : WrM) : x = y ∨ (¬ x = y ∧ (x.key.toList == y.key.toList) = false) ∨ (¬ x = y ∧ (x.key.toList == y.key.toList) = true ∧ (x.k == y.k) = false) ∨ (¬ x = y ∧ (x.key.toList == y.key.toList) = true ∧ (x.k == y.k) = true ∧ ((x.b : Int) == (y.b : Int)) = false) ∨ (¬ x = y ∧ (x.key.toList == y.key.toList) = true ∧ (x.k == y.k) = true ∧ ((x.b : Int) == (y.b : Int)) = true ∧ (x.t.toList == y.t.toList) = false) := by
  obtain ⟨x1, x2, x3, x4⟩ := x
  obtain ⟨y1, y2, y3, y4⟩ := y
  by_cases h1 : x1 = y1
  · subst h1
    by_cases h2 : x2 = y2
    · subst h2
      by_cases h3 : x3 = y3
      · subst h3
        by_cases h4 : x4 = y4
        · subst h4; exact .inl rfl
        · refine .inr (.inr (.inr (.inr ⟨fun e => h4 (by injection e), by simp, by simp, by simp, ?_⟩)))
          exact bytes_ne h4
      · exact .inr (.inr (.inr (.inl ⟨fun e => h3 (by injection e), by simp, by simp, by simp; omega⟩)))
    · exact .inr (.inr (.inl ⟨fun e => h2 (by injection e), by simp, by simpa using h2⟩))
  · refine .inr (.inl ⟨fun e => h1 (by injection e), ?_⟩)
    exact bytes_ne h1

set_option maxHeartbeats 1000000 in
theorem eqR_any (a a' : Option Addr) (n n' c c' B B' : Nat) (l l' : List RdM) (w : World) (h : RdsAt w B a n l) (h' : RdsAt w B' a' n' l') (hn : n ≤ 1000000) :
    Calls Tryd.prog 47 #[.slice a n c, .slice a' n' c'] w (Says w (eqB l l')) := by
  have hl := h.1
  have hl' := h'.1
  by_cases hnn : n = n'
  · subst hnn
    have HA := Lib.hid h
    have HB := Lib.hid h'
    clear h h'
    go_enter Tryd.func47, Tryd.ntmps47
    go_wp2
    go_loopw [13] (fun i wr => ∃ k q : Nat, k ≤ n ∧ i = .int .i64 k ∧ wr = w.drewN q ∧ l.take k = l'.take k) (fun i _ => n - (intOf i).toNat)
    case atStart => exact ⟨0, 0, Nat.zero_le _, rfl, rfl, rfl⟩
    case round =>
      obtain ⟨k, q, hk, rfl, rfl, ht⟩ := hrel
      by_cases hlt : k < n
      · have hk1 : k < l.length := by omega
        have hk2 : k < l'.length := by omega
        have HG : l[k] = l'[k] → Hid (l.take (k + 1) = l'.take (k + 1)) := fun e => eq_step ht hk1 hk2 e
        have HN : ¬ l[k] = l'[k] → Hid (eqB l l' = false) := fun e => eq_bad hk1 hk2 e
        obtain ⟨b, off, rfl, _, x0, x1⟩ := HA.out.at_ (i := k) (by omega)
        obtain ⟨b', off', rfl, _, y0, y1⟩ := HB.out.at_ (i := k) (by omega)
        clear ht
        generalize l[k] = x at *
        generalize l'[k] = y at *
        have i1 : (k : Int) < (n : Int) := by omega
        rcases rd_cases x y with rfl | ⟨hne, q1⟩ | ⟨hne, q1, q2⟩
        · have Q := HG rfl
          clear HG HN
          go_upto_region 6 with (fail)
          go_quiet (fail)
          go_wp2
          go_roundw
          case rel => exact ⟨k + 1, _, by omega, by go_num, rfl, Q.out⟩
          case measure => simp [intOf]; omega
        · have Q := HN hne
          clear HG HN
          go_upto_region 6 with (fail)
          go_quiet (fail)
          go_wp2
          go_ret
          exact ⟨by rw [Q.out]; rfl, below_drewN _ (below_drewN _ (Below.refl _ _))⟩
        · have Q := HN hne
          clear HG HN
          go_upto_region 6 with (fail)
          go_quiet (fail)
          go_wp2
          go_ret
          exact ⟨by rw [Q.out]; rfl, below_drewN _ (below_drewN _ (Below.refl _ _))⟩
      · have Q := Lib.hid (eq_done ht (by omega) (by omega))
        clear ht
        go_wp2
        go_ret
        exact ⟨by rw [Q.out]; rfl, below_drewN _ (Below.refl _ _)⟩
  · have Q := Lib.hid (eq_len (l := l) (l' := l') (by omega))
    have q1 : ((n : Int) != (n' : Int)) = true := by simp; omega
    clear h h'
    go_enter Tryd.func47, Tryd.ntmps47
    go_wp2
    go_ret
    exact ⟨by rw [Q.out]; rfl, Below.refl _ _⟩

set_option maxHeartbeats 1000000 in
theorem eqW_any (a a' : Option Addr) (n n' c c' B B' : Nat) (l l' : List WrM) (w : World) (h : WrsAt w B a n l) (h' : WrsAt w B' a' n' l') (hn : n ≤ 1000000) :
    Calls Tryd.prog 48 #[.slice a n c, .slice a' n' c'] w (Says w (eqB l l')) := by
  have hl := h.1
  have hl' := h'.1
  by_cases hnn : n = n'
  · subst hnn
    have HA := Lib.hid h
    have HB := Lib.hid h'
    clear h h'
    go_enter Tryd.func48, Tryd.ntmps48
    go_wp2
    go_loopw [13] (fun i wr => ∃ k q : Nat, k ≤ n ∧ i = .int .i64 k ∧ wr = w.drewN q ∧ l.take k = l'.take k) (fun i _ => n - (intOf i).toNat)
    case atStart => exact ⟨0, 0, Nat.zero_le _, rfl, rfl, rfl⟩
    case round =>
      obtain ⟨k, q, hk, rfl, rfl, ht⟩ := hrel
      by_cases hlt : k < n
      · have hk1 : k < l.length := by omega
        have hk2 : k < l'.length := by omega
        have HG : l[k] = l'[k] → Hid (l.take (k + 1) = l'.take (k + 1)) := fun e => eq_step ht hk1 hk2 e
        have HN : ¬ l[k] = l'[k] → Hid (eqB l l' = false) := fun e => eq_bad hk1 hk2 e
        obtain ⟨b, off, rfl, _, x0, x1, x2, x3⟩ := HA.out.at_ (i := k) (by omega)
        obtain ⟨b', off', rfl, _, y0, y1, y2, y3⟩ := HB.out.at_ (i := k) (by omega)
        clear ht
        generalize l[k] = x at *
        generalize l'[k] = y at *
        have i1 : (k : Int) < (n : Int) := by omega
        rcases wr_cases x y with rfl | ⟨hne, q1⟩ | ⟨hne, q1, q2⟩ | ⟨hne, q1, q2, q3⟩ | ⟨hne, q1, q2, q3, q4⟩
        · have Q := HG rfl
          clear HG HN
          go_upto_region 6 with (fail)
          go_quiet (fail)
          go_wp2
          go_roundw
          case rel => exact ⟨k + 1, _, by omega, by go_num, rfl, Q.out⟩
          case measure => simp [intOf]; omega
        · have Q := HN hne
          clear HG HN
          go_upto_region 6 with (fail)
          go_quiet (fail)
          go_wp2
          go_ret
          exact ⟨by rw [Q.out]; rfl, below_drewN _ (below_drewN _ (Below.refl _ _))⟩
        · have Q := HN hne
          clear HG HN
          go_upto_region 6 with (fail)
          go_quiet (fail)
          go_wp2
          go_ret
          exact ⟨by rw [Q.out]; rfl, below_drewN _ (below_drewN _ (Below.refl _ _))⟩
        · have Q := HN hne
          clear HG HN
          go_upto_region 6 with (fail)
          go_quiet (fail)
          go_wp2
          go_ret
          exact ⟨by rw [Q.out]; rfl, below_drewN _ (below_drewN _ (Below.refl _ _))⟩
        · have Q := HN hne
          clear HG HN
          go_upto_region 6 with (fail)
          go_quiet (fail)
          go_wp2
          go_ret
          exact ⟨by rw [Q.out]; rfl, below_drewN _ (below_drewN _ (Below.refl _ _))⟩
      · have Q := Lib.hid (eq_done ht (by omega) (by omega))
        clear ht
        go_wp2
        go_ret
        exact ⟨by rw [Q.out]; rfl, below_drewN _ (Below.refl _ _)⟩
  · have Q := Lib.hid (eq_len (l := l) (l' := l') (by omega))
    have q1 : ((n : Int) != (n' : Int)) = true := by simp; omega
    clear h h'
    go_enter Tryd.func48, Tryd.ntmps48
    go_wp2
    go_ret
    exact ⟨by rw [Q.out]; rfl, Below.refl _ _⟩
end Go.Proofs.YtlkgpajpblhkeaaDoor
