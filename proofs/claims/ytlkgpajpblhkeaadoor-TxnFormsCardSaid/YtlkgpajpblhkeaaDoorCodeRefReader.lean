/- Contracts of the document's own reader: Take, TakeText, Left, End. Conditions: it lies in memory as its literal lays it, in a block above its bytes. -/
import Derived.Test.YtlkgpajpblhkeaaDoorCodeTake

import Derived.Test.YtlkgpajpblhkeaaDoorCodeRef

import Derived.Deep.QuietTactic

import Derived.BigQuiet

namespace Go.Proofs.YtlkgpajpblhkeaaDoor

open Go.RowKit

/-- The document's reader in block g: its bytes, how many were taken, and whether it is well. -/
def RefAt (w : World) (B g : Nat) (L : List UInt8) (k : Nat) (ok : Bool) : Prop :=
  ∃ a n c, w.heap[g]? = some (.cells #[.slice a n c, .int .i64 k, .bool (!ok)] 48 (0, 0)) ∧ n ≤ c ∧ c ≤ maxLen ∧ BAt w B a n L ∧ k ≤ n ∧ B ≤ g

theorem ref_cells {w : World} {g : Nat} {x y z : Value} {t : TypeId} (h : w.heap[g]? = some (.cells #[x, y, z] t (0, 0))) :
    w.cell? ⟨g, 0, none⟩ = some x ∧ w.cell? ⟨g, 1, none⟩ = some y ∧ w.cell? ⟨g, 2, none⟩ = some z ∧ w.frozen? ⟨g, 1, none⟩ = false ∧ w.frozen? ⟨g, 2, none⟩ = false := by
  refine ⟨by rw [cell_of_row _ _ _ _ _ _ h]; rfl, by rw [cell_of_row _ _ _ _ _ _ h]; rfl, by rw [cell_of_row _ _ _ _ _ _ h]; rfl, ?_, ?_⟩ <;> simp [World.frozen?, h]
theorem only_drewN (q : Nat) {g : Nat} {a w : World} (h : Only g a w) : Only g a (w.drewN q) := ⟨h.os, h.tape, h.output, h.size, h.block⟩
theorem only_set_drewN (q g i : Nat) (w : World) (u : Value) : Only g w ((w.drewN q).setCell ⟨g, i, none⟩ u) := (only_drewN q (Only.refl g w)).trans (only_set _ g i u)

theorem ref_failed {w : World} {B g n c k q : Nat} {a : Option Addr} {L : List UInt8} {f : Bool} (hh : w.heap[g]? = some (.cells #[.slice a n c, .int .i64 k, .bool f] 48 (0, 0))) (h1 : n ≤ c) (h2 : c ≤ maxLen) (hl : BAt w B a n L) (hk : k ≤ n) (hB : B ≤ g) :
    RefAt ((w.drewN q).setCell ⟨g, 2, none⟩ (.bool true)) B g L k false ∧ Only g w ((w.drewN q).setCell ⟨g, 2, none⟩ (.bool true)) := by
  have ho := only_set_drewN q g 2 w (.bool true)
  have hh' : (w.drewN q).heap[g]? = some (.cells #[.slice a n c, .int .i64 k, .bool f] 48 (0, 0)) := hh
  exact ⟨⟨a, n, c, by rw [set_row hh']; rfl, h1, h2, hl.grown ho (by have := lt_of_heap hh; omega) hB, hk, hB⟩, ho⟩

set_option maxHeartbeats 1000000 in
theorem refTake_no (B g : Nat) (L : List UInt8) (k : Nat) (ok : Bool) (n : Int) (w : World) (h : RefAt w B g L k ok) (hn : ok = false ∨ n < 0 ∨ 8 < n ∨ (((L.drop k).length : Nat) : Int) < n) :
    Calls Tryd.prog 58 #[.pointer (some ⟨g, 0, none⟩), .int .i64 n] w fun e w' => e = .returned (.int .u64 0) ∧ RefAt w' B g L k false ∧ Only g w w' := by
  obtain ⟨a, m, c, hh, h1, h2, hl, hk, hBg⟩ := h
  have hlen := hl.len
  obtain ⟨c0, c1, c2, f1, f2⟩ := ref_cells hh
  have HF := fun q => @ref_failed w B g m c k q a L _ hh h1 h2 hl hk hBg
  have HN : ok = false ∨ n < 0 ∨ 8 < n ∨ (m : Int) - (k : Int) < n := by
    rcases hn with h | h | h | h
    · exact .inl h
    · exact .inr (.inl h)
    · exact .inr (.inr (.inl h))
    · refine .inr (.inr (.inr ?_)); rw [List.length_drop] at h; omega
  clear hn hl hlen hh
  unfold maxLen at h2
  cases ok
  · clear HN
    go_enter Tryd.func58, Tryd.ntmps58
    go_upto_region 1 with (fail)
    go_quiet (fail)
    go_wp2
    go_ret
    exact ⟨rfl, HF _⟩
  · by_cases d1 : n < 0
    · clear HN
      go_enter Tryd.func58, Tryd.ntmps58
      go_upto_region 1 with (fail)
      go_quiet (fail)
      go_wp2
      go_ret
      exact ⟨rfl, HF _⟩
    · by_cases d2 : 8 < n
      · clear HN
        have e1 : decide (n < 0) = false := by simp; omega
        go_enter Tryd.func58, Tryd.ntmps58
        go_upto_region 1 with (fail)
        go_quiet (fail)
        go_wp2
        go_ret
        exact ⟨rfl, HF _⟩
      · have d3 : (m : Int) - (k : Int) < n := by
          rcases HN with h | h | h | h
          · cases h
          · omega
          · omega
          · exact h
        clear HN
        have e1 : decide (n < 0) = false := by simp; omega
        have e2 : decide (8 < n) = false := by simp; omega
        have e3 : decide ((m : Int) - (k : Int) < n) = true := by simp; omega
        have e4 : IntKind.i64.wrap ((m : Int) - (k : Int)) = (m : Int) - (k : Int) := by rw [IntKind.wrap_i64]; omega
        go_enter Tryd.func58, Tryd.ntmps58
        go_upto_region 1 with (fail)
        go_quiet (fail)
        go_wp2
        go_ret
        exact ⟨rfl, HF _⟩

theorem ref_moved {w : World} {B g n c k k' q : Nat} {a : Option Addr} {L : List UInt8} (hh : w.heap[g]? = some (.cells #[.slice a n c, .int .i64 k, .bool (!true)] 48 (0, 0))) (h1 : n ≤ c) (h2 : c ≤ maxLen) (hl : BAt w B a n L) (hk : k' ≤ n) (hB : B ≤ g) :
    RefAt ((w.drewN q).setCell ⟨g, 1, none⟩ (.int .i64 k')) B g L k' true ∧ Only g w ((w.drewN q).setCell ⟨g, 1, none⟩ (.int .i64 k')) := by
  have ho := only_set_drewN q g 1 w (.int .i64 k')
  have hh' : (w.drewN q).heap[g]? = some (.cells #[.slice a n c, .int .i64 k, .bool (!true)] 48 (0, 0)) := hh
  exact ⟨⟨a, n, c, by rw [set_row hh']; rfl, h1, h2, hl.grown ho (by have := lt_of_heap hh; omega) hB, hk, hB⟩, ho⟩

set_option maxHeartbeats 1000000 in
theorem refTake_yes (B g : Nat) (L : List UInt8) (k t : Nat) (w : World) (h : RefAt w B g L k true) (ht : t ≤ (L.drop k).length) (h8 : t ≤ 8) :
    Calls Tryd.prog 58 #[.pointer (some ⟨g, 0, none⟩), .int .i64 t] w fun e w' => e = .returned (.int .u64 (numB ((L.drop k).take t) : Nat)) ∧ RefAt w' B g L (k + t) true ∧ Only g w w' := by
  obtain ⟨a, m, c, hh, h1, h2, hl, hk, hBg⟩ := h
  have hlen := hl.len
  have htl : t ≤ m - k := by rw [List.length_drop] at ht; omega
  obtain ⟨c0, c1, c2, f1, f2⟩ := ref_cells hh
  have HF := fun q => @ref_moved w B g m c k (k + t) q a L hh h1 h2 hl (by omega) hBg
  clear hh
  unfold maxLen at h2
  have e1 : decide ((t : Int) < 0) = false := by simp
  have e2 : decide (8 < (t : Int)) = false := by simp; omega
  have e3 : decide ((m : Int) - (k : Int) < (t : Int)) = false := by simp; omega
  have e4 : IntKind.i64.wrap ((m : Int) - (k : Int)) = (m : Int) - (k : Int) := by rw [IntKind.wrap_i64]; omega
  go_enter Tryd.func58, Tryd.ntmps58
  go_upto_region 1 with (fail)
  go_quiet (fail)
  go_wp2
  clear e1 e2 e3 e4
  go_loopw [5, 6] (fun x i wr => ∃ (j q : Nat), j ≤ t ∧ i = .int .i64 j ∧ x = .int .u64 (numB ((L.drop k).take j) : Nat) ∧ wr = w.drewN q) (fun _ i _ => t - (intOf i).toNat)
  case atStart => exact ⟨0, _, by omega, rfl, rfl, rfl⟩
  case round =>
    obtain ⟨j, q, hj, rfl, rfl, rfl⟩ := hrel
    by_cases hlt : j < t
    · obtain ⟨b, off, rfl, hbg, hc⟩ := hl.at_ (i := k + j) (by omega)
      have hS : numB ((L.drop k).take (j + 1)) = numB ((L.drop k).take j) * 256 + (L[k + j]'(by omega)).toNat := by
        rw [take_snoc _ _ (by rw [List.length_drop]; omega), numB_snoc]; simp
      have hB : numB ((L.drop k).take j) < 72057594037927936 := by
        have h3 := numB_lt ((L.drop k).take j)
        have h4 : ((L.drop k).take j).length ≤ 7 := by simp; omega
        have h5 : 256 ^ ((L.drop k).take j).length ≤ 256 ^ 7 := Nat.pow_le_pow_right (by omega) h4
        omega
      have hb8 := (L[k + j]'(by omega)).toNat_lt
      generalize numB ((L.drop k).take j) = X at *
      generalize (L[k + j]'(by omega)).toNat = V at *
      have HS := Lib.hid hS
      clear hS hl hlen ht
      have g1 : IntKind.i64.wrap ((k : Int) + (j : Int)) = (k : Int) + (j : Int) := by rw [IntKind.wrap_i64]; omega
      have g2 : ((k : Int) + (j : Int)).toNat = k + j := by omega
      have g3 : 0 ≤ (k : Int) + (j : Int) := by omega
      have g4 : IntKind.u64.wrap ((X : Int) * 256) = (X : Int) * 256 := by rw [IntKind.wrap_u64]; omega
      have g5 : IntKind.u64.wrap ((X : Int) * 256 + (V : Int)) = (X : Int) * 256 + (V : Int) := by rw [IntKind.wrap_u64]; omega
      have g6 : (k : Int) + (j : Int) < (m : Int) := by omega
      have g7 : IntKind.u64.wrap (V : Int) = (V : Int) := by rw [IntKind.wrap_u64]; omega
      go_upto_region 8 with (fail)
      go_quiet (fail)
      clear g1 g2 g3 g4 g5 g6 g7
      go_wp2
      go_roundw
      case rel => exact ⟨j + 1, _, by omega, by go_num, by rw [HS.out]; go_num, rfl⟩
      case measure => simp [intOf]; omega
    · obtain rfl : j = t := by omega
      have hki : (k : Int) + (j : Int) ≤ 9223372036854775807 := by omega
      clear hl hlen ht
      go_wp2
      go_ret
      exact ⟨rfl, HF _⟩

theorem refTake2_yes (B g : Nat) (L : List UInt8) (k : Nat) (w : World) (h : RefAt w B g L k true) (ht : 2 ≤ (L.drop k).length) :
    Calls Tryd.prog 58 #[.pointer (some ⟨g, 0, none⟩), .int .i64 2] w fun e w' => e = .returned (.int .u64 (textLen (L.drop k) : Nat)) ∧ RefAt w' B g L (k + 2) true ∧ Only g w w' := refTake_yes B g L k 2 w h ht (by omega)

set_option maxHeartbeats 1000000 in
theorem refTakeText_no (B g : Nat) (L : List UInt8) (k : Nat) (ok : Bool) (m : Int) (w : World) (h : RefAt w B g L k ok) (hT : ¬ (ok = true ∧ textOk (L.drop k) m)) :
    Calls Tryd.prog 59 #[.pointer (some ⟨g, 0, none⟩), .int .i64 m] w fun e w' => e = .returned (.string ⟨#[]⟩) ∧ (∃ k', RefAt w' B g L k' false) ∧ Only g w w' := by
  by_cases h1 : ok = true ∧ 2 ≤ (L.drop k).length
  · obtain ⟨rfl, h2⟩ := h1
    have hlt := textLen_lt (L.drop k)
    have hT' : m < (textLen (L.drop k) : Int) ∨ (L.drop k).length < 2 + textLen (L.drop k) := by
      rcases Classical.em (m < (textLen (L.drop k) : Int)) with h | h
      · exact .inl h
      · refine .inr ?_
        rcases Classical.em ((L.drop k).length < 2 + textLen (L.drop k)) with h' | h'
        · exact h'
        · exact absurd ⟨rfl, h2, by omega, by omega⟩ hT
    clear hT
    have hrt := refTake2_yes B g L k w h h2
    have hld : (L.drop k).length = L.length - k := by simp
    generalize textLen (L.drop k) = t at *
    have hT2 : m < (t : Int) ∨ L.length - k < 2 + t := by rw [hld] at hT'; exact hT'
    have h2' : 2 ≤ L.length - k := by omega
    clear hT' hld h2
    by_cases hm : m < (t : Int)
    · clear hT2
      have hd : decide (m < (t : Int)) = true := by simp; omega
      go_enter Tryd.func59, Tryd.ntmps59
      go_upto_region 2 with (go_at_call 58; ((with_reducible refine hrt.mono ?_); rintro e w1 ⟨rfl, hr, ho⟩))
      obtain ⟨a, n, c, hh, b1, b2, hl, hk, hBg⟩ := hr
      obtain ⟨c0, c1, c2, f1, f2⟩ := ref_cells hh
      have HF := fun q => @ref_failed w1 B g n c (k + 2) q a L _ hh b1 b2 hl hk hBg
      clear hh hrt
      go_quiet (fail)
      go_wp2
      go_ret
      exact ⟨rfl, ⟨_, (HF _).1⟩, ho.trans (HF _).2⟩
    · have hd : decide (m < (t : Int)) = false := by simp; omega
      go_enter Tryd.func59, Tryd.ntmps59
      go_upto_region 2 with (go_at_call 58; ((with_reducible refine hrt.mono ?_); rintro e w1 ⟨rfl, hr, ho⟩))
      obtain ⟨a, n, c, hh, b1, b2, hl, hk, hBg⟩ := hr
      have hlen := hl.len
      obtain ⟨c0, c1, c2, f1, f2⟩ := ref_cells hh
      have HF := fun q => @ref_failed w1 B g n c (k + 2) q a L _ hh b1 b2 hl hk hBg
      unfold maxLen at b2
      have e3 : decide ((n : Int) - ((k + 2 : Nat) : Int) < (t : Int)) = true := by simp; omega
      have e4 : IntKind.i64.wrap ((n : Int) - ((k + 2 : Nat) : Int)) = (n : Int) - ((k + 2 : Nat) : Int) := by rw [IntKind.wrap_i64]; omega
      clear hh hrt hlen hT2
      generalize k + 2 = k2 at *
      go_quiet (fail)
      go_wp2
      go_ret
      exact ⟨rfl, ⟨_, (HF _).1⟩, ho.trans (HF _).2⟩
  · have hn : ok = false ∨ (2 : Int) < 0 ∨ (8 : Int) < 2 ∨ (((L.drop k).length : Nat) : Int) < 2 := by
      cases ok
      · exact .inl rfl
      · refine .inr (.inr (.inr ?_))
        have : ¬ 2 ≤ (L.drop k).length := fun h => h1 ⟨rfl, h⟩
        omega
    have hrt := refTake_no B g L k ok 2 w h hn
    clear hn hT h1
    go_enter Tryd.func59, Tryd.ntmps59
    go_upto_region 2 with (go_at_call 58; ((with_reducible refine hrt.mono ?_); rintro e w1 ⟨rfl, hr, ho⟩))
    obtain ⟨a, n, c, hh, b1, b2, hl, hk, hBg⟩ := hr
    obtain ⟨c0, c1, c2, f1, f2⟩ := ref_cells hh
    have HF := fun q => @ref_failed w1 B g n c k q a L _ hh b1 b2 hl hk hBg
    clear hh hrt
    go_quiet (fail)
    go_wp2
    go_ret
    exact ⟨rfl, ⟨_, (HF _).1⟩, ho.trans (HF _).2⟩

set_option maxHeartbeats 1000000 in
theorem refTakeText_yes (B g : Nat) (L : List UInt8) (k : Nat) (m : Int) (w : World) (h : RefAt w B g L k true) (hT : textOk (L.drop k) m) :
    Calls Tryd.prog 59 #[.pointer (some ⟨g, 0, none⟩), .int .i64 m] w fun e w' => e = .returned (.string ⟨(((L.drop k).drop 2).take (textLen (L.drop k))).toArray⟩) ∧ RefAt w' B g L (k + 2 + textLen (L.drop k)) true ∧ Only g w w' := by
  obtain ⟨h2, h3, h4⟩ := hT
  have hlt := textLen_lt (L.drop k)
  have hrt := refTake2_yes B g L k w h h2
  have hld : (L.drop k).length = L.length - k := by simp
  generalize textLen (L.drop k) = t at *
  have hd : decide (m < (t : Int)) = false := by simp; omega
  have h5 : 2 + t ≤ L.length - k := by omega
  have h6 : ((L.drop k).drop 2).take t = (L.drop (k + 2)).take t := by rw [List.drop_drop]
  rw [h6]
  obtain ⟨k2, hk2⟩ : ∃ k2, k2 = k + 2 := ⟨_, rfl⟩
  rw [← hk2] at hrt ⊢
  have h7 : k2 + t ≤ L.length := by omega
  clear h2 h4 h6 hld h5 hk2
  go_enter Tryd.func59, Tryd.ntmps59
  go_upto_region 2 with (go_at_call 58; ((with_reducible refine hrt.mono ?_); rintro e w1 ⟨rfl, hr, ho⟩))
  obtain ⟨a, n, c, hh, b1, b2, hl, hk, hBg⟩ := hr
  have hlen := hl.len
  obtain ⟨c0, c1, c2, f1, f2⟩ := ref_cells hh
  have hkt : k2 + t ≤ n := by omega
  have HF : ∀ q, RefAt ((w1.drewN q).setCell ⟨g, 1, none⟩ (.int .i64 ((k2 : Int) + (t : Int)))) B g L (k2 + t) true ∧ Only g w1 ((w1.drewN q).setCell ⟨g, 1, none⟩ (.int .i64 ((k2 : Int) + (t : Int)))) := fun q => by rw [← Int.natCast_add]; exact ref_moved hh b1 b2 hl hkt hBg
  unfold maxLen at b2
  clear hh hrt
  have hdr := (hl.drop (k := k2) (cap := c) (by omega) b1).take (k := t) (by omega)
  have e3 : decide ((n : Int) - (k2 : Int) < (t : Int)) = false := by simp; omega
  have e4 : IntKind.i64.wrap ((n : Int) - (k2 : Int)) = (n : Int) - (k2 : Int) := by rw [IntKind.wrap_i64]; omega
  have e5 : IntKind.i64.wrap ((k2 : Int) + (t : Int)) = (k2 : Int) + (t : Int) := by rw [IntKind.wrap_i64]; omega
  have e6 : ((k2 : Int) + (t : Int)).toNat = k2 + t := by omega
  have e7 : 0 ≤ (k2 : Int) + (t : Int) := by omega
  clear hlen hl h7
  by_cases hc : c = k2
  · rw [if_pos hc] at hdr
    subst hc
    have hcv : ∀ q, (convert 43 9 (.slice a t 0)).run Tryd.prog (w1.drewN q) = .ok (.string ⟨((L.drop c).take t).toArray⟩) (w1.drewN q) := fun q => run_convert_bytes (P := Tryd.prog) _ 43 5 9 Tryd.underlying43 Tryd.underlying5 Tryd.underlying9 B _ t _ _ (hdr.drewN q)
    go_quiet (fail)
    go_upto_region 5 with (fail)
    go_quiet (fail)
    clear hcv e3 e4 e6 e7
    go_wp2
    go_ret
    exact ⟨rfl, (HF _).1, ho.trans (HF _).2⟩
  · rw [if_neg hc] at hdr
    have hcv : ∀ q, (convert 43 9 (.slice (a.map (·.add k2)) t (c - k2))).run Tryd.prog (w1.drewN q) = .ok (.string ⟨((L.drop k2).take t).toArray⟩) (w1.drewN q) := fun q => run_convert_bytes (P := Tryd.prog) _ 43 5 9 Tryd.underlying43 Tryd.underlying5 Tryd.underlying9 B _ t _ _ (hdr.drewN q)
    go_quiet (fail)
    go_upto_region 5 with (fail)
    go_quiet (fail)
    clear hcv e3 e4 e6 e7
    go_wp2
    go_ret
    exact ⟨rfl, (HF _).1, ho.trans (HF _).2⟩

theorem refLeft_any (B g : Nat) (L : List UInt8) (k : Nat) (ok : Bool) (w : World) (h : RefAt w B g L k ok) :
    Calls Tryd.prog 38 #[.pointer (some ⟨g, 0, none⟩)] w (Reads1 w (.int .i64 ((if ok then L.length - k else 0 : Nat) : Int))) := by
  obtain ⟨a, n, c, hh, b1, b2, hl, hk, hBg⟩ := h
  have hlen := hl.len
  obtain ⟨c0, c1, c2, f1, f2⟩ := ref_cells hh
  unfold maxLen at b2
  have e4 : IntKind.i64.wrap ((n : Int) - (k : Int)) = (n : Int) - (k : Int) := by rw [IntKind.wrap_i64]; omega
  have HL := Lib.hid hlen
  clear hh hl hlen
  cases ok
  · go_enter Tryd.func38, Tryd.ntmps38
    go_wp2
    go_ret
    exact ⟨rfl, 0, rfl⟩
  · go_enter Tryd.func38, Tryd.ntmps38
    go_upto_region 3 with (fail)
    go_quiet (fail)
    go_wp2
    go_ret
    refine ⟨?_, _, rfl⟩
    rw [HL.out]
    show Ending.returned (.int .i64 ((n : Int) - (k : Int))) = .returned (.int .i64 ((n - k : Nat) : Int))
    rw [Int.ofNat_sub hk]
end Go.Proofs.YtlkgpajpblhkeaaDoor
