/- Contract of quorum.List: a new row of the numbers that are in the set. Condition: a set is below 2^64. -/
import Derived.Test.YtfmbjjdicghbaaaQuorumProg

import Derived.OwnWalk

import Derived.WalkSpells

namespace Go.Proofs.Ytfmbjjdicghbaaa

open Go.RowKit

theorem Try.qInfo3 : (Try.prog.info? 3).map (fun i => (i.zero, i.size, i.bytes)) = some (some (.int .i64 0), 1, 8) := by kernel_rfl

def nrow (l : List Nat) : List Value := l.map fun i => .int .i64 ((i : Nat) : Int)
/-- What a loop holds: the list made so far. -/
def MadeN (w wr : World) (v : Value) (l : List Nat) : Prop := wr.ownsRow w.heap.size 3 1 v l.length (nrow l) ∧ Below w.heap.size w wr
theorem MadeN.start (w : World) : MadeN w w (.slice none 0 0) [] := ⟨World.ownsRow_nil _ _ _ _, Below.refl _ _⟩
theorem MadeN.own {w wr : World} {v : Value} {l : List Nat} (h : MadeN w wr v l) : wr.ownsRow w.heap.size 3 1 v l.length (nrow l) := h.1
theorem MadeN.bel {w wr : World} {v : Value} {l : List Nat} (h : MadeN w wr v l) : Below w.heap.size w wr := h.2
theorem MadeN.next {w wr w1 : World} {v v' : Value} {l : List Nat} {k : Nat} {o : Obj} (h : MadeN w wr v l)
    (ho : w1.ownsRow w.heap.size 3 1 v' (l.length + 1) (nrow l ++ [.int .i64 ((k : Nat) : Int)])) (hg : (wr.alloc o).grownBy w1 v.ownBlock) : MadeN w w1 v' (l ++ [k]) := by
  refine ⟨?_, ?_⟩
  · have e : nrow (l ++ [k]) = nrow l ++ [.int .i64 ((k : Nat) : Int)] := by unfold nrow; rw [List.map_append]; rfl
    rw [e, List.length_append]; exact ho
  · have hs := h.2.size
    exact (h.2.alloc hs o).grown hg (by simp; omega) fun j hj => (h.1.lt j hj).1

/-- A slice that reads as a list of numbers. -/
def NAt (w : World) (a : Option Addr) (l : List Nat) : Prop :=
  l = [] ∨ ∃ b off, a = some ⟨b, off, none⟩ ∧ ∀ i (h : i < l.length), w.cell? ⟨b, off + i, none⟩ = some (.int .i64 ((l[i] : Nat) : Int))
theorem NAt.later {w w' : World} {a : Option Addr} {l : List Nat} (h : NAt w a l) (hb : Below w.heap.size w w') : NAt w' a l := by
  rcases h with h | ⟨b, off, ha, hc⟩
  · exact .inl h
  · exact .inr ⟨b, off, ha, fun i hi => cell_later hb (hc i hi)⟩
theorem NAt.at_ {w : World} {a : Option Addr} {l : List Nat} (h : NAt w a l) {i : Nat} (hi : i < l.length) :
    ∃ b off, a = some ⟨b, off, none⟩ ∧ w.cell? ⟨b, off + i, none⟩ = some (.int .i64 ((l[i] : Nat) : Int)) := by
  rcases h with h | ⟨b, off, ha, hc⟩
  · subst h; simp at hi
  · exact ⟨b, off, ha, hc i hi⟩
theorem MadeN.lies {w wr : World} {v : Value} {l : List Nat} (h : MadeN w wr v l) : ∃ a cap, v = .slice a l.length cap ∧ NAt wr a l := by
  obtain ⟨hlen, h0 | ⟨g, cap, cur, rfl, hbg, hg, hnc, hcm, hcs, htake⟩⟩ := h.1
  · obtain ⟨rfl, h1⟩ := h0
    have : l = [] := by cases l with
      | nil => rfl
      | cons x t => simp at h1
    subst this
    exact ⟨none, 0, rfl, .inl rfl⟩
  · refine ⟨_, cap, rfl, .inr ⟨g, 0, rfl, fun i hi => ?_⟩⟩
    have := h.1.cells (g := g) rfl i (.int .i64 ((l[i] : Nat) : Int)) (by simp [nrow, hi])
    have ha : (⟨g, 0, none⟩ : Addr).add i = ⟨g, 0 + i, none⟩ := by by_cases c : i = 0 <;> simp [Addr.add, c]
    rw [ha] at this
    exact this

/-- What a call that answers a new list of numbers does. -/
def NewN (w : World) (l : List Nat) (e : Ending) (w' : World) : Prop := ∃ a cap, e = .returned (.slice a l.length cap) ∧ NAt w' a l ∧ Below w.heap.size w w'

theorem list_yes (s k : Nat) (hk : k ≤ 63) (h : hasB s (k : Int) = true) : listN s (k + 1) = listN s k ++ [k] := by
  rw [has_yes s k (by omega) (by omega)] at h
  have h' : s.testBit k = true := h
  rw [listN, h']; rfl
theorem list_no (s k : Nat) (hk : k ≤ 63) (h : hasB s (k : Int) = false) : listN s (k + 1) = listN s k := by
  rw [has_yes s k (by omega) (by omega)] at h
  have h' : s.testBit k = false := h
  rw [listN, h']; simp

set_option maxHeartbeats 1000000 in
theorem qList_any (s : Nat) (n : Int) (w : World) (hs : s < 18446744073709551616) :
    Calls Try.prog 16 #[.int .u64 s, .int .i64 n] w (NewN w (listN s (upto n))) := by
  obtain ⟨i0, hi, hz0, hz1, hz2⟩ := info_parts Try.qInfo3
  have hu := upto_le n
  go_enter Try.func16, Try.ntmps16
  go_wp2_with (go_at_call 22; ((with_reducible refine (qBounded_any _ _).mono ?_); rintro e w' ⟨rfl, rfl⟩))
  generalize upto n = m at *
  go_loopw [5, 9] (fun v i wr => ∃ (k : Nat), k ≤ m ∧ i = .int .i64 k ∧ MadeN w wr v (listN s k)) (fun _ i _ => m - (intOf i).toNat)
  case atStart => exact ⟨0, by omega, rfl, MadeN.start w⟩
  case round =>
    obtain ⟨k, hk, rfl, hM⟩ := hrel
    by_cases hlt : k < m
    · have hll : (listN s k).length ≤ 64 := by rw [listN_len]; have := cnt_le s k; omega
      cases hb : hasB s k
      · have HS := Lib.hid (list_no s k (by omega) hb)
        generalize listN s k = l at *
        go_wp2_with (go_at_call 20; ((with_reducible refine (qHas_any _ _ _ hs).mono ?_); rintro e w' ⟨rfl, rfl⟩))
        go_roundw
        case rel => exact ⟨k + 1, by omega, by go_num, by rw [HS.out]; exact hM⟩
        case measure => simp [intOf]; omega
      · have HS := Lib.hid (list_yes s k (by omega) hb)
        generalize listN s k = l at *
        have hown := hM.own
        have hsz := hM.bel.size
        go_wp2_with (first
          | (go_at_call 20; ((with_reducible refine (qHas_any _ _ _ hs).mono ?_); rintro e w' ⟨rfl, rfl⟩))
          | (at_builtin; refine wpList_append_own _ rfl _ _ 28 rfl w.heap.size 3 i0 (.int .i64 0) 1 8 Try.underlying28 hi hz0 hz1 hz2 rfl (by decide) _ _ _ rfl (hown.alloc _) ⟨wr.heap.size, 0, none⟩ 1 1 [.int .i64 k] rfl rfl (cell_one_new _ _ _) (by intro u hu; simp at hu; subst hu; rfl) (by unfold maxLen; omega) (by omega) (by simp; omega) ?_; intro v' w1 hown' hgrow _; have R := hM.next hown' hgrow; clear hown' hgrow))
        go_roundw
        case rel => exact ⟨k + 1, by omega, by go_num, by rw [HS.out]; exact R⟩
        case measure => simp [intOf]; omega
    · obtain rfl : k = m := by omega
      obtain ⟨a, cap, rfl, hN⟩ := hM.lies
      have hbel := hM.bel
      clear hM
      go_wp2
      go_ret
      exact ⟨a, cap, rfl, hN, hbel⟩
end Go.Proofs.Ytfmbjjdicghbaaa
