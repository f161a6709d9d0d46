/- Contract of the document's own All. Conditions: the bytes lie in memory and are not longer than 2^40. -/
import Derived.Test.YtmkadjchcfmbjaaFrameAll
import Derived.Test.YtmkadjchcfmbjaaFrameRefUnwrap
namespace Go.Proofs.Ytmkadjchcfmbjaa
open Go.RowKit

set_option maxHeartbeats 1000000 in
theorem refAll_any (a : Option Addr) (n c : Nat) (L : List UInt8) (w : World) (hl : BAt w w.heap.size a n L) (hnc : n ≤ c) (hcm : c ≤ maxLen) (hn : n ≤ 1099511627776) :
    Calls Try.prog 18 #[.slice a n c] w (AllOut w (· < w.heap.size) L) := by
  obtain ⟨i0, hi, hz0, hz1, hz2⟩ := info_parts Try.info22
  have hcm' := hcm
  unfold maxLen at hcm'
  go_enter Try.func18, Try.ntmps18
  go_wp2
  go_loopw [4, 5] (fun v x wr => ∃ (u k : Nat) (D : List (List UInt8)), u ≤ n ∧ k * 8 ≤ u ∧ x = .int .i64 u ∧ D ++ allB (L.drop u) = allB L ∧ u + usedB (L.drop u) = usedB L ∧ OwnRows w wr (· < w.heap.size) v k D) (fun _ x _ => n - (intOf x).toNat)
  case atStart => exact ⟨0, 0, [], by omega, by omega, rfl, rfl, Nat.zero_add _, OwnRows.nil w⟩
  case round =>
    obtain ⟨u, k, D, hu, hk8, rfl, h1, h2, hR⟩ := hrel
    have hlen := hl.len
    have hBr : Below w.heap.size w wr := hR.1
    by_cases hun : u < n
    · obtain ⟨b, off, rfl, hbB⟩ := hl.addr (by omega)
      have hdr := hl.drop (k := u) (cap := c) hu hnc
      have hcu : ¬ c = u := by omega
      rw [if_neg hcu, Option.map_some, add_plain] at hdr
      have i1 : (u : Int) ≤ (n : Int) := by omega
      by_cases he : uwErr (L.drop u) = 0
      · obtain ⟨s1, s2⟩ := all_step he h1 h2
        obtain ⟨hh8, hh6, hh7, _⟩ := uwErr_zero he
        rw [List.length_drop] at hh7 hh8
        have hbl := bodyB_len he
        have HE := Lib.hid he; have S1 := Lib.hid s1; have S2 := Lib.hid s2; have HBL := Lib.hid hbl
        have hlu : u + (8 + lenB (L.drop u)) ≤ n := by omega
        clear he s1 s2 h1 h2 hlen hbl hh8 hh6 hh7
        go_upto_region 7 with (go_at_call 16; ((with_reducible refine (refUnwrap_ok w.heap.size _ (n - u) (c - u) (L.drop u) _ (hdr.below hBr (Nat.le_refl _)) hBr.size (by omega) (by unfold maxLen; omega) HE.out).mono ?_); rintro e w1 ⟨a1, n1, c1, rfl, hba1, hb1⟩; obtain rfl : n1 = lenB (L.drop u) := (by rw [← hba1.len, HBL.out]); have hR1 := hR.below hb1))
        obtain ⟨hB1, xs, hox, hel⟩ := hR1
        have hv := own_block hox
        have hS : ∀ b' off', a1 = some ⟨b', off', none⟩ → 0 < lenB (L.drop u) → b' < w.heap.size ∧ some b' ≠ u4.ownBlock := by
          intro b' off' e hp
          obtain ⟨b2, off2, e2, h2⟩ := hba1.addr hp
          rw [e] at e2; injection e2 with e2; injection e2 with e2; subst e2
          exact ⟨h2, fun e3 => by have := hv b' e3.symm; omega⟩
        have hb1' := hba1.more hB1.size
        clear hR
        have HS := Lib.hid hS; clear hS
        have hsz1 := hB1.size
        go_wp2_with (at_builtin; (refine wpList_append_lies _ rfl _ _ 33 rfl w.heap.size 22 i0 (.slice none 0 0) 1 24 Try.underlying33 hi hz0 hz1 hz2 rfl (by omega) u4 k xs rfl (hox.alloc _) ⟨w1.heap.size, 0, none⟩ 1 1 [.slice a1 (lenB (L.drop u)) c1] rfl rfl (World.news_of_block (heap_alloc_new _ _)) (by intro x hx; simp at hx; subst hx; rfl) (by omega) (by unfold maxLen; omega) (by omega) (by simp; omega) (w1.heap.size + 1) (by simp) ?_; intro g cap w2 ho2 hg2 hat hlt2; have R2 := OwnRows.push hB1 hel hv hb1' HS.out ho2 hg2 hat; clear ho2 hg2 hat hlt2))
        go_roundw
        case rel => exact ⟨u + (8 + lenB (L.drop u)), k + 1, _, by omega, by omega, by go_num, S1.out, S2.out, R2⟩
        case measure => simp [intOf]; omega
      · obtain ⟨s1, s2⟩ := all_end he h1 h2
        have HE := Lib.hid he; have S1 := Lib.hid s1; have S2 := Lib.hid s2
        have hlt := uwErr_lt (L.drop u)
        have hq : ((uwErr (L.drop u) : Int) == 0) = false := by simp; omega
        have hq2 : ((uwErr (L.drop u) : Int) != 0) = true := by simp; omega
        clear he s1 s2 h1 h2 hlen
        go_wp2_with (go_at_call 16; ((with_reducible refine (refUnwrap_no w.heap.size _ (n - u) (c - u) (L.drop u) _ (hdr.below hBr (Nat.le_refl _)) hBr.size (by omega) (by unfold maxLen; omega) HE.out).mono ?_); rintro e w1 ⟨rfl, hb1⟩))
        go_ret2
        exact (hR.below hb1).out S1.out S2.out
    · obtain rfl : u = n := by omega
      have he : uwErr (L.drop u) ≠ 0 := by rw [uwErr_short (by simp; omega)]; omega
      obtain ⟨s1, s2⟩ := all_end he h1 h2
      have S1 := Lib.hid s1; have S2 := Lib.hid s2
      clear he s1 s2 h1 h2 hlen
      go_wp2
      go_ret2
      exact hR.out S1.out S2.out
end Go.Proofs.Ytmkadjchcfmbjaa
