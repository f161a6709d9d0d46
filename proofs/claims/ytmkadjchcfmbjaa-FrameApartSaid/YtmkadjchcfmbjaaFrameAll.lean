/- Contract of frame.All: the bodies of the frames that stand there, as new memory, and how many bytes they have. Conditions: the bytes lie in memory and are not longer than 2^40. -/
import Derived.Test.YtmkadjchcfmbjaaFrameRows
namespace Go.Proofs.Ytmkadjchcfmbjaa
open Go.RowKit

theorem own_at {w : World} {B e n m c : Nat} {a : Option Addr} {xs : List Value} (h : w.ownsRow B e 1 (.slice a m c) n xs) : ∀ ad, a = some ad → B ≤ ad.block ∧ ad.block < w.heap.size := by
  obtain ⟨_, _, e1, _, _, h1⟩ := own_form h
  injection e1 with e1
  subst e1
  exact h1
theorem own_lt {w : World} {B e n : Nat} {v : Value} {xs : List Value} (h : w.ownsRow B e 1 v n xs) : ∀ g, v.ownBlock = some g → g < w.heap.size := by
  intro g hg
  obtain ⟨a, c, rfl, _, _, h1⟩ := own_form h
  cases a with
  | none => cases hg
  | some ad => injection hg with hg; subst hg; exact (h1 ad rfl).2
/-- The bodies and their length are answered. -/
def AllOut (w : World) (S : Nat → Prop) (L : List UInt8) (e : Ending) (w' : World) : Prop :=
  ∃ a k c, e = .returned (.tuple #[.slice a k c, .int .i64 ((usedB L : Nat) : Int)]) ∧ OwnRows w w' S (.slice a k c) k (allB L)
theorem OwnRows.out {w w' : World} {S : Nat → Prop} {v : Value} {k : Nat} {L : List UInt8} {D : List (List UInt8)} {u : Nat} (h : OwnRows w w' S v k D) (e1 : D = allB L) (e2 : u = usedB L) : AllOut w S L (.returned (.tuple #[v, .int .i64 (u : Int)])) w' := by
  subst e1; subst e2
  obtain ⟨hB, xs, ho, he⟩ := h
  obtain ⟨a, c, rfl, _⟩ := own_form ho
  exact ⟨a, k, c, rfl, hB, xs, ho, he⟩
theorem all_end {L : List UInt8} {D : List (List UInt8)} {u : Nat} (h : uwErr (L.drop u) ≠ 0) (h1 : D ++ allB (L.drop u) = allB L) (h2 : u + usedB (L.drop u) = usedB L) : D = allB L ∧ u = usedB L := by
  rw [(all_no h).1, List.append_nil] at h1
  rw [(all_no h).2] at h2
  exact ⟨h1, h2⟩
theorem all_step {L : List UInt8} {D : List (List UInt8)} {u : Nat} (h : uwErr (L.drop u) = 0) (h1 : D ++ allB (L.drop u) = allB L) (h2 : u + usedB (L.drop u) = usedB L) :
    (D ++ [bodyB (L.drop u)]) ++ allB (L.drop (u + (8 + lenB (L.drop u)))) = allB L ∧ u + (8 + lenB (L.drop u)) + usedB (L.drop (u + (8 + lenB (L.drop u)))) = usedB L := by
  obtain ⟨e1, e2⟩ := all_yes h
  rw [List.drop_drop] at e1 e2
  rw [e1] at h1
  rw [e2] at h2
  exact ⟨by rw [List.append_assoc]; exact h1, by omega⟩

set_option maxHeartbeats 1000000 in
theorem all_none (a : Option Addr) (c : Nat) (w : World) (hc : c ≤ maxLen) : Calls Try.prog 17 #[.slice a 0 c] w (AllOut w (w.heap.size ≤ ·) []) := by
  have hu : ∀ (a' : Option Addr), Calls Try.prog 15 #[.slice a' 0 c] w (UwNo w 4) := fun a' => unwrap_short a' 0 c [] w BAt.nil (by omega) hc (by omega)
  unfold maxLen at hc
  go_enter Try.func17, Try.ntmps17
  go_wp2
  refine wp_loop_rounds 1 ?_
  rw [rounds_succ]
  go_wp2_with (go_at_call 15; ((with_reducible refine (hu _).mono ?_); rintro e w1 ⟨rfl, hb1⟩))
  go_ret2
  exact ((OwnRows.nil w).below hb1).out (u := 0) rfl rfl

set_option maxHeartbeats 1000000 in
theorem all_any (a : Option Addr) (n c : Nat) (L : List UInt8) (w : World) (hl : BAt w w.heap.size a n L) (hnc : n ≤ c) (hcm : c ≤ maxLen) (hn : n ≤ 1099511627776) :
    Calls Try.prog 17 #[.slice a n c] w (AllOut w (w.heap.size ≤ ·) L) := by
  obtain ⟨i0, hi, hz0, hz1, hz2⟩ := info_parts Try.info22
  by_cases h0 : n = 0
  · subst h0
    obtain rfl : L = [] := List.eq_nil_of_length_eq_zero hl.len
    exact all_none a c w hcm
  · obtain ⟨b, off, rfl, hbB⟩ := hl.addr (by omega)
    have hcm' := hcm
    unfold maxLen at hcm'
    clear h0
    go_enter Try.func17, Try.ntmps17
    go_wp2
    go_loopw [4, 5] (fun v x wr => ∃ (u k : Nat) (D : List (List UInt8)), u ≤ n ∧ k * 8 ≤ u ∧ x = .int .i64 u ∧ D ++ allB (L.drop u) = allB L ∧ u + usedB (L.drop u) = usedB L ∧ OwnRows w wr (w.heap.size ≤ ·) v k D) (fun _ x _ => n - (intOf x).toNat)
    case atStart => exact ⟨0, 0, [], by omega, by omega, rfl, rfl, Nat.zero_add _, OwnRows.nil w⟩
    case round =>
      obtain ⟨u, k, D, hu, hk8, rfl, h1, h2, hR⟩ := hrel
      have hlen := hl.len
      have hdr := hl.drop (k := u) (cap := c) hu hnc
      have hBr : Below w.heap.size w wr := hR.1
      have i1 : (u : Int) ≤ (n : Int) := by omega
      by_cases he : uwErr (L.drop u) = 0
      · obtain ⟨s1, s2⟩ := all_step he h1 h2
        obtain ⟨hh8, hh6, hh7, _⟩ := uwErr_zero he
        rw [List.length_drop] at hh7 hh8
        have hcu : ¬ c = u := by omega
        rw [if_neg hcu, Option.map_some, add_plain] at hdr
        have hbl := bodyB_len he
        have HE := Lib.hid he; have S1 := Lib.hid s1; have S2 := Lib.hid s2; have HBL := Lib.hid hbl
        have hlu : u + (8 + lenB (L.drop u)) ≤ n := by omega
        clear he s1 s2 h1 h2 hlen hbl hh8 hh6 hh7
        go_upto_region 6 with (go_at_call 15; ((with_reducible refine (unwrap_ok _ (n - u) (c - u) (L.drop u) _ ((hdr.below hBr (Nat.le_refl _)).more hBr.size) (by omega) (by unfold maxLen; omega) HE.out).mono ?_); rintro e w1 ⟨a1, n1, c1, rfl, ho1, hb1⟩; obtain rfl : n1 = lenB (L.drop u) := (by rw [← own_len ho1, HBL.out]); have hR1 := hR.below hb1))
        obtain ⟨hB1, xs, hox, hel⟩ := hR1
        have hv := own_block hox
        have hlt := own_lt hR.2.choose_spec.1
        have hS : ∀ b' off', a1 = some ⟨b', off', none⟩ → 0 < lenB (L.drop u) → w.heap.size ≤ b' ∧ some b' ≠ u4.ownBlock := by
          intro b' off' e _
          have h1 := (own_at ho1 _ e).1
          refine ⟨Nat.le_trans hBr.size h1, fun e2 => ?_⟩
          have h2 := hlt b' e2.symm
          have h3 : wr.heap.size ≤ b' := h1
          omega
        have hb1' := BAt.of_own ho1
        clear hR hlt ho1
        have HS := Lib.hid hS; clear hS
        have hsz1 := hB1.size
        go_wp2_with (at_builtin; (refine wpList_append_lies _ rfl _ _ 33 rfl w.heap.size 22 i0 (.slice none 0 0) 1 24 Try.underlying33 hi hz0 hz1 hz2 rfl (by omega) u4 k xs rfl (hox.alloc _) ⟨w1.heap.size, 0, none⟩ 1 1 [.slice a1 (lenB (L.drop u)) c1] rfl rfl (World.news_of_block (heap_alloc_new _ _)) (by intro x hx; simp at hx; subst hx; rfl) (by omega) (by unfold maxLen; omega) (by omega) (by simp; omega) (w1.heap.size + 1) (by simp) ?_; intro g cap w2 ho2 hg2 hat hlt2; have R2 := OwnRows.push hB1 hel hv hb1' HS.out ho2 hg2 hat; clear ho2 hg2 hat hlt2))
        go_roundw
        case rel => exact ⟨u + (8 + lenB (L.drop u)), k + 1, _, by omega, by omega, by go_num, S1.out, S2.out, R2⟩
        case measure => simp [intOf]; omega
      · obtain ⟨s1, s2⟩ := all_end he h1 h2
        have HE := Lib.hid he; have S1 := Lib.hid s1; have S2 := Lib.hid s2
        have hlt := uwErr_lt (L.drop u)
        have hq : ((uwErr (L.drop u) : Int) == 0) = false := by simp; omega
        have hq2 : ((uwErr (L.drop u) : Int) != 0) = true := by simp; omega
        clear he s1 s2 h1 h2 hlen
        by_cases hcu : c = u
        · rw [if_pos hcu] at hdr
          subst hcu
          obtain rfl : n = c := by omega
          rw [Nat.sub_self] at hdr
          go_wp2_with (go_at_call 15; ((with_reducible refine (unwrap_no _ 0 0 (L.drop n) _ ((hdr.below hBr (Nat.le_refl _)).more hBr.size) (by omega) (by unfold maxLen; omega) HE.out).mono ?_); rintro e w1 ⟨rfl, hb1⟩))
          go_ret2
          exact (hR.below hb1).out S1.out S2.out
        · rw [if_neg hcu, Option.map_some, add_plain] at hdr
          go_wp2_with (go_at_call 15; ((with_reducible refine (unwrap_no _ (n - u) (c - u) (L.drop u) _ ((hdr.below hBr (Nat.le_refl _)).more hBr.size) (by omega) (by unfold maxLen; omega) HE.out).mono ?_); rintro e w1 ⟨rfl, hb1⟩))
          go_ret2
          exact (hR.below hb1).out S1.out S2.out
end Go.Proofs.Ytmkadjchcfmbjaa
