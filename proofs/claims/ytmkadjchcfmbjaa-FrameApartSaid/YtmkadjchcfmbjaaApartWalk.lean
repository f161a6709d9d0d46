/- The walk of the statement FrameApart. Conditions: what came in lies in memory. -/
import Derived.Test.YtmkadjchcfmbjaaFrameRows2
namespace Go.Proofs.Ytmkadjchcfmbjaa
open Go.RowKit

/-- Both lists' bodies are answered. -/
theorem all_both (a : Option Addr) (n c : Nat) (A M : List UInt8) (w : World) (hl : BAt w w.heap.size a n (A.take (usedB A) ++ M)) (hnc : n ≤ c) (hcm : c ≤ maxLen) (hn : n ≤ 1099511627776) :
    Calls Try.prog 17 #[.slice a n c] w fun e w' => ∃ a' k c', e = .returned (.tuple #[.slice a' k c', .int .i64 ((usedB A + usedB M : Nat) : Int)]) ∧ OwnRows w w' (w.heap.size ≤ ·) (.slice a' k c') k (allB A ++ allB M) := by
  refine (all_any a n c _ w hl hnc hcm hn).mono fun e w' ⟨a', k, c', h1, h2⟩ => ?_
  obtain ⟨e1, e2⟩ := all_app A M
  rw [e1] at h2
  rw [e2] at h1
  exact ⟨a', k, c', h1, h2⟩

/-- What stands behind the last append. -/
theorem apart_end {w1 w2 w5 w6 w7 : World} {x y : Value} {al : Option Addr} {kx ky kl cl : Nat} {As Bs : List (List UInt8)} {v7 : Value} {xs ys : List Value}
    (hx : OwnRows w1 w2 (w1.heap.size ≤ ·) x kx As) (ey : Els w6 (w2.heap.size ≤ ·) y.ownBlock ys Bs)
    (ex : Els w6 (w1.heap.size ≤ ·) x.ownBlock xs As) (hl : OwnRows w5 w6 (w5.heap.size ≤ ·) (.slice al kl cl) kl (As ++ Bs)) (h25 : w2.heap.size ≤ w5.heap.size) (h12 : w1.heap.size ≤ w2.heap.size)
    (ho7 : w7.ownsRow w1.heap.size 22 1 v7 (kx + ky) (xs ++ ys)) (hg : w6.grownBy w7 x.ownBlock) (hat : v7.ownBlock = x.ownBlock ∨ v7.ownBlock = some w6.heap.size)
    (hm : ∀ l ∈ As ++ Bs, l.length ≤ maxLen) :
    RowsAt w7 al kl (As ++ Bs) ∧ ∃ a7 c7, v7 = .slice a7 (kx + ky) c7 ∧ RowsAt w7 a7 (kx + ky) (As ++ Bs) := by
  have hxl : ∀ k, x.ownBlock = some k → k < w2.heap.size := own_lt hx.2.choose_spec.1
  refine ⟨?_, ?_⟩
  · obtain ⟨hB, zs, oz, ez⟩ := hl
    have ez' : Els w6 (w5.heap.size ≤ ·) x.ownBlock zs (As ++ Bs) := ez.weak fun b _ hS _ => ⟨hS, fun e => by have := hxl b e.symm; omega⟩
    refine rows_of (own_grown oz hg fun k hk e => ?_) (ez'.grown hg) hm
    have h1 := hxl k e
    have h2 := own_block oz k hk
    omega
  · have ey' : Els w6 (w1.heap.size ≤ ·) x.ownBlock ys Bs := ey.weak fun b _ hS _ => ⟨Nat.le_trans h12 hS, fun e => by have := hxl b e.symm; omega⟩
    have e7 := els_cat ex ey' hg hat
    obtain ⟨a7, c7, rfl, _⟩ := own_form ho7
    exact ⟨a7, c7, rfl, rows_of ho7 e7 hm⟩

set_option maxHeartbeats 1000000 in
theorem apart_walk (a a' : Option Addr) (m m' c c' : Nat) (A M : List UInt8) (w : World) (hl : BAt w w.heap.size a m A) (hl' : BAt w w.heap.size a' m' M) (hmc : m ≤ c) (hcm : c ≤ maxLen) (hmc' : m' ≤ c') (hcm' : c' ≤ maxLen) :
    Calls Try.prog 8 #[.slice a m c, .slice a' m' c'] w fun e w' => e = .returned (.bool true) ∧ Below w.heap.size w w' := by
  obtain ⟨i0, hi, hz0, hz1, hz2⟩ := info_parts Try.info5
  obtain ⟨i1, ji, jz0, jz1, jz2⟩ := info_parts Try.info22
  have hcm0 := hcm; have hcm0' := hcm'
  unfold maxLen at hcm0 hcm0'
  by_cases h7 : m ≤ 70000
  · have hd : decide ((70000 : Int) < (m : Int)) = false := by simp; omega
    by_cases h7' : m' ≤ 70000
    · have hd' : decide ((70000 : Int) < (m' : Int)) = false := by simp; omega
      have hlen := hl.len
      have hlen' := hl'.len
      have u1 := used_le A
      have u2 := used_le M
      have t1 : decide (usedB A ≤ m) = true := by simp; omega
      have t2 : decide (usedB M ≤ m') = true := by simp; omega
      have um : usedB A ≤ m := by omega
      have um' : usedB M ≤ m' := by omega
      have uc : ((usedB A : Nat) : Int) ≤ (c : Int) := by omega
      have k1 := (all_sizes A).2
      have k2 := (all_sizes M).2
      have hms : ∀ l ∈ allB A ++ allB M, l.length ≤ maxLen := by
        intro l h
        rcases List.mem_append.1 h with h | h
        · have := (all_sizes A).1 l h; unfold maxLen; omega
        · have := (all_sizes M).1 l h; unfold maxLen; omega
      have hta := hl.take (k := usedB A) (by omega)
      have K1 : (allB A).length * 8 ≤ 70000 := by omega
      have K2 : (allB M).length * 8 ≤ 70000 := by omega
      have HM := Lib.hid hms
      clear hlen hlen' hms u1 u2 k1 k2
      go_enter Try.func8, Try.ntmps8
      go_upto_region 6 with (first | (go_at_call 9; ((with_reducible refine (awake_any _).mono ?_); rintro e w1 ⟨rfl, hb1⟩)) | (go_at_call 17; ((with_reducible refine (all_any a m c A _ ((hl.below hb1 (Nat.le_refl _)).more hb1.size) hmc hcm (by omega)).mono ?_); rintro e w2 ⟨ax, kx, cx, rfl, hRx⟩; have hb2 : Below w1.heap.size w1 w2 := hRx.1; have hB2 : Below w.heap.size w w2 := hb1.trans (hb2.mono hb1.size); have hkx : kx * 8 ≤ 70000 := (by rw [← hRx.len]; exact K1))) | (go_at_call 17; ((with_reducible refine (all_any a' m' c' M _ ((hl'.below hB2 (Nat.le_refl _)).more hB2.size) hmc' hcm' (by omega)).mono ?_); rintro e w3 ⟨ay, ky, cy, rfl, hRy⟩; have hb3 : Below w2.heap.size w2 w3 := hRy.1; have hB3 : Below w.heap.size w w3 := hB2.trans (hb3.mono hB2.size); have hky : ky * 8 ≤ 70000 := (by rw [← hRy.len]; exact K2))))
      go_wp2_with (first | (at_builtin; (refine wpList_append_bytes _ rfl _ _ 22 rfl w3.heap.size 5 i0 Try.underlying22 hi hz0 hz1 hz2 _ 0 [] rfl (World.ownsRow_nil _ _ _ _) _ a (usedB A) (A.take (usedB A)) c rfl (hta.below hB3 (Nat.le_refl _)) (by omega) (Nat.le_refl _) ?_; intro v4 w4 ho4 hg4; rw [Nat.zero_add, List.nil_append] at ho4; have R4 : PutIn w3 w4 v4 (usedB A) (A.take (usedB A)) := ⟨ho4, (Below.refl _ _).grown hg4 (Nat.le_refl _) (by intro j hj; cases hj)⟩; clear ho4 hg4; have hB4 : Below w.heap.size w w4 := hB3.trans (R4.2.mono hB3.size))) | (at_builtin; (refine wpList_append_bytes _ rfl _ _ 22 rfl w3.heap.size 5 i0 Try.underlying22 hi hz0 hz1 hz2 _ _ _ rfl R4.1 _ a' m' M c' rfl (hl'.below hB4 (Nat.le_refl _)) (by omega) R4.2.size ?_; intro v5 w5 ho5 hg5; have R5 : PutIn w3 w5 v5 (usedB A + m') (A.take (usedB A) ++ M) := PutIn.next0 R4 ho5 hg5; clear ho5 hg5; obtain ⟨a5, c5, rfl, hnc5, hcm5, _⟩ := own_form R5.1; have o5 := BAt.of_own R5.1; have b5 := R5.2)) | (go_at_call 17; ((with_reducible refine (all_both a5 _ c5 A M _ o5 hnc5 hcm5 (by omega)).mono ?_); rintro e w6 ⟨al, kl, cl, rfl, hRl⟩; have hb6 : Below w5.heap.size w5 w6 := hRl.1; have h36 : Below w3.heap.size w3 w6 := b5.trans (hb6.mono b5.size); have h26 : Below w2.heap.size w2 w6 := hb3.trans (h36.mono hb3.size); obtain ⟨_, xs, ox, ex⟩ := hRx.below h26; obtain ⟨_, ys, oy, ey⟩ := hRy.below h36; have hkl : kl ≤ maxLen := (by rw [← hRl.len, List.length_append]; unfold maxLen; omega))) | (at_builtin; (refine wpList_append_row _ rfl _ _ 33 rfl w1.heap.size 22 i1 (.slice none 0 0) 24 Try.underlying33 ji jz0 jz1 jz2 rfl _ kx xs rfl ox ay ky cy ys rfl (CellsAt.of_own oy) ey.cells (by unfold maxLen; omega) (by omega) (Nat.le_trans hb2.size h26.size) ?_; intro v7 w7 ho7 hg7 hat7; obtain ⟨r1, a7, c7, rfl, r7⟩ := apart_end hRx ey ex hRl (Nat.le_trans hb3.size b5.size) hb2.size ho7 hg7 hat7 HM.out; have hB7 : Below w.heap.size w w7 := (hB3.trans (h36.mono hB3.size)).grown hg7 (Nat.le_trans hB3.size h36.size) (fun k hk => Nat.le_trans hb1.size (own_block ox k hk)); clear ho7 hg7 hat7)) | (go_at_call 19; ((with_reducible refine (rows_same al a7 kl (kx + ky) cl c7 (allB A ++ allB M) _ r1 r7 hkl).mono ?_); rintro e w' ⟨rfl, q, rfl⟩)))
      go_ret
      exact ⟨rfl, below_drewN _ hB7⟩
    · have hd' : decide ((70000 : Int) < (m' : Int)) = true := by simp; omega
      go_enter Try.func8, Try.ntmps8
      go_upto_region 2 with (go_at_call 9; ((with_reducible refine (awake_any _).mono ?_); rintro e w1 ⟨rfl, hb1⟩))
      go_wp2_with (go_at_call 9; ((with_reducible refine (awake_any _).mono ?_); rintro e w2 ⟨rfl, hb2⟩))
      go_ret
      exact ⟨rfl, hb1.trans (hb2.mono hb1.size)⟩
  · have hd : decide ((70000 : Int) < (m : Int)) = true := by simp; omega
    go_enter Try.func8, Try.ntmps8
    go_upto_region 2 with (go_at_call 9; ((with_reducible refine (awake_any _).mono ?_); rintro e w1 ⟨rfl, hb1⟩))
    go_wp2_with (go_at_call 9; ((with_reducible refine (awake_any _).mono ?_); rintro e w2 ⟨rfl, hb2⟩))
    go_ret
    exact ⟨rfl, hb1.trans (hb2.mono hb1.size)⟩
end Go.Proofs.Ytmkadjchcfmbjaa
