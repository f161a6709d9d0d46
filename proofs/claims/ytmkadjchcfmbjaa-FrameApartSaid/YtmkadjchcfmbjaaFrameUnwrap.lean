/- Contracts of frame.Unwrap. Conditions: the bytes lie in memory and are not longer than 2^40. -/
import Derived.Test.YtmkadjchcfmbjaaFrameWrap
import Derived.Test.YtmkadjchcfmbjaaFrameUw
import Derived.Test.YtmkadjchcfmbjaaCodeTake
import Derived.Deep.RegionHeld3
namespace Go.Proofs.Ytmkadjchcfmbjaa
open Go.RowKit

theorem BAt.addr {w : World} {B n : Nat} {a : Option Addr} {l : List UInt8} (h : BAt w B a n l) (hn : 0 < n) : ∃ b off, a = some ⟨b, off, none⟩ ∧ b < B := by
  rcases h with ⟨_, h | ⟨b, off, ha, hb, _⟩⟩
  · omega
  · exact ⟨b, off, ha, hb⟩
theorem takeLen (g : Nat) (L : List UInt8) (w : World) (h : RdAt w g (L.take 8) true) (h8 : 8 ≤ L.length) :
    Calls Try.prog 24 #[.pointer (some ⟨g, 0, none⟩), .int .i64 4] w fun e w' => e = .returned (.int .u64 (lenB L : Nat)) ∧ RdAt w' g ((L.take 8).drop 4) true ∧ Only g w w' := by
  have := take_yes g (L.take 8) 4 w h (by simp; omega) (by omega)
  rw [List.take_take] at this
  exact this
theorem takeSum (g : Nat) (L : List UInt8) (w : World) (h : RdAt w g ((L.take 8).drop 4) true) (h8 : 8 ≤ L.length) :
    Calls Try.prog 24 #[.pointer (some ⟨g, 0, none⟩), .int .i64 4] w fun e w' => e = .returned (.int .u64 (sumOf L : Nat)) ∧ Only g w w' := by
  have := take_yes g ((L.take 8).drop 4) 4 w h (by simp; omega) (by omega)
  rw [List.drop_take, List.take_take] at this
  exact this.mono fun e w' h => ⟨h.1, h.2.2⟩

/-- An error is answered, and nothing that was there has turned. -/
def UwNo (w : World) (k : Nat) (e : Ending) (w' : World) : Prop := e = .returned (.tuple #[.slice none 0 0, .int .i64 0, .int .i64 k]) ∧ Below w.heap.size w w'
/-- A body is answered, as new memory. -/
def UwYes (w : World) (l : List UInt8) (e : Ending) (w' : World) : Prop :=
  ∃ a n c, e = .returned (.tuple #[.slice a n c, .int .i64 ((8 + n : Nat) : Int), .int .i64 0]) ∧ w'.ownsRow w.heap.size 5 1 (.slice a n c) n (bcells l) ∧ Below w.heap.size w w'

set_option maxHeartbeats 1000000 in
theorem bclone_any (a : Option Addr) (m c : Nat) (l : List UInt8) (w : World) (hl : BAt w w.heap.size a m l) (hlen : m ≤ 1099511627776) :
    Calls Try.prog 25 #[.slice a m c] w (NewB w l) := by
  obtain ⟨i0, hi, hz0, hz1, hz2⟩ := info_parts Try.info5
  rcases a with _ | ad
  · have hm : m = 0 := by
      rcases hl with ⟨_, h | ⟨b, off, h, _⟩⟩
      · exact h
      · cases h
    obtain rfl : l = [] := List.eq_nil_of_length_eq_zero (by rw [hl.len, hm])
    have heq : ∀ W : World, (binOp .eql 22 (.slice none m c) (.slice none 0 0)).run Try.prog W = .ok (.bool true) W := fun W => Lib.run_eql_slice_nil W 22 5 _ _ _ _ _ Try.underlying22
    clear hm
    go_enter Try.func25, Try.ntmps25
    go_wp2
    go_ret
    exact ⟨none, 0, 0, rfl, World.ownsRow_nil _ _ _ _, Below.refl _ _⟩
  · have heq : ∀ W : World, (binOp .eql 22 (.slice (some ad) m c) (.slice none 0 0)).run Try.prog W = .ok (.bool false) W := fun W => Lib.run_eql_slice_nil W 22 5 _ _ _ _ _ Try.underlying22
    go_enter Try.func25, Try.ntmps25
    go_wp2_with (at_builtin; (refine wpList_append_bytes _ rfl _ _ 22 rfl w.heap.size 5 i0 Try.underlying22 hi hz0 hz1 hz2 _ 0 [] rfl (own_empty w) w.heap.size (some ad) m l c rfl (hl.alloc (Nat.le_refl _) _) (by omega) (by simp) ?_; intro v' w1 hown hg; have R : PutIn w w1 v' (0 + m) ([] ++ l) := ⟨hown, ((Below.refl _ _).alloc (Nat.le_refl _) _).grown hg (by simp) (own_block (own_empty w))⟩; clear hown hg))
    go_ret
    exact R.out

theorem unwrap_short (a : Option Addr) (n c : Nat) (L : List UInt8) (w : World) (hl : BAt w w.heap.size a n L) (hnc : n ≤ c) (hcm : c ≤ maxLen) (h8 : n < 8) :
    Calls Try.prog 15 #[.slice a n c] w (UwNo w 4) := by
  have hd : decide ((n : Int) < 8) = true := by simp; omega
  go_enter Try.func15, Try.ntmps15
  go_wp2
  go_ret3
  exact ⟨rfl, Below.refl _ _⟩

set_option maxHeartbeats 1000000 in
theorem unwrap_long (a : Option Addr) (n c : Nat) (L : List UInt8) (w : World) (hl : BAt w w.heap.size a n L) (hnc : n ≤ c) (hcm : c ≤ maxLen) (h8 : 8 ≤ n) (h6 : 60000 < lenB L) :
    Calls Try.prog 15 #[.slice a n c] w (UwNo w 3) := by
  have hlen := hl.len
  have hL8 : 8 ≤ L.length := by omega
  have hb := lenB_lt L
  have hb2 := sumOf_lt L
  have i1 : (8 : Int) ≤ (c : Int) := by omega
  have i2 : (8 : Int) ≤ (n : Int) := by omega
  unfold maxLen at hcm
  have ht := hl.take (k := 8) (by omega)
  have d1 : decide ((60000 : Int) < (lenB L : Int)) = true := by simp; omega
  clear hlen
  by_cases hd : c = 8
  all_goals
    go_enter Try.func15, Try.ntmps15
    go_upto_region 3 with (fail)
    go_region_held3 (fun _ => True) (exact trivial) (first | (go_at_call 23; ((with_reducible refine (new_any _ 8 _ (L.take 8) _ ?_ (by omega)).mono ?_); (exact ht); rintro e w1 ⟨g, rfl, hr, hg1, hg2, hb1⟩; have hB1 : Below w.heap.size w w1 := below_on 1 (Below.refl _ _) hb1)))
    go_wp2_with (first | (go_at_call 24; ((with_reducible refine (takeLen g L _ hr hL8).mono ?_); rintro e w2 ⟨rfl, hr2, ho2⟩)) | (go_at_call 24; ((with_reducible refine (takeSum g L _ hr2 hL8).mono ?_); rintro e w3 ⟨rfl, ho3⟩; have hB3 : Below w.heap.size w w3 := Only.below (Only.below hB1 ho2 hg1 hB1.size) ho3 hg1 (Only.below hB1 ho2 hg1 hB1.size).size)))
    go_ret3
    exact ⟨rfl, hB3⟩
set_option maxHeartbeats 1000000 in
theorem unwrap_cut (a : Option Addr) (n c : Nat) (L : List UInt8) (w : World) (hl : BAt w w.heap.size a n L) (hnc : n ≤ c) (hcm : c ≤ maxLen) (h8 : 8 ≤ n) (h6 : lenB L ≤ 60000) (h7 : n - 8 < lenB L) :
    Calls Try.prog 15 #[.slice a n c] w (UwNo w 4) := by
  have hlen := hl.len
  have hL8 : 8 ≤ L.length := by omega
  have hb := lenB_lt L
  have hb2 := sumOf_lt L
  have i1 : (8 : Int) ≤ (c : Int) := by omega
  have i2 : (8 : Int) ≤ (n : Int) := by omega
  unfold maxLen at hcm
  have ht := hl.take (k := 8) (by omega)
  have d1 : decide ((60000 : Int) < (lenB L : Int)) = false := by simp; omega
  have d2 : decide (n - 8 < lenB L) = true := by simp; omega
  clear hlen
  by_cases hd : c = 8
  all_goals
    go_enter Try.func15, Try.ntmps15
    go_upto_region 3 with (fail)
    go_region_held3 (fun _ => True) (exact trivial) (first | (go_at_call 23; ((with_reducible refine (new_any _ 8 _ (L.take 8) _ ?_ (by omega)).mono ?_); (exact ht); rintro e w1 ⟨g, rfl, hr, hg1, hg2, hb1⟩; have hB1 : Below w.heap.size w w1 := below_on 1 (Below.refl _ _) hb1)))
    go_wp2_with (first | (go_at_call 24; ((with_reducible refine (takeLen g L _ hr hL8).mono ?_); rintro e w2 ⟨rfl, hr2, ho2⟩)) | (go_at_call 24; ((with_reducible refine (takeSum g L _ hr2 hL8).mono ?_); rintro e w3 ⟨rfl, ho3⟩; have hB3 : Below w.heap.size w w3 := Only.below (Only.below hB1 ho2 hg1 hB1.size) ho3 hg1 (Only.below hB1 ho2 hg1 hB1.size).size)))
    go_ret3
    exact ⟨rfl, hB3⟩
set_option maxHeartbeats 1000000 in
theorem unwrap_sum (a : Option Addr) (n c : Nat) (L : List UInt8) (w : World) (hl : BAt w w.heap.size a n L) (hnc : n ≤ c) (hcm : c ≤ maxLen) (h8 : 8 ≤ n) (h6 : lenB L ≤ 60000) (h7 : lenB L ≤ n - 8) (hs : sumB (bodyB L) ≠ sumOf L) :
    Calls Try.prog 15 #[.slice a n c] w (UwNo w 5) := by
  have hlen := hl.len
  have hL8 : 8 ≤ L.length := by omega
  have hb := lenB_lt L
  have hb2 := sumOf_lt L
  have i1 : (8 : Int) ≤ (c : Int) := by omega
  have i2 : (8 : Int) ≤ (n : Int) := by omega
  unfold maxLen at hcm
  have ht := hl.take (k := 8) (by omega)
  have d1 : decide ((60000 : Int) < (lenB L : Int)) = false := by simp; omega
  have d2 : decide (n - 8 < lenB L) = false := by simp; omega
  have j1 : lenB L ≤ c - 8 := by omega
  have hsl := sumB_lt' (bodyB L)
  obtain ⟨b, off, rfl, _⟩ := hl.addr (by omega)
  have hbd := (hl.drop (k := 8) (cap := c) (by omega) hnc).take (k := lenB L) h7
  have d3 : (((sumB (bodyB L) : Nat) : Int) == ((sumOf L : Nat) : Int)) = false := by simp; omega
  have d4 : (((sumB (bodyB L) : Nat) : Int) != ((sumOf L : Nat) : Int)) = true := by simp; omega
  clear hlen
  by_cases hd : c = 8
  all_goals
    first | rw [if_pos hd] at hbd | rw [if_neg hd, Option.map_some, add_plain] at hbd
    change BAt w w.heap.size _ (lenB L) (bodyB L) at hbd
    go_enter Try.func15, Try.ntmps15
    go_upto_region 3 with (fail)
    go_region_held3 (fun _ => True) (exact trivial) (first | (go_at_call 23; ((with_reducible refine (new_any _ 8 _ (L.take 8) _ ?_ (by omega)).mono ?_); (exact ht); rintro e w1 ⟨g, rfl, hr, hg1, hg2, hb1⟩; have hB1 : Below w.heap.size w w1 := below_on 1 (Below.refl _ _) hb1)))
    go_wp2_with (first | (go_at_call 24; ((with_reducible refine (takeLen g L _ hr hL8).mono ?_); rintro e w2 ⟨rfl, hr2, ho2⟩)) | (go_at_call 24; ((with_reducible refine (takeSum g L _ hr2 hL8).mono ?_); rintro e w3 ⟨rfl, ho3⟩; have hB3 : Below w.heap.size w w3 := Only.below (Only.below hB1 ho2 hg1 hB1.size) ho3 hg1 (Only.below hB1 ho2 hg1 hB1.size).size)) | (go_at_call 12; ((with_reducible refine (sum_any w.heap.size _ (lenB L) _ (bodyB L) _ (hbd.below hB3 (Nat.le_refl _)) (by unfold maxLen; omega)).mono ?_); rintro e w' ⟨rfl, rfl⟩)))
    go_ret3
    exact ⟨rfl, hB3⟩
set_option maxHeartbeats 1000000 in
theorem unwrap_yes (a : Option Addr) (n c : Nat) (L : List UInt8) (w : World) (hl : BAt w w.heap.size a n L) (hnc : n ≤ c) (hcm : c ≤ maxLen) (h8 : 8 ≤ n) (h6 : lenB L ≤ 60000) (h7 : lenB L ≤ n - 8) (hs : sumB (bodyB L) = sumOf L) :
    Calls Try.prog 15 #[.slice a n c] w (UwYes w (bodyB L)) := by
  have hlen := hl.len
  have hL8 : 8 ≤ L.length := by omega
  have hb := lenB_lt L
  have hb2 := sumOf_lt L
  have i1 : (8 : Int) ≤ (c : Int) := by omega
  have i2 : (8 : Int) ≤ (n : Int) := by omega
  unfold maxLen at hcm
  have ht := hl.take (k := 8) (by omega)
  have d1 : decide ((60000 : Int) < (lenB L : Int)) = false := by simp; omega
  have d2 : decide (n - 8 < lenB L) = false := by simp; omega
  have j1 : lenB L ≤ c - 8 := by omega
  have hsl := sumB_lt' (bodyB L)
  obtain ⟨b, off, rfl, _⟩ := hl.addr (by omega)
  have hbd := (hl.drop (k := 8) (cap := c) (by omega) hnc).take (k := lenB L) h7
  have hbl := Lib.hid (show (bodyB L).length = lenB L by simp [bodyB]; omega)
  have HS : ∀ (W : World) {x : Option Addr} {y : Nat}, BAt W w.heap.size x (lenB L) (bodyB L) → Calls Try.prog 12 #[.slice x (lenB L) y] W fun e w' => e = .returned (.int .u32 (sumOf L : Nat)) ∧ W = w' := by
    intro W x y h
    rw [← hs]
    exact sum_any _ _ _ _ _ W h (by unfold maxLen; omega)
  clear hs
  clear hlen
  by_cases hd : c = 8
  all_goals
    first | rw [if_pos hd] at hbd | rw [if_neg hd, Option.map_some, add_plain] at hbd
    change BAt w w.heap.size _ (lenB L) (bodyB L) at hbd
    go_enter Try.func15, Try.ntmps15
    go_upto_region 3 with (fail)
    go_region_held3 (fun _ => True) (exact trivial) (first | (go_at_call 23; ((with_reducible refine (new_any _ 8 _ (L.take 8) _ ?_ (by omega)).mono ?_); (exact ht); rintro e w1 ⟨g, rfl, hr, hg1, hg2, hb1⟩; have hB1 : Below w.heap.size w w1 := below_on 1 (Below.refl _ _) hb1)))
    go_wp2_with (first | (go_at_call 24; ((with_reducible refine (takeLen g L _ hr hL8).mono ?_); rintro e w2 ⟨rfl, hr2, ho2⟩)) | (go_at_call 24; ((with_reducible refine (takeSum g L _ hr2 hL8).mono ?_); rintro e w3 ⟨rfl, ho3⟩; have hB3 : Below w.heap.size w w3 := Only.below (Only.below hB1 ho2 hg1 hB1.size) ho3 hg1 (Only.below hB1 ho2 hg1 hB1.size).size)) | (go_at_call 12; ((with_reducible refine (HS _ (hbd.below hB3 (Nat.le_refl _))).mono ?_); rintro e w' ⟨rfl, rfl⟩)) | (go_at_call 25; ((with_reducible refine (bclone_any _ (lenB L) _ (bodyB L) _ ((hbd.below hB3 (Nat.le_refl _)).more hB3.size) (by omega)).mono ?_); rintro e w4 ⟨a4, n4, c4, rfl, ho4, hb4⟩; have hn4 := Lib.hid (own_len ho4))))
    go_ret3
    exact ⟨a4, n4, c4, by rw [← hn4.out, hbl.out]; go_num, own_base ho4 hB3.size, hB3.trans (hb4.mono hB3.size)⟩
theorem unwrap_no (a : Option Addr) (n c : Nat) (L : List UInt8) (w : World) (hl : BAt w w.heap.size a n L) (hnc : n ≤ c) (hcm : c ≤ maxLen) (he : uwErr L ≠ 0) :
    Calls Try.prog 15 #[.slice a n c] w (UwNo w (uwErr L)) := by
  have hlen := hl.len
  by_cases h8 : n < 8
  · rw [uwErr_short (by omega)]; exact unwrap_short a n c L w hl hnc hcm h8
  · by_cases h6 : 60000 < lenB L
    · rw [uwErr_long (by omega) h6]; exact unwrap_long a n c L w hl hnc hcm (by omega) h6
    · by_cases h7 : n - 8 < lenB L
      · rw [uwErr_cut (by omega) (by omega) (by omega)]; exact unwrap_cut a n c L w hl hnc hcm (by omega) (by omega) h7
      · by_cases hs : sumB (bodyB L) = sumOf L
        · exact absurd (uwErr_ok (by omega) (by omega) (by omega) hs) he
        · rw [uwErr_sum (by omega) (by omega) (by omega) hs]; exact unwrap_sum a n c L w hl hnc hcm (by omega) (by omega) (by omega) hs
theorem unwrap_ok (a : Option Addr) (n c : Nat) (L : List UInt8) (w : World) (hl : BAt w w.heap.size a n L) (hnc : n ≤ c) (hcm : c ≤ maxLen) (he : uwErr L = 0) :
    Calls Try.prog 15 #[.slice a n c] w (UwYes w (bodyB L)) := by
  have hlen := hl.len
  obtain ⟨h8, h6, h7, hs⟩ := uwErr_zero he
  exact unwrap_yes a n c L w hl hnc hcm (by omega) h6 (by omega) hs
end Go.Proofs.Ytmkadjchcfmbjaa
