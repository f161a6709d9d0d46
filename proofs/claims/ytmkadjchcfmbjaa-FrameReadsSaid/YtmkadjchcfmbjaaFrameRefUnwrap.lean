/- Contracts of the document's own Unwrap. Conditions: the bytes lie in memory and are not longer than 2^40. -/
import Derived.Test.YtmkadjchcfmbjaaFrameUnwrap
import Derived.Test.YtmkadjchcfmbjaaCodeRefReader
namespace Go.Proofs.Ytmkadjchcfmbjaa
open Go.RowKit

theorem refTakeLen (B g : Nat) (L : List UInt8) (w : World) (h : RefAt w B g L 0 true) (h8 : 8 ≤ L.length) :
    Calls Try.prog 26 #[.pointer (some ⟨g, 0, none⟩), .int .i64 4] w fun e w' => e = .returned (.int .u64 (lenB L : Nat)) ∧ RefAt w' B g L 4 true ∧ Only g w w' :=
  refTake_yes B g L 0 4 w h (by simp; omega) (by omega)
theorem refTakeSum (B g : Nat) (L : List UInt8) (w : World) (h : RefAt w B g L 4 true) (h8 : 8 ≤ L.length) :
    Calls Try.prog 26 #[.pointer (some ⟨g, 0, none⟩), .int .i64 4] w fun e w' => e = .returned (.int .u64 (sumOf L : Nat)) ∧ Only g w w' :=
  (refTake_yes B g L 4 4 w h (by simp; omega) (by omega)).mono fun _ _ h => ⟨h.1, h.2.2⟩

/-- A part of what was handed is answered, which reads as l. -/
def RefYes (w : World) (B : Nat) (l : List UInt8) (e : Ending) (w' : World) : Prop :=
  ∃ a n c, e = .returned (.tuple #[.slice a n c, .int .i64 ((8 + n : Nat) : Int), .int .i64 0]) ∧ BAt w' B a n l ∧ Below w.heap.size w w'

theorem refUnwrap_short (B : Nat) (a : Option Addr) (n c : Nat) (L : List UInt8) (w : World) (hl : BAt w B a n L) (hB : B ≤ w.heap.size) (hnc : n ≤ c) (hcm : c ≤ maxLen) (h8 : n < 8) :
    Calls Try.prog 16 #[.slice a n c] w (UwNo w 4) := by
  have hd : decide ((n : Int) < 8) = true := by simp; omega
  go_enter Try.func16, Try.ntmps16
  go_wp2
  go_ret3
  exact ⟨rfl, Below.refl _ _⟩

set_option maxHeartbeats 1000000 in
theorem refUnwrap_long (B : Nat) (a : Option Addr) (n c : Nat) (L : List UInt8) (w : World) (hl : BAt w B a n L) (hB : B ≤ w.heap.size) (hnc : n ≤ c) (hcm : c ≤ maxLen) (h8 : 8 ≤ n) (h6 : 60000 < lenB L) :
    Calls Try.prog 16 #[.slice a n c] w (UwNo w 3) := by
  have hlen := hl.len
  have hL8 : 8 ≤ L.length := by omega
  have hb := lenB_lt L
  have hb2 := sumOf_lt L
  have hcm0 := hcm
  unfold maxLen at hcm
  have hd8 : decide ((n : Int) < 8) = false := by simp; omega
  have hr0 : RefAt (w.alloc (.cells #[.slice a n c, .int .i64 0, .bool false] 51)) B w.heap.size L 0 true := ⟨a, n, c, heap_alloc_new _ _, hnc, hcm0, hl.alloc hB _, Nat.zero_le _, hB⟩
  have HR0 := Lib.hid hr0
  clear hr0
  have d1 : decide ((60000 : Int) < (lenB L : Int)) = true := by simp; omega
  clear hlen
  go_enter Try.func16, Try.ntmps16
  go_wp2_with (first | (go_at_call 26; ((with_reducible refine (refTakeLen B w.heap.size L _ HR0.out hL8).mono ?_); rintro e w2 ⟨rfl, hr2, ho2⟩)) | (go_at_call 26; ((with_reducible refine (refTakeSum B w.heap.size L _ hr2 hL8).mono ?_); rintro e w3 ⟨rfl, ho3⟩; have hB3 : Below w.heap.size w w3 := Only.below (Only.below ((Below.refl _ _).alloc (Nat.le_refl _) _) ho2 (Nat.le_refl _) (by simp)) ho3 (Nat.le_refl _) (Only.below ((Below.refl _ _).alloc (Nat.le_refl _) _) ho2 (Nat.le_refl _) (by simp)).size)))
  go_ret3
  exact ⟨rfl, hB3⟩
set_option maxHeartbeats 1000000 in
theorem refUnwrap_cut (B : Nat) (a : Option Addr) (n c : Nat) (L : List UInt8) (w : World) (hl : BAt w B a n L) (hB : B ≤ w.heap.size) (hnc : n ≤ c) (hcm : c ≤ maxLen) (h8 : 8 ≤ n) (h6 : lenB L ≤ 60000) (h7 : n - 8 < lenB L) :
    Calls Try.prog 16 #[.slice a n c] w (UwNo w 4) := by
  have hlen := hl.len
  have hL8 : 8 ≤ L.length := by omega
  have hb := lenB_lt L
  have hb2 := sumOf_lt L
  have hcm0 := hcm
  unfold maxLen at hcm
  have hd8 : decide ((n : Int) < 8) = false := by simp; omega
  have hr0 : RefAt (w.alloc (.cells #[.slice a n c, .int .i64 0, .bool false] 51)) B w.heap.size L 0 true := ⟨a, n, c, heap_alloc_new _ _, hnc, hcm0, hl.alloc hB _, Nat.zero_le _, hB⟩
  have HR0 := Lib.hid hr0
  clear hr0
  have d1 : decide ((60000 : Int) < (lenB L : Int)) = false := by simp; omega
  have d2 : decide ((n : Int) - 8 < (lenB L : Int)) = true := by simp; omega
  clear hlen
  go_enter Try.func16, Try.ntmps16
  go_wp2_with (first | (go_at_call 26; ((with_reducible refine (refTakeLen B w.heap.size L _ HR0.out hL8).mono ?_); rintro e w2 ⟨rfl, hr2, ho2⟩)) | (go_at_call 26; ((with_reducible refine (refTakeSum B w.heap.size L _ hr2 hL8).mono ?_); rintro e w3 ⟨rfl, ho3⟩; have hB3 : Below w.heap.size w w3 := Only.below (Only.below ((Below.refl _ _).alloc (Nat.le_refl _) _) ho2 (Nat.le_refl _) (by simp)) ho3 (Nat.le_refl _) (Only.below ((Below.refl _ _).alloc (Nat.le_refl _) _) ho2 (Nat.le_refl _) (by simp)).size)))
  go_ret3
  exact ⟨rfl, hB3⟩
set_option maxHeartbeats 1000000 in
theorem refUnwrap_sum (B : Nat) (a : Option Addr) (n c : Nat) (L : List UInt8) (w : World) (hl : BAt w B a n L) (hB : B ≤ w.heap.size) (hnc : n ≤ c) (hcm : c ≤ maxLen) (h8 : 8 ≤ n) (h6 : lenB L ≤ 60000) (h7 : lenB L ≤ n - 8) (hs : sumB (bodyB L) ≠ sumOf L) :
    Calls Try.prog 16 #[.slice a n c] w (UwNo w 5) := by
  have hlen := hl.len
  have hL8 : 8 ≤ L.length := by omega
  have hb := lenB_lt L
  have hb2 := sumOf_lt L
  have hcm0 := hcm
  unfold maxLen at hcm
  have hd8 : decide ((n : Int) < 8) = false := by simp; omega
  have hr0 : RefAt (w.alloc (.cells #[.slice a n c, .int .i64 0, .bool false] 51)) B w.heap.size L 0 true := ⟨a, n, c, heap_alloc_new _ _, hnc, hcm0, hl.alloc hB _, Nat.zero_le _, hB⟩
  have HR0 := Lib.hid hr0
  clear hr0
  have d1 : decide ((60000 : Int) < (lenB L : Int)) = false := by simp; omega
  have d2 : decide ((n : Int) - 8 < (lenB L : Int)) = false := by simp; omega
  have j0 : (8 : Int) ≤ 8 + (lenB L : Int) := by omega
  have j1 : 8 + (lenB L : Int) ≤ (c : Int) := by omega
  have j2 : (8 + (lenB L : Int)).toNat = 8 + lenB L := by omega
  have hsl := sumB_lt' (bodyB L)
  obtain ⟨b, off, rfl, _⟩ := hl.addr (by omega)
  have hbd := (hl.drop (k := 8) (cap := c) (by omega) hnc).take (k := lenB L) h7
  have d3 : (((sumB (bodyB L) : Nat) : Int) == ((sumOf L : Nat) : Int)) = false := by simp; omega
  have d4 : (((sumB (bodyB L) : Nat) : Int) != ((sumOf L : Nat) : Int)) = true := by simp; omega
  clear hlen
  by_cases hd : c = 8
  all_goals
    first | (rw [if_pos hd] at hbd; subst hd) | rw [if_neg hd, Option.map_some, add_plain] at hbd
    change BAt w B _ (lenB L) (bodyB L) at hbd
    go_enter Try.func16, Try.ntmps16
    go_wp2_with (first | (go_at_call 26; ((with_reducible refine (refTakeLen B w.heap.size L _ HR0.out hL8).mono ?_); rintro e w2 ⟨rfl, hr2, ho2⟩)) | (go_at_call 26; ((with_reducible refine (refTakeSum B w.heap.size L _ hr2 hL8).mono ?_); rintro e w3 ⟨rfl, ho3⟩; have hB3 : Below w.heap.size w w3 := Only.below (Only.below ((Below.refl _ _).alloc (Nat.le_refl _) _) ho2 (Nat.le_refl _) (by simp)) ho3 (Nat.le_refl _) (Only.below ((Below.refl _ _).alloc (Nat.le_refl _) _) ho2 (Nat.le_refl _) (by simp)).size)) | (go_at_call 13; ((with_reducible refine (refSum_any B _ (lenB L) _ (bodyB L) _ (hbd.below hB3 hB) (by unfold maxLen; omega)).mono ?_); rintro e w' ⟨rfl, rfl⟩)))
    go_ret3
    exact ⟨rfl, hB3⟩
set_option maxHeartbeats 1000000 in
theorem refUnwrap_yes (B : Nat) (a : Option Addr) (n c : Nat) (L : List UInt8) (w : World) (hl : BAt w B a n L) (hB : B ≤ w.heap.size) (hnc : n ≤ c) (hcm : c ≤ maxLen) (h8 : 8 ≤ n) (h6 : lenB L ≤ 60000) (h7 : lenB L ≤ n - 8) (hs : sumB (bodyB L) = sumOf L) :
    Calls Try.prog 16 #[.slice a n c] w (RefYes w B (bodyB L)) := by
  have hlen := hl.len
  have hL8 : 8 ≤ L.length := by omega
  have hb := lenB_lt L
  have hb2 := sumOf_lt L
  have hcm0 := hcm
  unfold maxLen at hcm
  have hd8 : decide ((n : Int) < 8) = false := by simp; omega
  have hr0 : RefAt (w.alloc (.cells #[.slice a n c, .int .i64 0, .bool false] 51)) B w.heap.size L 0 true := ⟨a, n, c, heap_alloc_new _ _, hnc, hcm0, hl.alloc hB _, Nat.zero_le _, hB⟩
  have HR0 := Lib.hid hr0
  clear hr0
  have d1 : decide ((60000 : Int) < (lenB L : Int)) = false := by simp; omega
  have d2 : decide ((n : Int) - 8 < (lenB L : Int)) = false := by simp; omega
  have j0 : (8 : Int) ≤ 8 + (lenB L : Int) := by omega
  have j1 : 8 + (lenB L : Int) ≤ (c : Int) := by omega
  have j2 : (8 + (lenB L : Int)).toNat = 8 + lenB L := by omega
  have hsl := sumB_lt' (bodyB L)
  obtain ⟨b, off, rfl, _⟩ := hl.addr (by omega)
  have hbd := (hl.drop (k := 8) (cap := c) (by omega) hnc).take (k := lenB L) h7
  have HS : ∀ (W : World) {x : Option Addr} {y : Nat}, BAt W B x (lenB L) (bodyB L) → Calls Try.prog 13 #[.slice x (lenB L) y] W fun e w' => e = .returned (.int .u32 (sumOf L : Nat)) ∧ W = w' := by
    intro W x y h
    rw [← hs]
    exact refSum_any _ _ _ _ _ W h (by unfold maxLen; omega)
  clear hs
  clear hlen
  by_cases hd : c = 8
  all_goals
    first | (rw [if_pos hd] at hbd; subst hd) | rw [if_neg hd, Option.map_some, add_plain] at hbd
    change BAt w B _ (lenB L) (bodyB L) at hbd
    go_enter Try.func16, Try.ntmps16
    go_wp2_with (first | (go_at_call 26; ((with_reducible refine (refTakeLen B w.heap.size L _ HR0.out hL8).mono ?_); rintro e w2 ⟨rfl, hr2, ho2⟩)) | (go_at_call 26; ((with_reducible refine (refTakeSum B w.heap.size L _ hr2 hL8).mono ?_); rintro e w3 ⟨rfl, ho3⟩; have hB3 : Below w.heap.size w w3 := Only.below (Only.below ((Below.refl _ _).alloc (Nat.le_refl _) _) ho2 (Nat.le_refl _) (by simp)) ho3 (Nat.le_refl _) (Only.below ((Below.refl _ _).alloc (Nat.le_refl _) _) ho2 (Nat.le_refl _) (by simp)).size)) | (go_at_call 13; ((with_reducible refine (HS _ (hbd.below hB3 hB)).mono ?_); rintro e w' ⟨rfl, rfl⟩)))
    go_ret3
    exact ⟨_, lenB L, _, by go_num, hbd.below hB3 hB, hB3⟩
theorem refUnwrap_no (B : Nat) (a : Option Addr) (n c : Nat) (L : List UInt8) (w : World) (hl : BAt w B a n L) (hB : B ≤ w.heap.size) (hnc : n ≤ c) (hcm : c ≤ maxLen) (he : uwErr L ≠ 0) :
    Calls Try.prog 16 #[.slice a n c] w (UwNo w (uwErr L)) := by
  have hlen := hl.len
  by_cases h8 : n < 8
  · rw [uwErr_short (by omega)]; exact refUnwrap_short B a n c L w hl hB hnc hcm h8
  · by_cases h6 : 60000 < lenB L
    · rw [uwErr_long (by omega) h6]; exact refUnwrap_long B a n c L w hl hB hnc hcm (by omega) h6
    · by_cases h7 : n - 8 < lenB L
      · rw [uwErr_cut (by omega) (by omega) (by omega)]; exact refUnwrap_cut B a n c L w hl hB hnc hcm (by omega) (by omega) h7
      · by_cases hs : sumB (bodyB L) = sumOf L
        · exact absurd (uwErr_ok (by omega) (by omega) (by omega) hs) he
        · rw [uwErr_sum (by omega) (by omega) (by omega) hs]; exact refUnwrap_sum B a n c L w hl hB hnc hcm (by omega) (by omega) (by omega) hs
theorem refUnwrap_ok (B : Nat) (a : Option Addr) (n c : Nat) (L : List UInt8) (w : World) (hl : BAt w B a n L) (hB : B ≤ w.heap.size) (hnc : n ≤ c) (hcm : c ≤ maxLen) (he : uwErr L = 0) :
    Calls Try.prog 16 #[.slice a n c] w (RefYes w B (bodyB L)) := by
  have hlen := hl.len
  obtain ⟨h8, h6, h7, hs⟩ := uwErr_zero he
  exact refUnwrap_yes B a n c L w hl hB hnc hcm (by omega) h6 (by omega) hs
end Go.Proofs.Ytmkadjchcfmbjaa
