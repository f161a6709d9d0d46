
/- What Write and Read come to, formed or not, alike for the program and the document. Conditions: the records and the bytes lie in memory; the tables of utf8 lie there. Contracts of frame.Unwrap. Conditions: the bytes lie in memory and are not longer than 2^40. Contract of frame.All: the bodies of the frames that stand there, as new memory, and how many bytes they have. Conditions: the bytes lie in memory and are not longer than 2^40. Contract of wal.told. Conditions: the bytes lie in memory; the tables of utf8 lie there. -/
import Derived.Test.YtcfmifongbapkaaGreatDoorQZP
import Derived.Test.YtcfmifongbapkaaGreatDoorQZ
import Derived.Test.YtcfmifongbapkaaGreatDoorQZB
import Derived.Test.YtcfmifongbapkaaGreatDoorQN
import Derived.Test.YtcfmifongbapkaaGreatDoorQB
import Derived.Deep.RegionHeld3
import Derived.Test.YtcfmifongbapkaaGreatDoorQZM
import Derived.Test.YtcfmifongbapkaaGreatDoorQW
/- WalUni -/
namespace Go.Proofs.YtcfmifongbapkaaGreatDoor

open Go.RowKit

set_option linter.unusedVariables false
set_option linter.unusedSimpArgs false

noncomputable def wrE (x : Rc) : Int := if formR x = true then 0 else 2
noncomputable def wrL (x : Rc) : List UInt8 := if formR x = true then rcB x else []
theorem wr_no {x : Rc} (h : formR x = false) : wrE x = 2 ∧ wrL x = [] := by
  unfold wrE wrL
  rw [h]
  exact ⟨rfl, rfl⟩
theorem wr_yes {x : Rc} (h : formR x = true) : wrE x = 0 ∧ wrL x = rcB x := by
  unfold wrE wrL
  rw [h]
  exact ⟨rfl, rfl⟩
/-- A record's bytes, or none. -/
def Wrote (w : World) (x : Rc) (e : Ending) (w' : World) : Prop := ∃ a n c, e = .returned (.tuple #[.slice a n c, .int .i64 (wrE x)]) ∧ BAt w' w'.heap.size a n (wrL x) ∧ n ≤ maxLen ∧ Below w.heap.size w w'
theorem Wrote.no {w w' : World} {x : Rc} {e : Ending} (hf : formR x = false) (h : NoForm w e w') : Wrote w x e w' := by
  obtain ⟨he, hb⟩ := h
  obtain ⟨e1, e2⟩ := wr_no hf
  exact ⟨none, 0, 0, by rw [e1]; exact he, by rw [e2]; exact BAt.nil, Nat.zero_le _, hb⟩
theorem Wrote.yes {w w' : World} {x : Rc} {e : Ending} (hf : formR x = true) (h : NewB2 w (rcB x) e w') : Wrote w x e w' := by
  obtain ⟨a, n, c, he, ho, hb⟩ := h
  obtain ⟨e1, e2⟩ := wr_yes hf
  obtain ⟨q1, q2⟩ := own_caps ho
  exact ⟨a, n, c, by rw [e1]; exact he, by rw [e2]; exact BAt.of_own ho, Nat.le_trans q1 q2, hb⟩
theorem wWrite_any (x : RcM) (L : RcL) (w : World) (h : RcAt w x L) (hf : RcF x) (hU : Tabs w) :
    Calls Tryz.prog 10 #[.agg (rcV x)] w (Wrote w (rcT x L)) := by
  cases hF : formR (rcT x L)
  · exact (wWrite_no x L w h hf hU hF).mono fun e w' h => Wrote.no hF h
  · exact (wWrite_yes x L w h hf hU hF).mono fun e w' h => Wrote.yes hF h
theorem rWrite_any (x : RcM) (L : RcL) (w : World) (h : RcAt w x L) (hf : RcF x) :
    Calls Tryz.prog 11 #[.agg (rcV x)] w (Wrote w (rcT x L)) := by
  cases hF : formR (rcT x L)
  · exact (rWrite_no x L w h hf hF).mono fun e w' h => Wrote.no hF h
  · exact (rWrite_yes x L w h hf hF).mono fun e w' h => Wrote.yes hF h
noncomputable def rdE (l : List UInt8) : Int := if (readR l).isSome = true then 0 else 2
noncomputable def rdX (l : List UInt8) : Rc := (readR l).getD (rcT zeroR noLR)
/-- The record that bytes are read as, or the zero one. -/
def ReadU (w : World) (l : List UInt8) (e : Ending) (w' : World) : Prop := ∃ x L, e = .returned (.tuple #[.agg (rcV x), .int .i64 (rdE l)]) ∧ Below w.heap.size w w' ∧ RcAt w' x L ∧ RcF x ∧ rcT x L = rdX l
theorem zero_at (w : World) : RcAt w zeroR noLR ∧ RcF zeroR := ⟨⟨CmAt.zero, BAt.nil, by show 0 < 4294967296; decide⟩, ⟨Nat.zero_le _, Nat.zero_le _, Nat.zero_le _⟩⟩
theorem ReadU.of {w w' : World} {l : List UInt8} {S : Nat → Prop} {e : Ending} (h : ReadD w S l e w') : ReadU w l e w' := by
  unfold ReadU rdE rdX
  rcases h with ⟨x, L, he, hb, h1, h2, _, hr⟩ | ⟨he, hb, hr⟩
  · rw [hr]; exact ⟨x, L, he, hb, h1, h2, rfl⟩
  · rw [hr]; exact ⟨zeroR, noLR, he, hb, (zero_at w').1, (zero_at w').2, rfl⟩
theorem wRead_u (a : Option Addr) (m c : Nat) (l : List UInt8) (w : World) (hl : BAt w w.heap.size a m l) (hm : m ≤ 1000000) (hU : Tabs w) :
    Calls Tryz.prog 13 #[.slice a m c] w (ReadU w l) :=
  (wRead_any a m c l w hl hm hU).mono fun e w' h => by
    rcases h with ⟨x, L, he, hb, h1, h2, _, hr⟩ | h
    · exact ReadU.of (S := fun _ => True) (.inl ⟨x, L, he, hb, h1, h2, ⟨.inr fun _ _ => trivial, .inr fun _ _ => trivial, .inr fun _ _ => trivial⟩, hr⟩)
    · exact ReadU.of (S := fun _ => True) (.inr h)
theorem rRead_u (a : Option Addr) (m c : Nat) (l : List UInt8) (w : World) (hl : BAt w w.heap.size a m l) (hmc : m ≤ c) (hcm : c ≤ maxLen) (hm : m ≤ 1000000) :
    Calls Tryz.prog 14 #[.slice a m c] w (ReadU w l) :=
  (rRead_any (fun _ => True) a m c l w hl (fun _ _ => trivial) (fun _ _ => trivial) hmc hcm hm).mono fun e w' h => ReadU.of h
theorem made_r (w : World) (x : RcM) : BoxC (w.alloc (.cells zeroRV 47)) w.heap.size (rcV zeroR) 47 ∧ Below w.heap.size w ((w.alloc (.cells zeroRV 47)).setRow w.heap.size (rcV x)) ∧ BoxC ((w.alloc (.cells zeroRV 47)).setRow w.heap.size (rcV x)) w.heap.size (rcV x) 47 := by
  have hZ : BoxC (w.alloc (.cells zeroRV 47)) w.heap.size (rcV zeroR) 47 := BoxC.new w zeroRV 47
  exact ⟨hZ, Only.below ((Below.refl _ _).alloc (Nat.le_refl _) _) (only_fill _ w.heap.size (rcV x)) (Nat.le_refl _) (by simp), hZ.fill _⟩
end Go.Proofs.YtcfmifongbapkaaGreatDoor

/- FrameUnwrap -/
namespace Go.Proofs.YtcfmifongbapkaaGreatDoor

open Go.RowKit

set_option linter.unusedVariables false

theorem takeLen (g : Nat) (L : List UInt8) (w : World) (h : RdAt w g (L.take 8) true) (h8 : 8 ≤ L.length) :
    Calls Tryz.prog 80 #[.pointer (some ⟨g, 0, none⟩), .int .i64 4] w fun e w' => e = .returned (.int .u64 (lenB L : Nat)) ∧ RdAt w' g ((L.take 8).drop 4) true ∧ Only g w w' := by
  have := take_yes g (L.take 8) 4 w h (by simp; omega) (by omega)
  rw [List.take_take] at this
  exact this
theorem takeSum (g : Nat) (L : List UInt8) (w : World) (h : RdAt w g ((L.take 8).drop 4) true) (h8 : 8 ≤ L.length) :
    Calls Tryz.prog 80 #[.pointer (some ⟨g, 0, none⟩), .int .i64 4] w fun e w' => e = .returned (.int .u64 (sumOf L : Nat)) ∧ Only g w w' := by
  have := take_yes g ((L.take 8).drop 4) 4 w h (by simp; omega) (by omega)
  rw [List.drop_take, List.take_take] at this
  exact this.mono fun e w' h => ⟨h.1, h.2.2⟩

/-- An error is answered, and nothing that was there has turned. -/
def UwNo (w : World) (k : Nat) (e : Ending) (w' : World) : Prop := e = .returned (.tuple #[.slice none 0 0, .int .i64 0, .int .i64 k]) ∧ Below w.heap.size w w'
/-- A body is answered, as new memory. -/
def UwYes (w : World) (l : List UInt8) (e : Ending) (w' : World) : Prop :=
  ∃ a n c, e = .returned (.tuple #[.slice a n c, .int .i64 ((8 + n : Nat) : Int), .int .i64 0]) ∧ w'.ownsRow w.heap.size 5 1 (.slice a n c) n (bcells l) ∧ Below w.heap.size w w'

theorem unwrap_short (a : Option Addr) (n c : Nat) (L : List UInt8) (w : World) (hl : BAt w w.heap.size a n L) (hnc : n ≤ c) (hcm : c ≤ maxLen) (h8 : n < 8) :
    Calls Tryz.prog 101 #[.slice a n c] w (UwNo w 4) := by
  have hd : decide ((n : Int) < 8) = true := by simp; omega
  go_enter Tryz.func101, Tryz.ntmps101
  go_wp2
  go_ret3
  exact ⟨rfl, Below.refl _ _⟩

set_option maxHeartbeats 1000000 in
theorem unwrap_long (a : Option Addr) (n c : Nat) (L : List UInt8) (w : World) (hl : BAt w w.heap.size a n L) (hnc : n ≤ c) (hcm : c ≤ maxLen) (h8 : 8 ≤ n) (h6 : 60000 < lenB L) :
    Calls Tryz.prog 101 #[.slice a n c] w (UwNo w 3) := by
  have hlen := hl.len
  have hL8 : 8 ≤ L.length := by omega
  have hb := lenB_lt L
  have hb2 := sumOf_lt L
  have i1 : (8 : Int) ≤ (c : Int) := by omega
  have i2 : (8 : Int) ≤ (n : Int) := by omega
  unfold maxLen at hcm
  have ht := hl.take (k := 8) (by omega)
  have d1 : decide ((60000 : Int) < (lenB L : Int)) = true := by simp; omega
  clear hlen
  by_cases hd : c = 8
  all_goals
    go_enter Tryz.func101, Tryz.ntmps101
    go_upto_region 3 with (fail)
    go_region_held3 (fun _ => True) (exact trivial) (first | (go_at_call 42; ((with_reducible refine (new_any _ 8 _ (L.take 8) _ ?_ (by omega)).mono ?_); (exact ht); rintro e w1 ⟨g, rfl, hr, hg1, hg2, hb1⟩; have hB1 : Below w.heap.size w w1 := below_on 1 (Below.refl _ _) hb1)))
    go_wp2_with (first | (go_at_call 80; ((with_reducible refine (takeLen g L _ hr hL8).mono ?_); rintro e w2 ⟨rfl, hr2, ho2⟩)) | (go_at_call 80; ((with_reducible refine (takeSum g L _ hr2 hL8).mono ?_); rintro e w3 ⟨rfl, ho3⟩; have hB3 : Below w.heap.size w w3 := Only.below (Only.below hB1 ho2 hg1 hB1.size) ho3 hg1 (Only.below hB1 ho2 hg1 hB1.size).size)))
    go_ret3
    exact ⟨rfl, hB3⟩
set_option maxHeartbeats 1000000 in
theorem unwrap_cut (a : Option Addr) (n c : Nat) (L : List UInt8) (w : World) (hl : BAt w w.heap.size a n L) (hnc : n ≤ c) (hcm : c ≤ maxLen) (h8 : 8 ≤ n) (h6 : lenB L ≤ 60000) (h7 : n - 8 < lenB L) :
    Calls Tryz.prog 101 #[.slice a n c] w (UwNo w 4) := by
  have hlen := hl.len
  have hL8 : 8 ≤ L.length := by omega
  have hb := lenB_lt L
  have hb2 := sumOf_lt L
  have i1 : (8 : Int) ≤ (c : Int) := by omega
  have i2 : (8 : Int) ≤ (n : Int) := by omega
  unfold maxLen at hcm
  have ht := hl.take (k := 8) (by omega)
  have d1 : decide ((60000 : Int) < (lenB L : Int)) = false := by simp; omega
  have d2 : decide (n - 8 < lenB L) = true := by simp; omega
  clear hlen
  by_cases hd : c = 8
  all_goals
    go_enter Tryz.func101, Tryz.ntmps101
    go_upto_region 3 with (fail)
    go_region_held3 (fun _ => True) (exact trivial) (first | (go_at_call 42; ((with_reducible refine (new_any _ 8 _ (L.take 8) _ ?_ (by omega)).mono ?_); (exact ht); rintro e w1 ⟨g, rfl, hr, hg1, hg2, hb1⟩; have hB1 : Below w.heap.size w w1 := below_on 1 (Below.refl _ _) hb1)))
    go_wp2_with (first | (go_at_call 80; ((with_reducible refine (takeLen g L _ hr hL8).mono ?_); rintro e w2 ⟨rfl, hr2, ho2⟩)) | (go_at_call 80; ((with_reducible refine (takeSum g L _ hr2 hL8).mono ?_); rintro e w3 ⟨rfl, ho3⟩; have hB3 : Below w.heap.size w w3 := Only.below (Only.below hB1 ho2 hg1 hB1.size) ho3 hg1 (Only.below hB1 ho2 hg1 hB1.size).size)))
    go_ret3
    exact ⟨rfl, hB3⟩
set_option maxHeartbeats 1000000 in
theorem unwrap_sum (a : Option Addr) (n c : Nat) (L : List UInt8) (w : World) (hl : BAt w w.heap.size a n L) (hnc : n ≤ c) (hcm : c ≤ maxLen) (h8 : 8 ≤ n) (h6 : lenB L ≤ 60000) (h7 : lenB L ≤ n - 8) (hs : sumB (bodyB L) ≠ sumOf L) :
    Calls Tryz.prog 101 #[.slice a n c] w (UwNo w 5) := by
  have hlen := hl.len
  have hL8 : 8 ≤ L.length := by omega
  have hb := lenB_lt L
  have hb2 := sumOf_lt L
  have i1 : (8 : Int) ≤ (c : Int) := by omega
  have i2 : (8 : Int) ≤ (n : Int) := by omega
  unfold maxLen at hcm
  have ht := hl.take (k := 8) (by omega)
  have d1 : decide ((60000 : Int) < (lenB L : Int)) = false := by simp; omega
  have d2 : decide (n - 8 < lenB L) = false := by simp; omega
  have j1 : lenB L ≤ c - 8 := by omega
  have hsl := sumB_lt' (bodyB L)
  obtain ⟨b, off, rfl, _⟩ := hl.addr (by omega)
  have hbd := (hl.drop (k := 8) (cap := c) (by omega) hnc).take (k := lenB L) h7
  have d3 : (((sumB (bodyB L) : Nat) : Int) == ((sumOf L : Nat) : Int)) = false := by simp; omega
  have d4 : (((sumB (bodyB L) : Nat) : Int) != ((sumOf L : Nat) : Int)) = true := by simp; omega
  clear hlen
  by_cases hd : c = 8
  all_goals
    first | rw [if_pos hd] at hbd | rw [if_neg hd, Option.map_some, add_plain] at hbd
    change BAt w w.heap.size _ (lenB L) (bodyB L) at hbd
    go_enter Tryz.func101, Tryz.ntmps101
    go_upto_region 3 with (fail)
    go_region_held3 (fun _ => True) (exact trivial) (first | (go_at_call 42; ((with_reducible refine (new_any _ 8 _ (L.take 8) _ ?_ (by omega)).mono ?_); (exact ht); rintro e w1 ⟨g, rfl, hr, hg1, hg2, hb1⟩; have hB1 : Below w.heap.size w w1 := below_on 1 (Below.refl _ _) hb1)))
    go_wp2_with (first | (go_at_call 80; ((with_reducible refine (takeLen g L _ hr hL8).mono ?_); rintro e w2 ⟨rfl, hr2, ho2⟩)) | (go_at_call 80; ((with_reducible refine (takeSum g L _ hr2 hL8).mono ?_); rintro e w3 ⟨rfl, ho3⟩; have hB3 : Below w.heap.size w w3 := Only.below (Only.below hB1 ho2 hg1 hB1.size) ho3 hg1 (Only.below hB1 ho2 hg1 hB1.size).size)) | (go_at_call 128; ((with_reducible refine (sum_any w.heap.size _ (lenB L) _ (bodyB L) _ (hbd.below hB3 (Nat.le_refl _)) (by unfold maxLen; omega)).mono ?_); rintro e w' ⟨rfl, rfl⟩)))
    go_ret3
    exact ⟨rfl, hB3⟩
set_option maxHeartbeats 1000000 in
theorem unwrap_yes (a : Option Addr) (n c : Nat) (L : List UInt8) (w : World) (hl : BAt w w.heap.size a n L) (hnc : n ≤ c) (hcm : c ≤ maxLen) (h8 : 8 ≤ n) (h6 : lenB L ≤ 60000) (h7 : lenB L ≤ n - 8) (hs : sumB (bodyB L) = sumOf L) :
    Calls Tryz.prog 101 #[.slice a n c] w (UwYes w (bodyB L)) := by
  have hlen := hl.len
  have hL8 : 8 ≤ L.length := by omega
  have hb := lenB_lt L
  have hb2 := sumOf_lt L
  have i1 : (8 : Int) ≤ (c : Int) := by omega
  have i2 : (8 : Int) ≤ (n : Int) := by omega
  unfold maxLen at hcm
  have ht := hl.take (k := 8) (by omega)
  have d1 : decide ((60000 : Int) < (lenB L : Int)) = false := by simp; omega
  have d2 : decide (n - 8 < lenB L) = false := by simp; omega
  have j1 : lenB L ≤ c - 8 := by omega
  have hsl := sumB_lt' (bodyB L)
  obtain ⟨b, off, rfl, _⟩ := hl.addr (by omega)
  have hbd := (hl.drop (k := 8) (cap := c) (by omega) hnc).take (k := lenB L) h7
  have hbl := Lib.hid (show (bodyB L).length = lenB L by simp [bodyB]; omega)
  have HS : ∀ (W : World) {x : Option Addr} {y : Nat}, BAt W w.heap.size x (lenB L) (bodyB L) → Calls Tryz.prog 128 #[.slice x (lenB L) y] W fun e w' => e = .returned (.int .u32 (sumOf L : Nat)) ∧ W = w' := by
    intro W x y h
    rw [← hs]
    exact sum_any _ _ _ _ _ W h (by unfold maxLen; omega)
  clear hs
  clear hlen
  by_cases hd : c = 8
  all_goals
    first | rw [if_pos hd] at hbd | rw [if_neg hd, Option.map_some, add_plain] at hbd
    change BAt w w.heap.size _ (lenB L) (bodyB L) at hbd
    go_enter Tryz.func101, Tryz.ntmps101
    go_upto_region 3 with (fail)
    go_region_held3 (fun _ => True) (exact trivial) (first | (go_at_call 42; ((with_reducible refine (new_any _ 8 _ (L.take 8) _ ?_ (by omega)).mono ?_); (exact ht); rintro e w1 ⟨g, rfl, hr, hg1, hg2, hb1⟩; have hB1 : Below w.heap.size w w1 := below_on 1 (Below.refl _ _) hb1)))
    go_wp2_with (first | (go_at_call 80; ((with_reducible refine (takeLen g L _ hr hL8).mono ?_); rintro e w2 ⟨rfl, hr2, ho2⟩)) | (go_at_call 80; ((with_reducible refine (takeSum g L _ hr2 hL8).mono ?_); rintro e w3 ⟨rfl, ho3⟩; have hB3 : Below w.heap.size w w3 := Only.below (Only.below hB1 ho2 hg1 hB1.size) ho3 hg1 (Only.below hB1 ho2 hg1 hB1.size).size)) | (go_at_call 128; ((with_reducible refine (HS _ (hbd.below hB3 (Nat.le_refl _))).mono ?_); rintro e w' ⟨rfl, rfl⟩)) | (go_at_call 65; ((with_reducible refine (bclone_any _ (lenB L) _ (bodyB L) _ ((hbd.below hB3 (Nat.le_refl _)).more hB3.size) (by omega)).mono ?_); rintro e w4 ⟨a4, n4, c4, rfl, ho4, hb4⟩; have hn4 := Lib.hid (own_len ho4))))
    go_ret3
    exact ⟨a4, n4, c4, by rw [← hn4.out, hbl.out]; go_num, own_base ho4 hB3.size, hB3.trans (hb4.mono hB3.size)⟩
theorem unwrap_no (a : Option Addr) (n c : Nat) (L : List UInt8) (w : World) (hl : BAt w w.heap.size a n L) (hnc : n ≤ c) (hcm : c ≤ maxLen) (he : uwErr L ≠ 0) :
    Calls Tryz.prog 101 #[.slice a n c] w (UwNo w (uwErr L)) := by
  have hlen := hl.len
  by_cases h8 : n < 8
  · rw [uwErr_short (by omega)]; exact unwrap_short a n c L w hl hnc hcm h8
  · by_cases h6 : 60000 < lenB L
    · rw [uwErr_long (by omega) h6]; exact unwrap_long a n c L w hl hnc hcm (by omega) h6
    · by_cases h7 : n - 8 < lenB L
      · rw [uwErr_cut (by omega) (by omega) (by omega)]; exact unwrap_cut a n c L w hl hnc hcm (by omega) (by omega) h7
      · by_cases hs : sumB (bodyB L) = sumOf L
        · exact absurd (uwErr_ok (by omega) (by omega) (by omega) hs) he
        · rw [uwErr_sum (by omega) (by omega) (by omega) hs]; exact unwrap_sum a n c L w hl hnc hcm (by omega) (by omega) (by omega) hs
theorem unwrap_ok (a : Option Addr) (n c : Nat) (L : List UInt8) (w : World) (hl : BAt w w.heap.size a n L) (hnc : n ≤ c) (hcm : c ≤ maxLen) (he : uwErr L = 0) :
    Calls Tryz.prog 101 #[.slice a n c] w (UwYes w (bodyB L)) := by
  have hlen := hl.len
  obtain ⟨h8, h6, h7, hs⟩ := uwErr_zero he
  exact unwrap_yes a n c L w hl hnc hcm (by omega) h6 (by omega) hs
end Go.Proofs.YtcfmifongbapkaaGreatDoor

/- FrameAll -/
namespace Go.Proofs.YtcfmifongbapkaaGreatDoor

open Go.RowKit

/-- The bodies and their length are answered. -/
def AllOut (w : World) (S : Nat → Prop) (L : List UInt8) (e : Ending) (w' : World) : Prop :=
  ∃ a k c, e = .returned (.tuple #[.slice a k c, .int .i64 ((usedB L : Nat) : Int)]) ∧ OwnRows w w' S (.slice a k c) k (allB L)
end Go.Proofs.YtcfmifongbapkaaGreatDoor

/- WalTold -/
namespace Go.Proofs.YtcfmifongbapkaaGreatDoor

open Go.RowKit

set_option linter.unusedVariables false
set_option linter.unusedSimpArgs false

/-- The list so far: a row of the call's own, its records in other blocks that came later than the call. -/
structure ToldR (w wr : World) (v : Value) (k : Nat) (D : List RE) : Prop where
  bel : Below w.heap.size w wr
  own : wr.ownsRow w.heap.size 36 15 v k (D.flatMap rcC)
  len : D.length = k
  all : ∀ z ∈ D, RcAt wr z.1 z.2 ∧ RcF z.1 ∧ InR (fun b => w.heap.size ≤ b ∧ v.ownBlock ≠ some b ∧ b < wr.heap.size) z.1
section

variable {w wr w1 : World} {v : Value} {k : Nat} {D : List RE}

theorem ToldR.nil (w : World) : ToldR w w (.slice none 0 0) 0 [] := ⟨Below.refl _ _, World.ownsRow_nil _ _ _ _, rfl, fun z hz => by cases hz⟩
theorem ToldR.below (h : ToldR w wr v k D) (hb : Below wr.heap.size wr w1) : ToldR w w1 v k D :=
  ⟨h.bel.trans (hb.mono h.bel.size), ownk_below h.own hb, h.len, fun z hz => ⟨(h.all z hz).1.later hb, (h.all z hz).2.1, (h.all z hz).2.2.mono fun b hb' => ⟨hb'.1, hb'.2.1, Nat.lt_of_lt_of_le hb'.2.2 hb.size⟩⟩⟩
/-- A record that was read behind w1 is added. -/
theorem ToldR.push {w2 w3 : World} {v' : Value} {x : RcM} {L : RcL} (h : ToldR w wr v k D) (hb : Below wr.heap.size wr w2) (hX : RcAt w2 x L) (hF : RcF x) (hN : NewRc wr.heap.size x)
    (ho : w3.ownsRow w.heap.size 36 15 v' (k + 1) (D.flatMap rcC ++ (rcV x).toList)) (hg : w2.grownBy w3 v.ownBlock) (hat : v'.ownBlock = v.ownBlock ∨ v'.ownBlock = some w2.heap.size) : ToldR w w3 v' (k + 1) (D ++ [(x, L)]) := by
  have h2 := h.below hb
  have hold : ∀ b, (v.ownBlock ≠ some b ∧ b < w2.heap.size) → b < w2.heap.size → w3.heap[b]? = w2.heap[b]? := fun b hb' hlt => hg.block b hlt fun e => hb'.1 e.symm
  have hst : ∀ z : RE, RcAt w2 z.1 z.2 → InR (fun b => w.heap.size ≤ b ∧ v.ownBlock ≠ some b ∧ b < w2.heap.size) z.1 → RcAt w3 z.1 z.2 ∧ InR (fun b => w.heap.size ≤ b ∧ v'.ownBlock ≠ some b ∧ b < w3.heap.size) z.1 := fun z h1 h3 =>
    ⟨h1.keepS h3 hg.size fun b hb' hlt => hold b hb'.2 hlt, h3.mono fun b hb' => ⟨hb'.1, fun e => by
      rcases hat with e1 | e1
      · exact hb'.2.1 (e1.symm.trans e)
      · rw [e1] at e; injection e with e; have := hb'.2.2; omega, Nat.lt_of_lt_of_le hb'.2.2 hg.size⟩⟩
  have hx : InR (fun b => w.heap.size ≤ b ∧ v.ownBlock ≠ some b ∧ b < w2.heap.size) x := (hX.inR hN).mono fun b hb' => ⟨Nat.le_trans h.bel.size hb'.1, fun e => by have := (h.own.lt b e).2; have := hb'.1; omega, hb'.2⟩
  refine ⟨⟨hg.os.trans h2.bel.os, hg.tape.trans h2.bel.tape, hg.output.trans h2.bel.output, Nat.le_trans h2.bel.size hg.size, fun b hb' => (hg.block b (Nat.lt_of_lt_of_le hb' h2.bel.size) fun e => by have := (h2.own.lt b e.symm).1; omega).trans (h2.bel.block b hb')⟩, ?_, by rw [List.length_append, h.len]; rfl, fun z hz => ?_⟩
  · have e : (D ++ [(x, L)]).flatMap rcC = D.flatMap rcC ++ (rcV x).toList := by rw [List.flatMap_append]; simp [rcC]
    rw [e]; exact ho
  · rcases List.mem_append.1 hz with hz | hz
    · obtain ⟨a1, a2⟩ := hst z (h2.all z hz).1 (h2.all z hz).2.2
      exact ⟨a1, (h2.all z hz).2.1, a2⟩
    · obtain rfl := List.mem_singleton.1 hz
      obtain ⟨a1, a2⟩ := hst (x, L) hX hx
      exact ⟨a1, hF, a2⟩
end

/-- A list of records in a row of the call's own, their lists and data in other blocks from B on. -/
structure RcsOwn (B : Nat) (W : World) (a : Option Addr) (n c : Nat) (L : List RE) : Prop where
  own : W.ownsRow B 36 15 (.slice a n c) n (L.flatMap rcC)
  len : L.length = n
  all : ∀ z ∈ L, RcAt W z.1 z.2 ∧ RcF z.1 ∧ InR (fun b => B ≤ b ∧ (Value.slice a n c).ownBlock ≠ some b ∧ b < W.heap.size) z.1
section

variable {W W' : World} {B C n c : Nat} {a : Option Addr} {L : List RE}

theorem RcsOwn.at_ (h : RcsOwn B W a n c L) : RcsAt W a n L := ⟨h.len, RowAt.of_own h.own, fun z hz => ⟨(h.all z hz).1, (h.all z hz).2.1⟩⟩
theorem RcsOwn.nil (B : Nat) (W : World) : RcsOwn B W none 0 0 [] := ⟨World.ownsRow_nil _ _ _ _, rfl, fun z hz => by cases hz⟩
theorem RcsOwn.mono (h : RcsOwn B W a n c L) (hB : C ≤ B) : RcsOwn C W a n c L := by
  refine ⟨⟨h.own.1, ?_⟩, h.len, fun z hz => ⟨(h.all z hz).1, (h.all z hz).2.1, (h.all z hz).2.2.mono fun b hb => ⟨Nat.le_trans hB hb.1, hb.2⟩⟩⟩
  rcases h.own.2 with h1 | ⟨b, cap, cur, hv, h1, hr⟩
  · exact .inl h1
  · exact .inr ⟨b, cap, cur, hv, Nat.le_trans hB h1, hr⟩
theorem RcsOwn.keep (h : RcsOwn B W a n c L) (hs : W.heap.size ≤ W'.heap.size) (hk : ∀ b, B ≤ b → b < W.heap.size → W'.heap[b]? = W.heap[b]?) : RcsOwn B W' a n c L := by
  refine ⟨⟨h.own.1, ?_⟩, h.len, fun z hz => ⟨(h.all z hz).1.keepS (h.all z hz).2.2 hs fun b hb hlt => hk b hb.1 hlt, (h.all z hz).2.1, (h.all z hz).2.2.mono fun b hb => ⟨hb.1, hb.2.1, Nat.lt_of_lt_of_le hb.2.2 hs⟩⟩⟩
  rcases h.own.2 with h1 | ⟨b, cap, cur, hv, h1, hh, hr⟩
  · exact .inl h1
  · exact .inr ⟨b, cap, cur, hv, h1, (hk b h1 (lt_of_heap hh)).trans hh, hr⟩
end

/-- What bytes tell. -/
def ToldO (w : World) (l : List UInt8) (e : Ending) (w' : World) : Prop :=
  ∃ a n c D, e = .returned (.tuple #[.slice a n c, .int .i64 ((tellN l : Nat) : Int)]) ∧ Below w.heap.size w w' ∧ RcsAt w' a n D ∧ RcsIn (fun b => w.heap.size ≤ b ∧ b < w'.heap.size) a n D ∧ rcS D = tellB l ∧ n ≤ c ∧ c ≤ maxLen ∧ RcsOwn w.heap.size w' a n c D
theorem ToldR.out {w w' : World} {v : Value} {k u : Nat} {D : List RE} {l : List UInt8} (h : ToldR w w' v k D) (e1 : rcS D = tellB l) (e2 : u = tellN l) : ToldO w l (.returned (.tuple #[v, .int .i64 (u : Int)])) w' := by
  obtain ⟨a, c, rfl, h1, h2⟩ := ownk_form h.own
  subst e2
  refine ⟨a, k, c, D, rfl, h.bel, ⟨h.len, RowAt.of_own h.own, fun z hz => ⟨(h.all z hz).1, (h.all z hz).2.1⟩⟩, ⟨?_, fun z hz => (h.all z hz).2.2.mono fun b hb => ⟨hb.1, hb.2.2⟩⟩, e1, h1, h2, ⟨h.own, h.len, h.all⟩⟩
  exact .inr fun p e => by
    subst e
    exact h.own.lt p.block rfl
theorem tell_end {L : List UInt8} {D : List Rc} {u : Nat} (h : tellB (L.drop u) = [] ∧ tellN (L.drop u) = 0) (h1 : D ++ tellB (L.drop u) = tellB L) (h2 : u + tellN (L.drop u) = tellN L) : D = tellB L ∧ u = tellN L := by
  rw [h.1, List.append_nil] at h1
  exact ⟨h1, by rw [h.2] at h2; omega⟩
theorem tell_step {L : List UInt8} {D : List Rc} {u : Nat} {x : Rc} (h : uwErr (L.drop u) = 0) (hr : readR (bodyB (L.drop u)) = some x) (h1 : D ++ tellB (L.drop u) = tellB L) (h2 : u + tellN (L.drop u) = tellN L) :
    (D ++ [x]) ++ tellB (L.drop (u + (8 + lenB (L.drop u)))) = tellB L ∧ (u + (8 + lenB (L.drop u))) + tellN (L.drop (u + (8 + lenB (L.drop u)))) = tellN L := by
  obtain ⟨e1, e2⟩ := tell_yes h hr
  rw [e1] at h1; rw [e2] at h2
  rw [List.drop_drop] at h1 h2
  exact ⟨by rw [List.append_assoc]; exact h1, by omega⟩
set_option maxHeartbeats 1000000 in
theorem told_none (a : Option Addr) (c : Nat) (w : World) (hc : c ≤ maxLen) : Calls Tryz.prog 70 #[.slice a 0 c] w (ToldO w []) := by
  have hu : ∀ (a' : Option Addr), Calls Tryz.prog 101 #[.slice a' 0 c] w (UwNo w 4) := fun a' => unwrap_short a' 0 c [] w BAt.nil (by omega) hc (by omega)
  unfold maxLen at hc
  go_enter Tryz.func70, Tryz.ntmps70
  go_wp2
  refine wp_loop_rounds 1 ?_
  rw [rounds_succ]
  go_wp2_with (go_at_call 101; ((with_reducible refine (hu _).mono ?_); rintro e w1 ⟨rfl, hb1⟩))
  go_ret2
  exact ((ToldR.nil w).below hb1).out (u := 0) tell_nil.1.symm tell_nil.2.symm
theorem read_yes {w : World} {a : Option Addr} {n c : Nat} {l : List UInt8} {y : Rc} (h : Calls Tryz.prog 13 #[.slice a n c] w (ReadK w l)) (hr : readR l = some y) : Calls Tryz.prog 13 #[.slice a n c] w fun e w' => ∃ x L, e = .returned (.tuple #[.agg (rcV x), .int .i64 0]) ∧ Below w.heap.size w w' ∧ RcAt w' x L ∧ RcF x ∧ NewRc w.heap.size x ∧ y = rcT x L :=
  h.mono fun e w' h => by
    rcases h with ⟨x, L, h1, h2, h3, h4, h5, h6⟩ | ⟨_, _, h6⟩
    · rw [hr] at h6; injection h6 with h6; exact ⟨x, L, h1, h2, h3, h4, h5, h6⟩
    · rw [hr] at h6; cases h6
theorem read_no {w : World} {a : Option Addr} {n c : Nat} {l : List UInt8} (h : Calls Tryz.prog 13 #[.slice a n c] w (ReadK w l)) (hr : readR l = none) : Calls Tryz.prog 13 #[.slice a n c] w fun e w' => e = .returned (.tuple #[.agg (rcV zeroR), .int .i64 2]) ∧ Below w.heap.size w w' :=
  h.mono fun e w' h => by
    rcases h with ⟨x, L, h1, h2, h3, h4, h5, h6⟩ | ⟨h1, h2, h6⟩
    · rw [hr] at h6; cases h6
    · exact ⟨h1, h2⟩
theorem made_k (w : World) (x : RcM) : BoxC (w.alloc (.cells zeroRV 36)) w.heap.size (rcV zeroR) 36 ∧ Below w.heap.size w ((w.alloc (.cells zeroRV 36)).setRow w.heap.size (rcV x)) ∧ BoxC ((w.alloc (.cells zeroRV 36)).setRow w.heap.size (rcV x)) w.heap.size (rcV x) 36 := by
  have hZ : BoxC (w.alloc (.cells zeroRV 36)) w.heap.size (rcV zeroR) 36 := BoxC.new w zeroRV 36
  exact ⟨hZ, Only.below ((Below.refl _ _).alloc (Nat.le_refl _) _) (only_fill _ w.heap.size (rcV x)) (Nat.le_refl _) (by simp), hZ.fill _⟩
set_option maxRecDepth 100000 in
set_option maxHeartbeats 4000000 in
theorem told_any (a : Option Addr) (n c : Nat) (L : List UInt8) (w : World) (hl : BAt w w.heap.size a n L) (hnc : n ≤ c) (hcm : c ≤ maxLen) (hn : n ≤ 1099511627776) (hU : Tabs w) :
    Calls Tryz.prog 70 #[.slice a n c] w (ToldO w L) := by
  obtain ⟨i0, hi, hz0, hz1, hz2⟩ := info_parts Tryz.kInfo36
  by_cases h0 : n = 0
  · subst h0
    obtain rfl : L = [] := List.eq_nil_of_length_eq_zero hl.len
    exact told_none a c w hcm
  · obtain ⟨b, off, rfl, hbB⟩ := hl.addr (by omega)
    have hcm' := hcm
    unfold maxLen at hcm'
    clear h0
    go_enter Tryz.func70, Tryz.ntmps70
    go_wp2
    go_loopw [4, 5] (fun v x wr => ∃ (u k : Nat) (D : List RE), u ≤ n ∧ k * 8 ≤ u ∧ x = .int .i64 u ∧ rcS D ++ tellB (L.drop u) = tellB L ∧ u + tellN (L.drop u) = tellN L ∧ ToldR w wr v k D) (fun _ x _ => n - (intOf x).toNat)
    case atStart => exact ⟨0, 0, [], by omega, by omega, rfl, rfl, Nat.zero_add _, ToldR.nil w⟩
    case round =>
      obtain ⟨u, k, D, hu, hk8, rfl, h1, h2, hR⟩ := hrel
      have hlen := hl.len
      have hdr := hl.drop (k := u) (cap := c) hu hnc
      have hBr : Below w.heap.size w wr := hR.bel
      have HR0 := Lib.hid hR
      clear hR
      have i1 : (u : Int) ≤ (n : Int) := by omega
      by_cases he : uwErr (L.drop u) = 0
      · obtain ⟨hh8, hh6, hh7, _⟩ := uwErr_zero he
        rw [List.length_drop] at hh7 hh8
        have hcu : ¬ c = u := by omega
        rw [if_neg hcu, Option.map_some, add_plain] at hdr
        have hbl := bodyB_len he
        have HBL := Lib.hid hbl
        have hlu : u + (8 + lenB (L.drop u)) ≤ n := by omega
        have HE := Lib.hid he
        have H60 : Hid (lenB (L.drop u) ≤ 60000) := hh6
        have HU : Hid (∀ W, Below w.heap.size w W → Tabs W) := fun W hW => hU.below hW
        have cR : ∀ a1 c1 w1, BAt w1 w1.heap.size a1 (lenB (L.drop u)) (bodyB (L.drop u)) → Below w.heap.size w w1 → Calls Tryz.prog 13 #[.slice a1 (lenB (L.drop u)) c1] w1 (ReadK w1 (bodyB (L.drop u))) := fun a1 c1 w1 hb hW => wRead_any a1 _ c1 _ w1 hb (by have := H60.out; omega) (HU.out _ hW)
        cases hr : readR (bodyB (L.drop u)) with
        | none =>
          obtain ⟨s1, s2⟩ := tell_end (tell_bad he hr) h1 h2
          have S1 := Lib.hid s1; have S2 := Lib.hid s2
          have RR := Lib.hid hr
          clear he s1 s2 h1 h2 hlen hbl hh8 hh6 hh7 hr
          go_wp2_with (first | (go_at_call 101; ((with_reducible refine (unwrap_ok _ (n - u) (c - u) (L.drop u) _ ((hdr.below hBr (Nat.le_refl _)).more hBr.size) (by omega) (by unfold maxLen; omega) HE.out).mono ?_); rintro e w1 ⟨a1, n1, c1, rfl, ho1, hb1⟩; obtain rfl : n1 = lenB (L.drop u) := (by rw [← own_len ho1, HBL.out]); have HR1 := Lib.hid (HR0.out.below hb1); have B1 := Lib.hid (BAt.of_own ho1); clear ho1 hb1)) | (go_at_call 13; ((with_reducible refine (read_no (cR _ _ _ B1.out HR1.out.bel) RR.out).mono ?_); rintro e w2 ⟨rfl, hb2⟩; have HR2 := Lib.hid (HR1.out.below hb2); have HM := Lib.hid (made_k w2 zeroR); clear hb2)) | (refine wpList_store_k rfl _ _ rfl w2.heap.size zeroR rfl rfl zeroR HM.out.1 ?_))
          go_ret2
          exact (HR2.out.below HM.out.2.1).out S1.out S2.out
        | some y =>
          obtain ⟨s1, s2⟩ := tell_step he hr h1 h2
          have S1 := Lib.hid s1; have S2 := Lib.hid s2
          have RR := Lib.hid hr
          clear he s1 s2 h1 h2 hlen hbl hh8 hh6 hh7 hr
          go_upto_region 7 with (first | (go_at_call 101; ((with_reducible refine (unwrap_ok _ (n - u) (c - u) (L.drop u) _ ((hdr.below hBr (Nat.le_refl _)).more hBr.size) (by omega) (by unfold maxLen; omega) HE.out).mono ?_); rintro e w1 ⟨a1, n1, c1, rfl, ho1, hb1⟩; obtain rfl : n1 = lenB (L.drop u) := (by rw [← own_len ho1, HBL.out]); have HR1 := Lib.hid (HR0.out.below hb1); have B1 := Lib.hid (BAt.of_own ho1); clear ho1 hb1)) | (go_at_call 13; ((with_reducible refine (read_yes (cR _ _ _ B1.out HR1.out.bel) RR.out).mono ?_); rintro e w2 ⟨x, Lx, rfl, hb2, hX, hF, hN, hy⟩; have BB2 := Lib.hid hb2; have X2 := Lib.hid hX; have F2 := Lib.hid hF; have N2 := Lib.hid hN; have Y2 := Lib.hid hy; have HM := Lib.hid (made_k w2 x); clear hb2 hX hF hN hy)) | (refine wpList_store_k rfl _ _ rfl w2.heap.size x rfl rfl zeroR HM.out.1 ?_))
          have M3 : Hid (Below w1.heap.size w1 ((w2.alloc (.cells zeroRV 36)).setRow w2.heap.size (rcV x)) ∧ RcAt ((w2.alloc (.cells zeroRV 36)).setRow w2.heap.size (rcV x)) x Lx) := ⟨BB2.out.trans (HM.out.2.1.mono BB2.out.size), X2.out.later HM.out.2.1⟩
          have ldX := HM.out.2.2.ldK
          clear BB2 X2 HM
          generalize (w2.alloc (.cells zeroRV 36)).setRow w2.heap.size (rcV x) = W3 at *
          have PUSH : Hid (∀ V v' w3, Below W3.heap.size W3 V → w3.ownsRow w.heap.size 36 15 v' (k + 1) (D.flatMap rcC ++ (rcV x).toList) → V.grownBy w3 u4.ownBlock → (v'.ownBlock = u4.ownBlock ∨ v'.ownBlock = some V.heap.size) → ToldR w w3 v' (k + 1) (D ++ [(x, Lx)])) := fun V v' w3 hV ho hg hat => HR1.out.push (M3.out.1.trans (hV.mono M3.out.1.size)) (M3.out.2.later hV) F2.out N2.out ho hg hat
          have OWN : Hid (∀ V, Below W3.heap.size W3 V → V.ownsRow w.heap.size 36 15 u4 k (D.flatMap rcC)) := fun V hV => ownk_below HR1.out.own (M3.out.1.trans (hV.mono M3.out.1.size))
          have SZ : Hid (w.heap.size ≤ W3.heap.size) := Nat.le_trans HR1.out.bel.size M3.out.1.size
          have bA : Hid (Below W3.heap.size W3 (W3.alloc (.cells (rcV x) 36))) := (Below.refl _ _).alloc (Nat.le_refl _) _
          clear HR1 HR0 B1 cR
          go_wp2_with (at_builtin; (refine wpList_append_rowk _ rfl _ _ 39 rfl w.heap.size 36 i0 (.agg zeroRV) 15 168 Tryz.underlying39 hi hz0 hz1 hz2 rfl (by omega) u4 k (D.flatMap rcC) rfl (OWN.out _ bA.out) (W3.heap.size + 1) (some ⟨W3.heap.size, 0, none⟩) 1 1 (rcV x).toList rfl (RowAt.one W3 (rcV x) 36) (by simp [Value.oneCell']) (by unfold maxLen; omega) (by omega) (by have := SZ.out; simp; omega) ?_; intro v' w4 ho4 hg4 hat4; have R4 := Lib.hid (PUSH.out _ _ _ bA.out ho4 hg4 hat4); clear ho4 hg4 hat4))
          go_roundw
          case rel => exact ⟨u + (8 + lenB (L.drop u)), k + 1, D ++ [(x, Lx)], by omega, by omega, by go_num, by rw [rcS_app]; have := S1.out; rw [Y2.out] at this; exact this, S2.out, R4.out⟩
          case measure => simp [intOf]; omega
      · obtain ⟨s1, s2⟩ := tell_end (tell_no he) h1 h2
        have HE := Lib.hid he; have S1 := Lib.hid s1; have S2 := Lib.hid s2
        have hlt := uwErr_lt (L.drop u)
        have hq : ((uwErr (L.drop u) : Int) == 0) = false := by simp; omega
        have hq2 : ((uwErr (L.drop u) : Int) != 0) = true := by simp; omega
        clear he s1 s2 h1 h2 hlen
        by_cases hcu : c = u
        · rw [if_pos hcu] at hdr
          subst hcu
          obtain rfl : n = c := by omega
          rw [Nat.sub_self] at hdr
          go_wp2_with (go_at_call 101; ((with_reducible refine (unwrap_no _ 0 0 (L.drop n) _ ((hdr.below hBr (Nat.le_refl _)).more hBr.size) (by omega) (by unfold maxLen; omega) HE.out).mono ?_); rintro e w1 ⟨rfl, hb1⟩))
          go_ret2
          exact (HR0.out.below hb1).out S1.out S2.out
        · rw [if_neg hcu, Option.map_some, add_plain] at hdr
          go_wp2_with (go_at_call 101; ((with_reducible refine (unwrap_no _ (n - u) (c - u) (L.drop u) _ ((hdr.below hBr (Nat.le_refl _)).more hBr.size) (by omega) (by unfold maxLen; omega) HE.out).mono ?_); rintro e w1 ⟨rfl, hb1⟩))
          go_ret2
          exact (HR0.out.below hb1).out S1.out S2.out
end Go.Proofs.YtcfmifongbapkaaGreatDoor
