
/- Contracts of ballot.Take and of the document's own. Conditions: the readers lie in memory. The two readers take a ballot, as a state. Conditions: the reader lies in memory. Words for a row of zero bytes that is filled; a piece of bytes. No condition. Words for bytes that are taken one by one into a row. No condition. A number of few bytes as an integer. No condition. How many bytes a reader that is a state has left. No condition. -/
import Derived.Test.YtcfmifongbapkaaGreatDoorQT
import Derived.Test.YtcfmifongbapkaaGreatDoorQZH
import Derived.Test.YtcfmifongbapkaaGreatDoorQM
import Derived.Test.YtcfmifongbapkaaGreatDoorQI
import Derived.Test.YtcfmifongbapkaaGreatDoorQA
import Derived.Test.YtcfmifongbapkaaGreatDoorQF
/- BallotTake -/
namespace Go.Proofs.YtcfmifongbapkaaGreatDoor

open Go.RowKit

set_option linter.unusedVariables false

/-- A ballot is answered, and the reader is as it is. -/
def GotB (g : Nat) (r : List UInt8) (ok : Bool) (x : Bal) (w : World) (e : Ending) (w' : World) : Prop :=
  e = .returned (.agg #[.int .u32 x.1, .int .i64 x.2]) ∧ RdAt w' g r ok ∧ Only g w w'

theorem bfail_any (g : Nat) (l : List UInt8) (ok : Bool) (w : World) (h : RdAt w g l ok) :
    Calls Tryz.prog 111 #[.pointer (some ⟨g, 0, none⟩)] w fun e w' => e = .returned (.tuple #[]) ∧ RdAt w' g [] false ∧ Only g w w' := by
  have c := take_no g l ok (-1) w h (.inr (.inl (by omega)))
  go_enter Tryz.func111, Tryz.ntmps111
  go_wp2_with (go_at_call 80; ((with_reducible refine c.mono ?_); rintro e w1 ⟨rfl, hr1, ho1⟩))
  go_end0
  exact ⟨rfl, hr1, ho1⟩

set_option maxHeartbeats 1000000 in
theorem bTake_gen (g : Nat) (l l1 l2 : List UInt8) (ok ok1 ok2 : Bool) (x y : Nat) (w : World) (h : RdAt w g l ok) (hx : x < 4294967296) (hy : y < 256)
    (c4 : ∀ W, RdAt W g l ok → Calls Tryz.prog 80 #[.pointer (some ⟨g, 0, none⟩), .int .i64 4] W fun e w' => e = .returned (.int .u64 x) ∧ RdAt w' g l1 ok1 ∧ Only g W w')
    (c1 : ∀ W, RdAt W g l1 ok1 → Calls Tryz.prog 80 #[.pointer (some ⟨g, 0, none⟩), .int .i64 1] W fun e w' => e = .returned (.int .u64 y) ∧ RdAt w' g l2 ok2 ∧ Only g W w') :
    Calls Tryz.prog 81 #[.pointer (some ⟨g, 0, none⟩)] w (GotB g (if formB y then l2 else []) (formB y && ok2) (if formB y && ok2 then ((x : Int), (y : Int)) else (0, 0)) w) := by
  have H0 := Lib.hid ((RdW.start h).more #[.int .u32 0, .int .i64 0] 24)
  have cF := fun W => bFormed_any x y W
  clear h
  cases hf : formB y
  · rw [hf] at cF
    clear hf
    go_enter Tryz.func81, Tryz.ntmps81
    go_upto_region 2 with (go_at_call 80; ((with_reducible refine (c4 _ H0.out.rd).mono ?_); rintro e w1 ⟨rfl, hr1, ho1⟩; have H1 := Lib.hid (H0.out.only hr1 ho1)))
    have H2 := Lib.hid (H1.out.more #[.int .u32 x, .int .i64 0] 24)
    have hG : w.heap.size < w1.heap.size := (H1.out.get 0 _ _ _ rfl).lt
    clear H0 H1 hr1 ho1
    generalize w1.alloc (.cells #[.int .u32 x, .int .i64 0] 24) = W2 at *
    generalize w1.heap.size = G at *
    have hgG : g ≠ G := by have := H2.out.2.2.1; omega
    go_upto_region 3 with (go_at_call 80; ((with_reducible refine (c1 _ H2.out.rd).mono ?_); rintro e w3 ⟨rfl, hr3, ho3⟩; have H3 := Lib.hid (H2.out.only hr3 ho3); obtain ⟨x0, x1⟩ := (H3.out.get 0 _ _ _ rfl).two; have f1 := (H3.out.get 0 _ _ _ rfl).frozen 1))
    have H4 : Hid (RdW w (w3.setCell ⟨G, 1, none⟩ (.int .i64 y)) g l2 ok2 [(G, #[.int .u32 x, .int .i64 y], 24), (w.heap.size, #[.int .u32 0, .int .i64 0], 24)]) := H3.out.set (by simp; omega) 1 (.int .i64 y)
    clear H2 H3 hr3 ho3 x0 x1 f1
    generalize w3.setCell ⟨G, 1, none⟩ (.int .i64 y) = W4 at *
    obtain ⟨x0, x1⟩ := (H4.out.get 0 _ _ _ rfl).two
    go_wp2_with (first | (go_at_call 49; ((with_reducible refine (cF _).mono ?_); rintro e w5 ⟨rfl, hb5⟩; have H5 := Lib.hid (H4.out.below hb5))) | (go_at_call 111; ((with_reducible refine (bfail_any g l2 ok2 _ H5.out.rd).mono ?_); rintro e w6 ⟨rfl, hr6, ho6⟩; have H6 := Lib.hid (H5.out.only hr6 ho6); obtain ⟨x0, x1⟩ := (H6.out.get 0 _ _ _ rfl).two; obtain ⟨z0, z1⟩ := (H6.out.get 1 _ _ _ rfl).two; have f0 := (H6.out.get 1 _ _ _ rfl).frozen 0; have f1 := (H6.out.get 1 _ _ _ rfl).frozen 1)) | (go_at_call 85; ((with_reducible refine (ok_any g [] false _ H6.out.rd).mono ?_); rintro e w' ⟨rfl, rfl⟩)))
    exact bodyPost_ret (v := .agg #[.int .u32 0, .int .i64 0]) (by simp [results, Tryz.results81, go_sem, z0, z1]) rfl ⟨rfl, ((H6.out.out (Nat.le_refl _) _).out (Nat.le_refl _) _).1, ((H6.out.out (Nat.le_refl _) _).out (Nat.le_refl _) _).2.1⟩
  · rw [hf] at cF
    clear hf
    go_enter Tryz.func81, Tryz.ntmps81
    go_upto_region 2 with (go_at_call 80; ((with_reducible refine (c4 _ H0.out.rd).mono ?_); rintro e w1 ⟨rfl, hr1, ho1⟩; have H1 := Lib.hid (H0.out.only hr1 ho1)))
    have H2 := Lib.hid (H1.out.more #[.int .u32 x, .int .i64 0] 24)
    have hG : w.heap.size < w1.heap.size := (H1.out.get 0 _ _ _ rfl).lt
    clear H0 H1 hr1 ho1
    generalize w1.alloc (.cells #[.int .u32 x, .int .i64 0] 24) = W2 at *
    generalize w1.heap.size = G at *
    have hgG : g ≠ G := by have := H2.out.2.2.1; omega
    go_upto_region 3 with (go_at_call 80; ((with_reducible refine (c1 _ H2.out.rd).mono ?_); rintro e w3 ⟨rfl, hr3, ho3⟩; have H3 := Lib.hid (H2.out.only hr3 ho3); obtain ⟨x0, x1⟩ := (H3.out.get 0 _ _ _ rfl).two; have f1 := (H3.out.get 0 _ _ _ rfl).frozen 1))
    have H4 : Hid (RdW w (w3.setCell ⟨G, 1, none⟩ (.int .i64 y)) g l2 ok2 [(G, #[.int .u32 x, .int .i64 y], 24), (w.heap.size, #[.int .u32 0, .int .i64 0], 24)]) := H3.out.set (by simp; omega) 1 (.int .i64 y)
    clear H2 H3 hr3 ho3 x0 x1 f1
    generalize w3.setCell ⟨G, 1, none⟩ (.int .i64 y) = W4 at *
    obtain ⟨x0, x1⟩ := (H4.out.get 0 _ _ _ rfl).two
    cases ok2
    · go_wp2_with (first | (go_at_call 49; ((with_reducible refine (cF _).mono ?_); rintro e w5 ⟨rfl, hb5⟩; have H6 := Lib.hid (H4.out.below hb5); obtain ⟨x0, x1⟩ := (H6.out.get 0 _ _ _ rfl).two; obtain ⟨z0, z1⟩ := (H6.out.get 1 _ _ _ rfl).two; have f0 := (H6.out.get 1 _ _ _ rfl).frozen 0; have f1 := (H6.out.get 1 _ _ _ rfl).frozen 1)) | (go_at_call 85; ((with_reducible refine (ok_any g l2 false _ H6.out.rd).mono ?_); rintro e w' ⟨rfl, rfl⟩)))
      exact bodyPost_ret (v := .agg #[.int .u32 0, .int .i64 0]) (by simp [results, Tryz.results81, go_sem, z0, z1]) rfl ⟨rfl, ((H6.out.out (Nat.le_refl _) _).out (Nat.le_refl _) _).1, ((H6.out.out (Nat.le_refl _) _).out (Nat.le_refl _) _).2.1⟩
    · go_wp2_with (first | (go_at_call 49; ((with_reducible refine (cF _).mono ?_); rintro e w5 ⟨rfl, hb5⟩; have H6 := Lib.hid (H4.out.below hb5); obtain ⟨x0, x1⟩ := (H6.out.get 0 _ _ _ rfl).two; obtain ⟨z0, z1⟩ := (H6.out.get 1 _ _ _ rfl).two; have f0 := (H6.out.get 1 _ _ _ rfl).frozen 0; have f1 := (H6.out.get 1 _ _ _ rfl).frozen 1)) | (go_at_call 85; ((with_reducible refine (ok_any g l2 true _ H6.out.rd).mono ?_); rintro e w' ⟨rfl, rfl⟩)))
      exact bodyPost_ret (v := .agg #[.int .u32 x, .int .i64 y]) (by simp [results, Tryz.results81, go_sem, z0, z1]) rfl ⟨rfl, ((H6.out.out (Nat.le_refl _) _).out (Nat.le_refl _) _).1, ((H6.out.out (Nat.le_refl _) _).out (Nat.le_refl _) _).2.1⟩

/-- What is taken, if a ballot is next; and if none is. -/
theorem bTake_yes (g : Nat) (l : List UInt8) (w : World) (h : RdAt w g l true) (hk : balOk l) :
    Calls Tryz.prog 81 #[.pointer (some ⟨g, 0, none⟩)] w (GotB g (l.drop 5) true ((tkR l : Nat), (tkNode l : Nat)) w) := by
  have hf : formB ((tkNode l : Nat) : Int) = true := by have := hk.2; simp [formB]; omega
  have H := bTake_gen g l (l.drop 4) ((l.drop 4).drop 1) true true true (tkR l) (tkNode l) w h (tkR_lt l) (tkNode_lt l)
    (fun W hW => take_yes g l 4 W hW (by have := hk.1; omega) (by omega)) (fun W hW => take_yes g (l.drop 4) 1 W hW (by have := hk.1; simp; omega) (by omega))
  rw [hf, List.drop_drop] at H
  exact H
theorem bTake_no (g : Nat) (l : List UInt8) (ok : Bool) (w : World) (h : RdAt w g l ok) (hk : ¬ (ok = true ∧ balOk l)) :
    Calls Tryz.prog 81 #[.pointer (some ⟨g, 0, none⟩)] w (GotB g [] false (0, 0) w) := by
  have h0 : formB ((0 : Nat) : Int) = true := rfl
  by_cases h4 : ok = true ∧ 4 ≤ l.length
  · obtain ⟨rfl, h4⟩ := h4
    have c4 := fun W hW => take_yes g l 4 W hW h4 (by omega)
    by_cases h5 : 1 ≤ (l.drop 4).length
    · have hf : formB ((tkNode l : Nat) : Int) = false := by
        have : ¬ tkNode l < 5 := fun e => hk ⟨rfl, by simp at h5; omega, e⟩
        simp [formB]; omega
      have H := bTake_gen g l (l.drop 4) ((l.drop 4).drop 1) true true true (tkR l) (tkNode l) w h (tkR_lt l) (tkNode_lt l) c4 (fun W hW => take_yes g (l.drop 4) 1 W hW h5 (by omega))
      rw [hf] at H
      exact H
    · have H := bTake_gen g l (l.drop 4) [] true true false (tkR l) 0 w h (tkR_lt l) (by omega) c4 (fun W hW => take_no g (l.drop 4) true 1 W hW (.inr (.inr (.inr (by omega)))))
      rw [h0] at H
      exact H
  · have hbad : ok = false ∨ (4 : Int) < 0 ∨ (8 : Int) < 4 ∨ ((l.length : Nat) : Int) < 4 := by
      cases ok
      · exact .inl rfl
      · right; right; right
        have : ¬ 4 ≤ l.length := fun e => h4 ⟨rfl, e⟩
        omega
    have H := bTake_gen g l [] [] ok false false 0 0 w h (by omega) (by omega) (fun W hW => take_no g l ok 4 W hW hbad) (fun W hW => take_no g [] false 1 W hW (.inl rfl))
    rw [h0] at H
    exact H

/-- A ballot is answered; the document's reader is as it is. -/
def GotR (B g : Nat) (L : List UInt8) (k : Nat) (ok : Bool) (x : Bal) (w : World) (e : Ending) (w' : World) : Prop :=
  e = .returned (.agg #[.int .u32 x.1, .int .i64 x.2]) ∧ RefAt w' B g L k ok ∧ Only g w w'
set_option maxHeartbeats 1000000 in
theorem rTake_gen (B g : Nat) (L : List UInt8) (k k1 k2 : Nat) (ok ok1 ok2 : Bool) (x y : Nat) (w : World) (h : RefAt w B g L k ok) (hx : x < 4294967296) (hy : y < 256)
    (c4 : ∀ W, RefAt W B g L k ok → Calls Tryz.prog 45 #[.pointer (some ⟨g, 0, none⟩), .int .i64 4] W fun e w' => e = .returned (.int .u64 x) ∧ RefAt w' B g L k1 ok1 ∧ Only g W w')
    (c1 : ∀ W, RefAt W B g L k1 ok1 → Calls Tryz.prog 45 #[.pointer (some ⟨g, 0, none⟩), .int .i64 1] W fun e w' => e = .returned (.int .u64 y) ∧ RefAt w' B g L k2 ok2 ∧ Only g W w') :
    Calls Tryz.prog 46 #[.pointer (some ⟨g, 0, none⟩)] w (GotR B g L k2 (formB y && ok2) (if formB y && ok2 then ((x : Int), (y : Int)) else (0, 0)) w) := by
  have H0 := Lib.hid ((RfW.start h).more #[.int .u32 0, .int .i64 0] 44)
  have cF := fun W => rFormed_any x y W
  clear h
  cases ok2
  · rw [Bool.and_false]
    go_enter Tryz.func46, Tryz.ntmps46
    go_upto_region 3 with (first | (go_at_call 45; ((with_reducible refine (c4 _ H0.out.rd).mono ?_); rintro e w1 ⟨rfl, hr1, ho1⟩; have H1 := Lib.hid (H0.out.only hr1 ho1))) | (go_at_call 45; ((with_reducible refine (c1 _ H1.out.rd).mono ?_); rintro e w2 ⟨rfl, hr2, ho2⟩; have H2 := Lib.hid (H1.out.only hr2 ho2))))
    have H3 := Lib.hid (H2.out.more #[.int .u32 x, .int .i64 y] 44)
    have hG : w.heap.size < w2.heap.size := (H2.out.get 0 _ _ _ rfl).lt
    clear H0 H1 H2 hr1 ho1 hr2 ho2
    generalize w2.alloc (.cells #[.int .u32 x, .int .i64 y] 44) = W3 at *
    generalize w2.heap.size = G at *
    have hgG : g ≠ G := by have := H3.out.2.2.1; omega
    have hgw : g ≠ w.heap.size := by have := H3.out.2.2.1; omega
    obtain ⟨fl, ff⟩ := H3.out.rd.flag
    obtain ⟨x0, x1⟩ := (H3.out.get 0 _ _ _ rfl).two
    obtain ⟨z0, z1⟩ := (H3.out.get 1 _ _ _ rfl).two
    have f0 := (H3.out.get 1 _ _ _ rfl).frozen 0
    have f1 := (H3.out.get 1 _ _ _ rfl).frozen 1
    go_wp2
    exact bodyPost_ret (v := .agg #[.int .u32 0, .int .i64 0]) (by simp [results, Tryz.results46, go_sem, z0, z1]) rfl ⟨rfl, ((H3.out.fails.out (Nat.le_refl _) _).out (Nat.le_refl _) _).1, ((H3.out.fails.out (Nat.le_refl _) _).out (Nat.le_refl _) _).2.1⟩
  · rw [Bool.and_true]
    cases hf : formB y
    · rw [hf] at cF
      clear hf
      go_enter Tryz.func46, Tryz.ntmps46
      go_upto_region 3 with (first | (go_at_call 45; ((with_reducible refine (c4 _ H0.out.rd).mono ?_); rintro e w1 ⟨rfl, hr1, ho1⟩; have H1 := Lib.hid (H0.out.only hr1 ho1))) | (go_at_call 45; ((with_reducible refine (c1 _ H1.out.rd).mono ?_); rintro e w2 ⟨rfl, hr2, ho2⟩; have H2 := Lib.hid (H1.out.only hr2 ho2))))
      have H3 := Lib.hid (H2.out.more #[.int .u32 x, .int .i64 y] 44)
      have hG : w.heap.size < w2.heap.size := (H2.out.get 0 _ _ _ rfl).lt
      clear H0 H1 H2 hr1 ho1 hr2 ho2
      generalize w2.alloc (.cells #[.int .u32 x, .int .i64 y] 44) = W3 at *
      generalize w2.heap.size = G at *
      have hgG : g ≠ G := by have := H3.out.2.2.1; omega
      have hgw : g ≠ w.heap.size := by have := H3.out.2.2.1; omega
      obtain ⟨fl, ff⟩ := H3.out.rd.flag
      obtain ⟨x0, x1⟩ := (H3.out.get 0 _ _ _ rfl).two
      obtain ⟨z0, z1⟩ := (H3.out.get 1 _ _ _ rfl).two
      have f0 := (H3.out.get 1 _ _ _ rfl).frozen 0
      have f1 := (H3.out.get 1 _ _ _ rfl).frozen 1
      go_wp2_with (go_at_call 52; ((with_reducible refine (cF _).mono ?_); rintro e w5 ⟨rfl, hb5⟩; have H5 := Lib.hid (H3.out.below hb5); clear fl ff x0 x1 z0 z1 f0 f1; obtain ⟨fl, ff⟩ := H5.out.rd.flag; obtain ⟨x0, x1⟩ := (H5.out.get 0 _ _ _ rfl).two; obtain ⟨z0, z1⟩ := (H5.out.get 1 _ _ _ rfl).two; have f0 := (H5.out.get 1 _ _ _ rfl).frozen 0; have f1 := (H5.out.get 1 _ _ _ rfl).frozen 1))
      exact bodyPost_ret (v := .agg #[.int .u32 0, .int .i64 0]) (by simp [results, Tryz.results46, go_sem, z0, z1]) rfl ⟨rfl, ((H5.out.fails.out (Nat.le_refl _) _).out (Nat.le_refl _) _).1, ((H5.out.fails.out (Nat.le_refl _) _).out (Nat.le_refl _) _).2.1⟩
    · rw [hf] at cF
      clear hf
      go_enter Tryz.func46, Tryz.ntmps46
      go_upto_region 3 with (first | (go_at_call 45; ((with_reducible refine (c4 _ H0.out.rd).mono ?_); rintro e w1 ⟨rfl, hr1, ho1⟩; have H1 := Lib.hid (H0.out.only hr1 ho1))) | (go_at_call 45; ((with_reducible refine (c1 _ H1.out.rd).mono ?_); rintro e w2 ⟨rfl, hr2, ho2⟩; have H2 := Lib.hid (H1.out.only hr2 ho2))))
      have H3 := Lib.hid (H2.out.more #[.int .u32 x, .int .i64 y] 44)
      have hG : w.heap.size < w2.heap.size := (H2.out.get 0 _ _ _ rfl).lt
      clear H0 H1 H2 hr1 ho1 hr2 ho2
      generalize w2.alloc (.cells #[.int .u32 x, .int .i64 y] 44) = W3 at *
      generalize w2.heap.size = G at *
      have hgG : g ≠ G := by have := H3.out.2.2.1; omega
      have hgw : g ≠ w.heap.size := by have := H3.out.2.2.1; omega
      obtain ⟨fl, ff⟩ := H3.out.rd.flag
      obtain ⟨x0, x1⟩ := (H3.out.get 0 _ _ _ rfl).two
      obtain ⟨z0, z1⟩ := (H3.out.get 1 _ _ _ rfl).two
      have f0 := (H3.out.get 1 _ _ _ rfl).frozen 0
      have f1 := (H3.out.get 1 _ _ _ rfl).frozen 1
      go_wp2_with (go_at_call 52; ((with_reducible refine (cF _).mono ?_); rintro e w5 ⟨rfl, hb5⟩; have H5 := Lib.hid (H3.out.below hb5); clear fl ff x0 x1 z0 z1 f0 f1; obtain ⟨fl, ff⟩ := H5.out.rd.flag; obtain ⟨x0, x1⟩ := (H5.out.get 0 _ _ _ rfl).two; obtain ⟨z0, z1⟩ := (H5.out.get 1 _ _ _ rfl).two; have f0 := (H5.out.get 1 _ _ _ rfl).frozen 0; have f1 := (H5.out.get 1 _ _ _ rfl).frozen 1))
      exact bodyPost_ret (v := .agg #[.int .u32 x, .int .i64 y]) (by simp [results, Tryz.results46, go_sem, z0, z1]) rfl ⟨rfl, ((H5.out.out (Nat.le_refl _) _).out (Nat.le_refl _) _).1, ((H5.out.out (Nat.le_refl _) _).out (Nat.le_refl _) _).2.1⟩
theorem rTake_yes (B g : Nat) (L : List UInt8) (k : Nat) (w : World) (h : RefAt w B g L k true) (hk : balOk (L.drop k)) :
    Calls Tryz.prog 46 #[.pointer (some ⟨g, 0, none⟩)] w (GotR B g L (k + 5) true ((tkR (L.drop k) : Nat), (tkNode (L.drop k) : Nat)) w) := by
  have hf : formB ((tkNode (L.drop k) : Nat) : Int) = true := by have := hk.2; simp [formB]; omega
  have h5 : 5 ≤ (L.drop k).length := hk.1
  have H := rTake_gen B g L k (k + 4) (k + 4 + 1) true true true (tkR (L.drop k)) (tkNode (L.drop k)) w h (tkR_lt _) (tkNode_lt _)
    (fun W hW => refTake_yes B g L k 4 W hW (by omega) (by omega)) (fun W hW => by
      have := refTake_yes B g L (k + 4) 1 W hW (by rw [List.length_drop] at h5 ⊢; omega) (by omega)
      rw [← List.drop_drop] at this
      exact this)
  rw [hf] at H
  exact H
theorem rTake_no (B g : Nat) (L : List UInt8) (k : Nat) (ok : Bool) (w : World) (h : RefAt w B g L k ok) (hk : ¬ (ok = true ∧ balOk (L.drop k))) :
    Calls Tryz.prog 46 #[.pointer (some ⟨g, 0, none⟩)] w (fun e w' => ∃ k', GotR B g L k' false (0, 0) w e w') := by
  have h0 : formB ((0 : Nat) : Int) = true := rfl
  by_cases h4 : ok = true ∧ 4 ≤ (L.drop k).length
  · obtain ⟨rfl, h4⟩ := h4
    have c4 := fun W hW => refTake_yes B g L k 4 W hW h4 (by omega)
    by_cases h5 : 1 ≤ (L.drop (k + 4)).length
    · have hf : formB ((tkNode (L.drop k) : Nat) : Int) = false := by
        have : ¬ tkNode (L.drop k) < 5 := fun e => hk ⟨rfl, by rw [List.length_drop] at h5 ⊢; omega, e⟩
        simp [formB]; omega
      have H := rTake_gen B g L k (k + 4) (k + 4 + 1) true true true (tkR (L.drop k)) (tkNode (L.drop k)) w h (tkR_lt _) (tkNode_lt _) c4 (fun W hW => by
        have := refTake_yes B g L (k + 4) 1 W hW h5 (by omega)
        rw [← List.drop_drop] at this
        exact this)
      rw [hf] at H
      exact H.mono fun e w' h => ⟨_, h⟩
    · have H := rTake_gen B g L k (k + 4) (k + 4) true true false (tkR (L.drop k)) 0 w h (tkR_lt _) (by omega) c4 (fun W hW => refTake_no B g L (k + 4) true 1 W hW (.inr (.inr (.inr (by omega)))))
      rw [h0] at H
      exact H.mono fun e w' h => ⟨_, h⟩
  · have hbad : ok = false ∨ (4 : Int) < 0 ∨ (8 : Int) < 4 ∨ (((L.drop k).length : Nat) : Int) < 4 := by
      cases ok
      · exact .inl rfl
      · right; right; right
        have : ¬ 4 ≤ (L.drop k).length := fun e => h4 ⟨rfl, e⟩
        omega
    have H := rTake_gen B g L k k k ok false false 0 0 w h (by omega) (by omega) (fun W hW => refTake_no B g L k ok 4 W hW hbad) (fun W hW => refTake_no B g L k false 1 W hW (.inl rfl))
    rw [h0] at H
    exact H.mono fun e w' h => ⟨_, h⟩
end Go.Proofs.YtcfmifongbapkaaGreatDoor

/- BallotTook -/
namespace Go.Proofs.YtcfmifongbapkaaGreatDoor

open Go.RowKit

set_option linter.unusedVariables false

/-- A ballot is taken; the zero one where it fails. -/
def TookB (g : Nat) (st : St) (w : World) (e : Ending) (w' : World) : Prop :=
  ∃ (r : Nat) (n : Int) (st' : St), e = .returned (.agg #[.int .u32 ((r : Nat) : Int), .int .i64 n]) ∧ RS g st' w' ∧ Only g w w' ∧ Res balQ st (((r : Nat) : Int), n) st' ∧ r < 4294967296
theorem numI_yes (k : Nat) (l : List UInt8) (h : k ≤ l.length) : numI k l = some (((numB (l.take k) : Nat) : Int), l.drop k) := by
  unfold numI bindP numP
  rw [if_pos h]; rfl
theorem numI_no (k : Nat) (l : List UInt8) (h : ¬ k ≤ l.length) : numI k l = none := by
  unfold numI bindP numP
  rw [if_neg h]
theorem balQ_yes (l : List UInt8) (h : balOk l) : balQ l = some ((((tkR l : Nat) : Int), ((tkNode l : Nat) : Int)), l.drop 5) := by
  have h1 := h.1
  have h2 := h.2
  refine guard_yes ?_ (by show formB ((tkNode l : Nat) : Int) = true; simp [formB]; omega)
  rw [bind_some (numI_yes 4 l (by omega)), bind_some (numI_yes 1 (l.drop 4) (by rw [List.length_drop]; omega)), List.drop_drop]
  rfl
theorem balQ_no (l : List UInt8) (h : ¬ balOk l) : balQ l = none := by
  by_cases h4 : 4 ≤ l.length
  · by_cases h5 : 1 ≤ (l.drop 4).length
    · refine guard_bad (x := (((numB (l.take 4) : Nat) : Int), ((numB ((l.drop 4).take 1) : Nat) : Int))) (r := (l.drop 4).drop 1) ?_ ?_
      · rw [bind_some (numI_yes 4 l h4), bind_some (numI_yes 1 _ h5)]; rfl
      · have hn : ¬ tkNode l < 5 := fun e => h ⟨by rw [List.length_drop] at h5; omega, e⟩
        have : ¬ numB ((l.drop 4).take 1) < 5 := hn
        show formB ((numB ((l.drop 4).take 1) : Nat) : Int) = false
        simp [formB]; omega
    · refine guard_none ?_
      rw [bind_some (numI_yes 4 l h4), bind_none (numI_no 1 _ h5)]
  · exact guard_none (bind_none (numI_no 4 l h4))
theorem bTakeS_any (g : Nat) (st : St) (W : World) (h : RS g st W) : Calls Tryz.prog 81 #[.pointer (some ⟨g, 0, none⟩)] W (TookB g st W) := by
  cases st with
  | none => exact (bTake_no g [] false W h (fun h => by cases h.1)).mono fun e w' ⟨h1, h2, h3⟩ => ⟨0, 0, none, h1, h2, h3, .no _ (fun l e => by cases e), by omega⟩
  | some l =>
    by_cases hk : balOk l
    · exact (bTake_yes g l W h hk).mono fun e w' ⟨h1, h2, h3⟩ => ⟨tkR l, (tkNode l : Nat), some (l.drop 5), h1, h2, h3, .yes (balQ_yes l hk), tkR_lt l⟩
    · exact (bTake_no g l true W h (fun h => hk h.2)).mono fun e w' ⟨h1, h2, h3⟩ => ⟨0, 0, none, h1, h2, h3, .no _ (fun l' e => by injection e with e; subst e; exact balQ_no l hk), by omega⟩
theorem res_numI {st st1 : St} {k z : Nat} (h : Res (numP k) st z st1) : Res (numI k) st ((z : Nat) : Int) st1 := Res.bind (x := z) h (Res.pure _ _)

/-- A ballot is taken of the document's reader. -/
def TookBD (B g : Nat) (L : List UInt8) (st : St) (w : World) (e : Ending) (w' : World) : Prop :=
  ∃ (r : Nat) (n : Int) (st' : St), e = .returned (.agg #[.int .u32 ((r : Nat) : Int), .int .i64 n]) ∧ FS B g L st' w' ∧ Only g w w' ∧ Res balQ st (((r : Nat) : Int), n) st' ∧ r < 4294967296
theorem rbTakeS_any (B g : Nat) (L : List UInt8) (st : St) (W : World) (h : FS B g L st W) : Calls Tryz.prog 46 #[.pointer (some ⟨g, 0, none⟩)] W (TookBD B g L st W) := by
  obtain ⟨k, h, hk⟩ := h
  cases st with
  | none => exact (rTake_no B g L k false W h (fun h => by cases h.1)).mono fun e w' ⟨k', h1, h2, h3⟩ => ⟨0, 0, none, h1, ⟨k', h2, fun l e => by cases e⟩, h3, .no _ (fun l e => by cases e), by omega⟩
  | some l =>
    obtain rfl := hk l rfl
    by_cases hb : balOk (L.drop k)
    · exact (rTake_yes B g L k W h hb).mono fun e w' ⟨h1, h2, h3⟩ => ⟨_, _, some (L.drop (k + 5)), h1, ⟨k + 5, h2, fun l e => by injection e with e; exact e.symm⟩, h3, .yes (by rw [balQ_yes _ hb, List.drop_drop]), tkR_lt _⟩
    · exact (rTake_no B g L k true W h (fun h => hb h.2)).mono fun e w' ⟨k', h1, h2, h3⟩ => ⟨0, 0, none, h1, ⟨k', h2, fun l e => by cases e⟩, h3, .no _ (fun l' e => by injection e with e; subst e; exact balQ_no _ hb), by omega⟩
end Go.Proofs.YtcfmifongbapkaaGreatDoor

/- MadeBytes -/
namespace Go.Proofs.YtcfmifongbapkaaGreatDoor

open Go.RowKit

theorem set_at (A : List Value) (z v : Value) (n i : Nat) (hA : A.length = i) (hi : i < n) : (A ++ List.replicate (n - i) z).toArray.setIfInBounds i v = ((A ++ [v]) ++ List.replicate (n - (i + 1)) z).toArray := by
  apply Array.ext'
  rw [Array.toList_setIfInBounds, List.toList_toArray, List.toList_toArray]
  obtain ⟨k, hk⟩ : ∃ k, n - i = k + 1 := ⟨n - i - 1, by omega⟩
  have e : n - (i + 1) = k := by omega
  rw [hk, e, List.replicate_succ, List.set_append_right _ _ (by omega), hA, Nat.sub_self, List.set_cons_zero, List.append_assoc]; rfl
theorem made_bytes (n : Nat) : madeCells #[Value.int .u8 0] n = (List.replicate n (Value.int .u8 0)).toArray := by
  apply Array.ext'
  rw [List.toList_toArray]
  have e : (fun x : Nat => ([Value.int .u8 0][x % 1]?).getD default) = fun _ => Value.int .u8 0 := by funext x; rw [Nat.mod_one]; rfl
  simp [madeCells, e]
  rw [List.map_const', List.length_range]
end Go.Proofs.YtcfmifongbapkaaGreatDoor

/- TakeRow -/
namespace Go.Proofs.YtcfmifongbapkaaGreatDoor

open Go.RowKit

set_option linter.unusedVariables false

/-- Where the loop stands: i bytes are laid. -/
def DatR (g D : Nat) (r : List UInt8) (n i : Nat) (w wr : World) : Prop :=
  RS g (some (r.drop i)) wr ∧ Only g w wr ∧ BoxC wr D (bcells (r.take i) ++ List.replicate (n - i) (Value.int .u8 0)).toArray 5 ∧ w.heap.size ≤ D
end Go.Proofs.YtcfmifongbapkaaGreatDoor

/- WrapI -/
namespace Go.Proofs.YtcfmifongbapkaaGreatDoor

open Go.RowKit

set_option linter.unusedVariables false

theorem wrap_i64 (z : Nat) (h : z < 9223372036854775808) : IntKind.i64.wrap (z : Int) = z := by
  simp [IntKind.wrap, IntKind.bits, IntKind.signed]; omega
end Go.Proofs.YtcfmifongbapkaaGreatDoor

/- ReadLeft -/
namespace Go.Proofs.YtcfmifongbapkaaGreatDoor

open Go.RowKit

set_option linter.unusedVariables false

/-- How many bytes are left. -/
def lenS : St → Nat
  | some l => l.length
  | none => 0
theorem leftS_any (g : Nat) (st : St) (W : World) (h : RS g st W) : Calls Tryz.prog 86 #[.pointer (some ⟨g, 0, none⟩)] W fun e w' => e = .returned (.int .i64 (lenS st : Nat)) ∧ W = w' := by
  cases st with
  | none => exact left_any g [] false W h
  | some l => exact left_any g l true W h
end Go.Proofs.YtcfmifongbapkaaGreatDoor
