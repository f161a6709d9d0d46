/- The library's contract of utf8.ValidString, laid at this program. Condition: its two tables hold what they hold. What the program's Take and Put of values are to do, in words. No condition. Contracts of the program's Formed and Key. Conditions: the value's number and text fit their kinds; utf8's tables hold what they hold. Contract of the program's Take of values. Conditions: its reader lies in memory; utf8's tables hold what they hold. -/
import Derived.Test.YtcfmifongbapkaaGreatDoorQG
import Derived.Test.YtcfmifongbapkaaGreatDoorChecked
import Derived.Test.YtcfmifongbapkaaGreatDoorShelf
import Derived.WalkKit
import Derived.Shelf.Unicode.ValidAny
import Derived.Test.YtcfmifongbapkaaGreatDoorQK
import Derived.Laws.StructEq
import Derived.Test.YtcfmifongbapkaaGreatDoorQD
import Derived.Test.YtcfmifongbapkaaGreatDoorQI
import Derived.Deep.RegionHeld3
import Derived.Deep.RegionWith
import Derived.Test.YtcfmifongbapkaaGreatDoorQF
/- ValueUtf8 -/
namespace Go.Proofs.YtcfmifongbapkaaGreatDoor

open Go.RowKit Go.Shelf Go.Lib

/-- utf8's two tables. -/
def Tabs (w : World) : Prop := Lib.Utf8Tabs (Tryz.laysValid_ren.g 3) (Tryz.laysValid_ren.g 4) w
theorem validString_any (s : ByteArray) (w : World) (hs : s.size ≤ maxLen) (hT : Tabs w) :
    Calls Tryz.prog 149 #[.string s] w fun e w' => e = .returned (.bool (validT s.data.toList)) ∧ Below w.heap.size w w' :=
  Any.utf8_ValidString Tryz.laysValid s w (by unfold maxLen at hs; omega) hT
end Go.Proofs.YtcfmifongbapkaaGreatDoor

/- ValueSpec -/
namespace Go.Proofs.YtcfmifongbapkaaGreatDoor

open Go.RowKit

/-- The program's Take of values: what it is to do. -/
def TakesV (f : FuncId) : Prop :=
  (∀ (g : Nat) (l : List UInt8) (W : World), RdAt W g l true → tkOk l → Tabs W → Calls Tryz.prog f #[.pointer (some ⟨g, 0, none⟩)] W fun e w' => e = .returned (.agg #[.int .i64 (tkV l).k, .int .u64 ((tkV l).b : Nat), .string ⟨(tkV l).t.toArray⟩]) ∧ RdAt w' g (l.drop (tkN l)) true ∧ Only g W w') ∧
  (∀ (g : Nat) (l : List UInt8) (ok : Bool) (W : World), RdAt W g l ok → ¬ (ok = true ∧ tkOk l) → Tabs W → Calls Tryz.prog f #[.pointer (some ⟨g, 0, none⟩)] W fun e w' => e = .returned (.agg #[.int .i64 0, .int .u64 0, .string ⟨#[]⟩]) ∧ RdAt w' g [] false ∧ Only g W w')
/-- The program's Put of values: what it is to do. -/
def PutsV (f : FuncId) : Prop := ∀ (a : Option Addr) (m c : Nat) (l : List UInt8) (k : Int) (b : Nat) (t : ByteArray) (W : World), BAt W W.heap.size a m l → m ≤ 1099511600000 → b < 18446744073709551616 → t.size ≤ maxLen → Tabs W →
  Calls Tryz.prog f #[.slice a m c, .agg #[.int .i64 k, .int .u64 b, .string t]] W (NewB W (putV l ⟨k, b, t.data.toList⟩))
theorem put_max (l : List UInt8) (v : Val) (h : l.length ≤ 1000) : (putV l v).length ≤ maxLen := by
  have := bytesV_len v
  unfold putV maxLen
  split
  · rw [List.length_append]; omega
  · omega
end Go.Proofs.YtcfmifongbapkaaGreatDoor

/- ValueProg -/
namespace Go.Proofs.YtcfmifongbapkaaGreatDoor

open Go.RowKit

theorem Tabs.below {w w' : World} (h : Tabs w) (hb : Below w.heap.size w w') : Tabs w' := Utf8Tabs_below h hb
theorem number_any (b : Nat) (w : World) : Calls Tryz.prog 146 #[.int .u64 b] w fun e w' => e = .returned (.agg #[.int .i64 1, .int .u64 b, .string ⟨#[]⟩]) ∧ Below w.heap.size w w' := by
  obtain ⟨a1, a2, a3⟩ := box3 w (.int .i64 1) (.int .u64 b) (.string ⟨#[]⟩) 155
  go_enter Tryz.func146, Tryz.ntmps146
  go_wp2
  exact bodyPost_ret (v := .agg #[.int .i64 1, .int .u64 b, .string ⟨#[]⟩]) (by simp [results, Tryz.results146, go_sem, a1, a2, a3]) rfl ⟨rfl, (Below.refl _ _).alloc (Nat.le_refl _) _⟩
theorem text_any (t : ByteArray) (w : World) : Calls Tryz.prog 148 #[.string t] w fun e w' => e = .returned (.agg #[.int .i64 2, .int .u64 0, .string t]) ∧ Below w.heap.size w w' := by
  obtain ⟨a1, a2, a3⟩ := box3 w (.int .i64 2) (.int .u64 0) (.string t) 155
  go_enter Tryz.func148, Tryz.ntmps148
  go_wp2
  exact bodyPost_ret (v := .agg #[.int .i64 2, .int .u64 0, .string t]) (by simp [results, Tryz.results148, go_sem, a1, a2, a3]) rfl ⟨rfl, (Below.refl _ _).alloc (Nat.le_refl _) _⟩

set_option maxHeartbeats 1000000 in
theorem formed_any (k : Int) (b : Nat) (t : ByteArray) (w : World) (hb : b < 18446744073709551616) (ht : t.size ≤ maxLen) (hT : Tabs w) :
    Calls Tryz.prog 135 #[.agg #[.int .i64 k, .int .u64 b, .string t]] w fun e w' => e = .returned (.bool (formedB ⟨k, b, t.data.toList⟩)) ∧ Below w.heap.size w w' := by
  have ht' := ht
  unfold maxLen at ht'
  have hB1 : Below w.heap.size w (w.alloc (.cells #[.int .i64 k, .int .u64 b, .string t] 155)) := (Below.refl _ _).alloc (Nat.le_refl _) _
  have hE : t.data.toList.isEmpty = t.toList.isEmpty := by rw [ByteArray.toList_eq]
  have hz : t.data.toList.length = t.size := by rw [Array.length_toList]; rfl
  by_cases k0 : k = 0
  · subst k0
    rw [formed_none, hE]
    clear hE hz hT
    by_cases b0 : b = 0
    · subst b0
      cases e : t.toList.isEmpty
      all_goals
        go_enter Tryz.func135, Tryz.ntmps135
        go_wp2
        go_ret
        exact ⟨rfl, hB1⟩
    · have q : ((b : Int) == 0) = false := by simp; omega
      rw [decide_eq_false b0, Bool.false_and]
      go_enter Tryz.func135, Tryz.ntmps135
      go_wp2
      go_ret
      exact ⟨rfl, hB1⟩
  · have q0 : (k == 0) = false := by simp; omega
    by_cases k1 : k = 1
    · subst k1
      rw [formed_num, hE]
      clear hE hz k0 q0 hT
      have V0 := Lib.hid (BoxV.new w 1 b t 155)
      have HB := Lib.hid hB1
      have hC := fun W => canon_any b W
      have hlt : w.heap.size < (w.alloc (.cells #[.int .i64 1, .int .u64 b, .string t] 155)).drew.heap.size := by show w.heap.size < (w.alloc _).heap.size; simp
      by_cases hc : canonF b = b
      · rw [hc] at hC ⊢
        rw [decide_eq_true rfl]
        cases e : t.toList.isEmpty
        all_goals
          clear hB1
          go_enter Tryz.func135, Tryz.ntmps135
          go_upto_region 5 with (fail)
          generalize w.alloc (.cells #[.int .i64 1, .int .u64 b, .string t] 155) = W at *
          have s1 := V0.out
          go_region_held3 (fun w' => w'.cell? ⟨w.heap.size, 0, none⟩ = some (.int .i64 1) ∧ w'.cell? ⟨w.heap.size, 1, none⟩ = some (.int .u64 b) ∧ w'.cell? ⟨w.heap.size, 2, none⟩ = some (.string t)) (first | exact s1 | exact s2)
            (first | (go_at_call 147; ((with_reducible refine (hC _).mono ?_); rintro e w' ⟨rfl, rfl⟩)) | (go_at_call 146; ((with_reducible refine (number_any b _).mono ?_); rintro e w2 ⟨rfl, hb2⟩; have s2 := V0.out.drew.below hb2 hlt)))
          go_wp2
          go_ret
          exact ⟨rfl, HB.out.drew.trans (hb2.mono HB.out.size)⟩
      · rw [decide_eq_false hc, Bool.and_false]
        have q : ((b : Int) == (canonF b : Int)) = false := by simp; omega
        generalize canonF b = cb at *
        cases e : t.toList.isEmpty
        all_goals
          clear hB1
          go_enter Tryz.func135, Tryz.ntmps135
          go_upto_region 5 with (fail)
          generalize w.alloc (.cells #[.int .i64 1, .int .u64 b, .string t] 155) = W at *
          have s1 := V0.out
          go_region_held3 (fun w' => w'.cell? ⟨w.heap.size, 0, none⟩ = some (.int .i64 1) ∧ w'.cell? ⟨w.heap.size, 1, none⟩ = some (.int .u64 b) ∧ w'.cell? ⟨w.heap.size, 2, none⟩ = some (.string t)) (first | exact s1 | exact s2)
            (first | (go_at_call 147; ((with_reducible refine (hC _).mono ?_); rintro e w' ⟨rfl, rfl⟩)) | (go_at_call 146; ((with_reducible refine (number_any cb _).mono ?_); rintro e w2 ⟨rfl, hb2⟩; have s2 := V0.out.drew.below hb2 hlt)))
          go_wp2
          go_ret
          exact ⟨rfl, HB.out.drew.trans (hb2.mono HB.out.size)⟩
    · have q1 : (k == 1) = false := by simp; omega
      clear hE
      by_cases k2 : k = 2
      · subst k2
        rw [formed_text, hz]
        clear hz q0 q1 k0 k1
        have V0 := Lib.hid (BoxV.new w 2 b t 155)
        have HB := Lib.hid hB1
        have HT := Lib.hid (hT.below hB1.drew)
        have hlt : w.heap.size < (w.alloc (.cells #[.int .i64 2, .int .u64 b, .string t] 155)).drew.heap.size := by show w.heap.size < (w.alloc _).heap.size; simp
        clear hB1 hT
        by_cases b0 : b = 0
        · subst b0
          by_cases h40 : t.size ≤ 40
          · have q : decide ((t.size : Int) ≤ 40) = true := by simp; omega
            rw [decide_eq_true h40, Bool.and_true, decide_eq_true rfl, Bool.true_and]
            have cV := fun W hW => validString_any t W ht hW
            generalize validT t.data.toList = vt at *
            go_enter Tryz.func135, Tryz.ntmps135
            go_upto_region 7 with (fail)
            generalize w.alloc (.cells #[.int .i64 2, .int .u64 0, .string t] 155) = W at *
            have s1 := V0.out
            go_region_held3 (fun w' => w'.cell? ⟨w.heap.size, 0, none⟩ = some (.int .i64 2) ∧ w'.cell? ⟨w.heap.size, 1, none⟩ = some (.int .u64 0) ∧ w'.cell? ⟨w.heap.size, 2, none⟩ = some (.string t)) (first | exact s1 | exact s2 | exact s3)
              (first | (go_at_call 148; ((with_reducible refine (text_any t _).mono ?_); rintro e w2 ⟨rfl, hb2⟩; have s2 := V0.out.drew.below hb2 hlt; have T2 := Lib.hid (HT.out.below hb2); have hlt2 := Nat.lt_of_lt_of_le hlt hb2.size)) | (go_at_call 149; ((with_reducible refine (cV _ T2.out).mono ?_); rintro e w3 ⟨rfl, hb3⟩; have s3 := BoxV.below s2 hb3 hlt2)))
            go_wp2
            go_ret
            exact ⟨rfl, (HB.out.drew.trans (hb2.mono HB.out.size)).trans (hb3.mono (Nat.le_trans HB.out.size hb2.size))⟩
          · have q : decide ((t.size : Int) ≤ 40) = false := by simp; omega
            rw [decide_eq_false h40, Bool.and_false, Bool.false_and]
            go_enter Tryz.func135, Tryz.ntmps135
            go_upto_region 7 with (fail)
            generalize w.alloc (.cells #[.int .i64 2, .int .u64 0, .string t] 155) = W at *
            obtain ⟨x1, x2, x3⟩ := V0.out
            first | (go_region_with (go_at_call 148; ((with_reducible refine (text_any t _).mono ?_); rintro e w2 ⟨rfl, hb2⟩; obtain ⟨y1, y2, y3⟩ := V0.out.drew.below hb2 hlt))) | fail
            all_goals
              go_wp2
              go_ret
              exact ⟨rfl, HB.out.drew.trans (hb2.mono HB.out.size)⟩
        · have q : ((b : Int) == 0) = false := by simp; omega
          rw [decide_eq_false b0, Bool.false_and, Bool.false_and]
          go_enter Tryz.func135, Tryz.ntmps135
          go_upto_region 7 with (fail)
          generalize w.alloc (.cells #[.int .i64 2, .int .u64 b, .string t] 155) = W at *
          obtain ⟨x1, x2, x3⟩ := V0.out
          first | (go_region_with (go_at_call 148; ((with_reducible refine (text_any t _).mono ?_); rintro e w2 ⟨rfl, hb2⟩; obtain ⟨y1, y2, y3⟩ := V0.out.drew.below hb2 hlt))) | fail
          all_goals
            go_wp2
            go_ret
            exact ⟨rfl, HB.out.drew.trans (hb2.mono HB.out.size)⟩
      · have q2 : (k == 2) = false := by simp; omega
        rw [formed_other k b _ k0 k1 k2]
        go_enter Tryz.func135, Tryz.ntmps135
        go_wp2
        go_ret
        exact ⟨rfl, hB1⟩
end Go.Proofs.YtcfmifongbapkaaGreatDoor

/- ValueTk -/
namespace Go.Proofs.YtcfmifongbapkaaGreatDoor

open Go.RowKit

set_option linter.unusedVariables false

/-- What holds while a value is taken: the reader, and the answer's cell. -/
def FW (w W : World) (g : Nat) (l : List UInt8) (ok : Bool) : Prop :=
  RdAt W g l ok ∧ Only g w W ∧ W.heap[w.heap.size]? = some (.cells #[.int .i64 0, .int .u64 0, .string ⟨#[]⟩] 155 (0, 0)) ∧ g < w.heap.size
section

variable {w W W' : World} {g : Nat} {l l' : List UInt8} {ok ok' : Bool}

theorem FW.start (h : RdAt w g l ok) : FW w (w.alloc (.cells #[.int .i64 0, .int .u64 0, .string ⟨#[]⟩] 155)) g l ok :=
  ⟨h.keep fun b hb => Below.heap_alloc _ _ _ (by have := h.lt; omega), ⟨rfl, rfl, rfl, by simp, fun b hb _ => Below.heap_alloc _ _ _ hb⟩, heap_alloc_new _ _, h.lt⟩
theorem FW.rd (h : FW w W g l ok) : RdAt W g l ok := h.1
theorem FW.size (h : FW w W g l ok) : w.heap.size < W.heap.size := lt_of_heap h.2.2.1
theorem FW.only (h : FW w W g l ok) (hr : RdAt W' g l' ok') (ho : Only g W W') : FW w W' g l' ok' :=
  ⟨hr, h.2.1.trans ho, (ho.block _ h.size (fun e => by injection e with e; have := h.2.2.2; omega)).trans h.2.2.1, h.2.2.2⟩
theorem FW.below (h : FW w W g l ok) (hb : Below W.heap.size W W') : FW w W' g l ok :=
  h.only (h.1.below hb) ⟨hb.os, hb.tape, hb.output, hb.size, fun b hb' _ => hb.block _ hb'⟩
theorem FW.out (h : FW w W g l ok) (u v z : Value) : RdAt (((W.setCell ⟨w.heap.size, 0, none⟩ u).setCell ⟨w.heap.size, 1, none⟩ v).setCell ⟨w.heap.size, 2, none⟩ z) g l ok ∧ Only g w (((W.setCell ⟨w.heap.size, 0, none⟩ u).setCell ⟨w.heap.size, 1, none⟩ v).setCell ⟨w.heap.size, 2, none⟩ z) := by
  have hb : ∀ b, b < w.heap.size → (((W.setCell ⟨w.heap.size, 0, none⟩ u).setCell ⟨w.heap.size, 1, none⟩ v).setCell ⟨w.heap.size, 2, none⟩ z).heap[b]? = W.heap[b]? := by
    intro b hb
    rw [Below.heap_setCell _ _ _ _ (by show b ≠ w.heap.size; omega), Below.heap_setCell _ _ _ _ (by show b ≠ w.heap.size; omega), Below.heap_setCell _ _ _ _ (by show b ≠ w.heap.size; omega)]
  have hg := h.2.2.2
  refine ⟨h.1.keep fun b hb' => hb b (by omega), ⟨h.2.1.os, h.2.1.tape, h.2.1.output, by have := h.2.1.size; simpa [World.setCell] using this, fun b hb' hne => (hb b hb').trans (h.2.1.block b hb' hne)⟩⟩
theorem FW.cells (h : FW w W g l ok) : W.cell? ⟨w.heap.size, 0, none⟩ = some (.int .i64 0) ∧ W.cell? ⟨w.heap.size, 1, none⟩ = some (.int .u64 0) ∧ W.cell? ⟨w.heap.size, 2, none⟩ = some (.string ⟨#[]⟩) ∧ W.frozen? ⟨w.heap.size, 0, none⟩ = false ∧ W.frozen? ⟨w.heap.size, 1, none⟩ = false ∧ W.frozen? ⟨w.heap.size, 2, none⟩ = false := three_cells h.2.2.1
end

/-- A value is answered, and the reader is as it is. -/
def Got (g : Nat) (r : List UInt8) (ok : Bool) (k : Int) (b : Nat) (t : ByteArray) (w : World) (e : Ending) (w' : World) : Prop :=
  e = .returned (.agg #[.int .i64 k, .int .u64 (b : Nat), .string t]) ∧ RdAt w' g r ok ∧ Only g w w'
set_option maxHeartbeats 1000000 in
theorem fields_num (g : Nat) (l r1 r2 : List UInt8) (ok ok1 ok2 : Bool) (w : World) (h : RdAt w g l ok) (x : Nat) (c1 : ∀ W, RdAt W g l ok → Calls Tryz.prog 80 #[.pointer (some ⟨g, 0, none⟩), .int .i64 1] W fun e w' => e = .returned (.int .u64 1) ∧ RdAt w' g r1 ok1 ∧ Only g W w')
    (c8 : ∀ W, RdAt W g r1 ok1 → Calls Tryz.prog 80 #[.pointer (some ⟨g, 0, none⟩), .int .i64 8] W fun e w' => e = .returned (.int .u64 (x : Nat)) ∧ RdAt w' g r2 ok2 ∧ Only g W w') :
    Calls Tryz.prog 157 #[.pointer (some ⟨g, 0, none⟩)] w (Got g r2 ok2 1 x ⟨#[]⟩ w) := by
  have F0 := Lib.hid (FW.start h)
  clear h
  go_enter Tryz.func157, Tryz.ntmps157
  go_wp2_with (first | (go_at_call 80; ((with_reducible refine (c1 _ F0.out.rd).mono ?_); rintro e w1 ⟨rfl, hr1, ho1⟩; have F1 := Lib.hid (F0.out.only hr1 ho1))) | (go_at_call 80; ((with_reducible refine (c8 _ F1.out.rd).mono ?_); rintro e w2 ⟨rfl, hr2, ho2⟩; have F2 := Lib.hid (F1.out.only hr2 ho2))) | (go_at_call 146; ((with_reducible refine (number_any x _).mono ?_); rintro e w3 ⟨rfl, hb3⟩; have F3 := Lib.hid (F2.out.below hb3); obtain ⟨m0, m1, m2, n0, n1, n2⟩ := F3.out.cells)))
  exact bodyPost_ret (v := .agg #[.int .i64 1, .int .u64 x, .string ⟨#[]⟩]) (by simp [results, Tryz.results157, go_sem, m0, m1, m2]) rfl ⟨rfl, (F3.out.out _ _ _).1, (F3.out.out _ _ _).2⟩
set_option maxHeartbeats 1000000 in
theorem fields_text (g : Nat) (l r1 r2 : List UInt8) (ok ok1 ok2 : Bool) (w : World) (h : RdAt w g l ok) (S : ByteArray) (c1 : ∀ W, RdAt W g l ok → Calls Tryz.prog 80 #[.pointer (some ⟨g, 0, none⟩), .int .i64 1] W fun e w' => e = .returned (.int .u64 2) ∧ RdAt w' g r1 ok1 ∧ Only g W w')
    (c8 : ∀ W, RdAt W g r1 ok1 → Calls Tryz.prog 151 #[.pointer (some ⟨g, 0, none⟩), .int .i64 40] W fun e w' => e = .returned (.string S) ∧ RdAt w' g r2 ok2 ∧ Only g W w') :
    Calls Tryz.prog 157 #[.pointer (some ⟨g, 0, none⟩)] w (Got g r2 ok2 2 0 S w) := by
  have F0 := Lib.hid (FW.start h)
  clear h
  go_enter Tryz.func157, Tryz.ntmps157
  go_wp2_with (first | (go_at_call 80; ((with_reducible refine (c1 _ F0.out.rd).mono ?_); rintro e w1 ⟨rfl, hr1, ho1⟩; have F1 := Lib.hid (F0.out.only hr1 ho1))) | (go_at_call 151; ((with_reducible refine (c8 _ F1.out.rd).mono ?_); rintro e w2 ⟨rfl, hr2, ho2⟩; have F2 := Lib.hid (F1.out.only hr2 ho2))) | (go_at_call 148; ((with_reducible refine (text_any S _).mono ?_); rintro e w3 ⟨rfl, hb3⟩; have F3 := Lib.hid (F2.out.below hb3); obtain ⟨m0, m1, m2, n0, n1, n2⟩ := F3.out.cells)))
  exact bodyPost_ret (v := .agg #[.int .i64 2, .int .u64 0, .string S]) (by simp [results, Tryz.results157, go_sem, m0, m1, m2]) rfl ⟨rfl, (F3.out.out _ _ _).1, (F3.out.out _ _ _).2⟩
set_option maxHeartbeats 1000000 in
theorem fields_other (g : Nat) (l r1 : List UInt8) (ok ok1 : Bool) (w : World) (h : RdAt w g l ok) (c : Nat) (hc : c < 256) (h1 : c ≠ 1) (h2 : c ≠ 2) (c1 : ∀ W, RdAt W g l ok → Calls Tryz.prog 80 #[.pointer (some ⟨g, 0, none⟩), .int .i64 1] W fun e w' => e = .returned (.int .u64 (c : Nat)) ∧ RdAt w' g r1 ok1 ∧ Only g W w') :
    Calls Tryz.prog 157 #[.pointer (some ⟨g, 0, none⟩)] w (Got g r1 ok1 c 0 ⟨#[]⟩ w) := by
  have F0 := Lib.hid (FW.start h)
  have q1 : ((c : Int) == 1) = false := by simp; omega
  have q2 : ((c : Int) == 2) = false := by simp; omega
  clear h
  go_enter Tryz.func157, Tryz.ntmps157
  go_wp2_with (go_at_call 80; ((with_reducible refine (c1 _ F0.out.rd).mono ?_); rintro e w1 ⟨rfl, hr1, ho1⟩; have F1 := Lib.hid (F0.out.only hr1 ho1); obtain ⟨m0, m1, m2, n0, n1, n2⟩ := F1.out.cells))
  exact bodyPost_ret (v := .agg #[.int .i64 c, .int .u64 0, .string ⟨#[]⟩]) (by simp [results, Tryz.results157, go_sem, m0, m1, m2]) rfl ⟨rfl, (F1.out.out _ _ _).1, (F1.out.out _ _ _).2⟩

theorem rtake1_yes (g : Nat) (l : List UInt8) (w : World) (h : RdAt w g l true) (h1 : 1 ≤ l.length) (c : Nat) (hc : tkC l = c) :
    Calls Tryz.prog 80 #[.pointer (some ⟨g, 0, none⟩), .int .i64 1] w fun e w' => e = .returned (.int .u64 (c : Nat)) ∧ RdAt w' g (l.drop 1) true ∧ Only g w w' := by
  have := take_yes g l 1 w h h1 (by omega)
  rw [show numB (l.take 1) = c from hc] at this
  exact this
theorem rtake8_yes (g : Nat) (l : List UInt8) (w : World) (h : RdAt w g l true) (h8 : 8 ≤ l.length) :
    Calls Tryz.prog 80 #[.pointer (some ⟨g, 0, none⟩), .int .i64 8] w fun e w' => e = .returned (.int .u64 (numB (l.take 8) : Nat)) ∧ RdAt w' g (l.drop 8) true ∧ Only g w w' := take_yes g l 8 w h h8 (by omega)

/-- What the program takes of a value, formed or not. -/
def Fields (g : Nat) (l : List UInt8) (ok : Bool) (w : World) (e : Ending) (w' : World) : Prop :=
  ∃ (k : Int) (b : Nat) (t : ByteArray) (r : List UInt8) (ok' : Bool), Got g r ok' k b t w e w' ∧ b < 18446744073709551616 ∧ t.size ≤ maxLen ∧
    ((ok = true ∧ tkOk l) → (⟨k, b, t.data.toList⟩ : Val) = tkV l ∧ r = l.drop (tkN l) ∧ ok' = true) ∧ (¬ (ok = true ∧ tkOk l) → ok' = false ∨ formedB ⟨k, b, t.data.toList⟩ = false)
theorem vfields_any (g : Nat) (l : List UInt8) (ok : Bool) (w : World) (h : RdAt w g l ok) : Calls Tryz.prog 157 #[.pointer (some ⟨g, 0, none⟩)] w (Fields g l ok w) := by
  by_cases h1 : ok = true ∧ 1 ≤ l.length
  · obtain ⟨rfl, h1⟩ := h1
    have hc256 := tkC_lt l
    by_cases k1 : tkC l = 1
    · have ev : tkV l = ⟨1, numB ((l.drop 1).take 8), []⟩ := by simp [tkV, k1]
      have en : tkN l = 1 + 8 := by simp [tkN, k1]
      by_cases h8 : 8 ≤ (l.drop 1).length
      · refine (fields_num g l (l.drop 1) ((l.drop 1).drop 8) true true true w h _ (fun W hW => rtake1_yes g l W hW h1 1 k1) (fun W hW => rtake8_yes g (l.drop 1) W hW h8)).mono fun e w' hg => ?_
        refine ⟨_, _, _, _, _, hg, num8_lt _, by decide, fun _ => ⟨ev.symm, by rw [en, List.drop_drop], rfl⟩, fun hn => .inr ?_⟩
        cases hf : formedB ⟨1, numB ((l.drop 1).take 8), (⟨#[]⟩ : ByteArray).data.toList⟩
        · rfl
        · exact absurd ⟨rfl, h1, fun _ => h8, fun e => by omega, by rw [ev]; exact hf⟩ hn
      · refine (fields_num g l (l.drop 1) [] true true false w h 0 (fun W hW => rtake1_yes g l W hW h1 1 k1) (fun W hW => take_no g (l.drop 1) true 8 W hW (.inr (.inr (.inr (by omega)))))).mono fun e w' hg => ?_
        exact ⟨_, _, _, _, _, hg, by omega, by decide, fun hy => absurd (hy.2.2.1 k1) h8, fun _ => .inl rfl⟩
    · by_cases k2 : tkC l = 2
      · have ev : tkV l = ⟨2, 0, ((l.drop 1).drop 2).take (textLen (l.drop 1))⟩ := by simp [tkV, k2]
        have en : tkN l = 1 + 2 + textLen (l.drop 1) := by simp [tkN, k2]
        by_cases hT : textOk (l.drop 1) 40
        · refine (fields_text g l (l.drop 1) (((l.drop 1).drop 2).drop (textLen (l.drop 1))) true true true w h ⟨(((l.drop 1).drop 2).take (textLen (l.drop 1))).toArray⟩ (fun W hW => rtake1_yes g l W hW h1 2 k2) (fun W hW => takeText_yes g (l.drop 1) 40 W hW hT)).mono fun e w' hg => ?_
          refine ⟨_, _, _, _, _, hg, by omega, ?_, fun _ => ⟨ev.symm, by rw [en, List.drop_drop, List.drop_drop, Nat.add_assoc], rfl⟩, fun hn => .inr ?_⟩
          · show (((l.drop 1).drop 2).take (textLen (l.drop 1))).toArray.size ≤ maxLen
            rw [List.size_toArray, List.length_take]
            have := textLen_lt (l.drop 1)
            unfold maxLen; omega
          · cases hf : formedB ⟨2, 0, (⟨(((l.drop 1).drop 2).take (textLen (l.drop 1))).toArray⟩ : ByteArray).data.toList⟩
            · rfl
            · exact absurd ⟨rfl, h1, fun e => by omega, fun _ => hT, by rw [ev]; exact hf⟩ hn
        · refine (fields_text g l (l.drop 1) [] true true false w h ⟨#[]⟩ (fun W hW => rtake1_yes g l W hW h1 2 k2) (fun W hW => takeText_no g (l.drop 1) true 40 W hW (fun e => hT e.2))).mono fun e w' hg => ?_
          exact ⟨_, _, _, _, _, hg, by omega, by decide, fun hy => absurd (hy.2.2.2.1 k2) hT, fun _ => .inl rfl⟩
      · have ev : tkV l = ⟨tkC l, 0, []⟩ := by simp [tkV, k1, k2]
        have en : tkN l = 1 := by simp [tkN, k1, k2]
        refine (fields_other g l (l.drop 1) true true w h (tkC l) hc256 k1 k2 (fun W hW => rtake1_yes g l W hW h1 _ rfl)).mono fun e w' hg => ?_
        refine ⟨_, _, _, _, _, hg, by omega, by decide, fun _ => ⟨ev.symm, by rw [en], rfl⟩, fun hn => .inr ?_⟩
        cases hf : formedB ⟨tkC l, 0, (⟨#[]⟩ : ByteArray).data.toList⟩
        · rfl
        · exact absurd ⟨rfl, h1, fun e => absurd e k1, fun e => absurd e k2, by rw [ev]; exact hf⟩ hn
  · have hbad : ok = false ∨ (1 : Int) < 0 ∨ (8 : Int) < 1 ∨ ((l.length : Nat) : Int) < 1 := by
      cases ok
      · exact .inl rfl
      · right; right; right
        have : ¬ 1 ≤ l.length := fun e => h1 ⟨rfl, e⟩
        omega
    refine (fields_other g l [] ok false w h 0 (by omega) (by omega) (by omega) (fun W hW => take_no g l ok 1 W hW hbad)).mono fun e w' hg => ?_
    exact ⟨_, _, _, _, _, hg, by omega, by decide, fun hy => absurd ⟨hy.1, hy.2.1⟩ h1, fun _ => .inl rfl⟩

theorem vfail_any (g : Nat) (l : List UInt8) (ok : Bool) (w : World) (h : RdAt w g l ok) :
    Calls Tryz.prog 158 #[.pointer (some ⟨g, 0, none⟩)] w fun e w' => e = .returned (.tuple #[]) ∧ RdAt w' g [] false ∧ Only g w w' := by
  have c := take_no g l ok (-1) w h (.inr (.inl (by omega)))
  go_enter Tryz.func158, Tryz.ntmps158
  go_wp2_with (go_at_call 80; ((with_reducible refine c.mono ?_); rintro e w1 ⟨rfl, hr1, ho1⟩))
  go_end0
  exact ⟨rfl, hr1, ho1⟩

/-- The reader, the answer's cell and the value's. -/
theorem FW.box {w w1 : World} {g : Nat} {r : List UInt8} {ok : Bool} (h : FW w w1 g r ok) (k : Int) (b : Nat) (t : ByteArray) :
    FW w (w1.alloc (.cells #[.int .i64 k, .int .u64 (b : Nat), .string t] 155)) g r ok ∧ VW (w1.alloc (.cells #[.int .i64 k, .int .u64 (b : Nat), .string t] 155)) w1.heap.size k b t ∧ g ≠ w1.heap.size :=
  ⟨h.below ((Below.refl _ _).alloc (Nat.le_refl _) _), heap_alloc_new _ _, by have := h.1.lt; omega⟩
theorem Tabs.only {W W' : World} {g : Nat} {l : List UInt8} {ok : Bool} (h : Tabs W) (hr : RdAt W g l ok) (ho : Only g W W') : Tabs W' := by
  have key : ∀ {p : Addr} {k : IntKind} {v : Int}, W.cell? p = some (.int k v) → W'.cell? p = some (.int k v) := fun {p k v} hp =>
    (World.cell?_of_block (ho.block p.block (block_lt hp) (fun e => by injection e with e; exact hr.not_int hp e))).trans hp
  exact ⟨fun c hc => key (h.1 c hc), fun i hi => ⟨key (h.2 i hi).1, key (h.2 i hi).2⟩⟩

set_option maxHeartbeats 1000000 in
theorem takeV_yes (g : Nat) (l : List UInt8) (w : World) (h : RdAt w g l true) (hk : tkOk l) (hT : Tabs w) (k : Int) (b : Nat) (t : ByteArray) (hv : (⟨k, b, t.data.toList⟩ : Val) = tkV l) :
    Calls Tryz.prog 152 #[.pointer (some ⟨g, 0, none⟩)] w (Got g (l.drop (tkN l)) true k b t w) := by
  have F0 := Lib.hid (FW.start h)
  have HT := Lib.hid hT
  have HR0 := Lib.hid h
  have cF : ∀ W, RdAt W g l true → Calls Tryz.prog 157 #[.pointer (some ⟨g, 0, none⟩)] W fun e w' => e = .returned (.agg #[.int .i64 k, .int .u64 (b : Nat), .string t]) ∧ b < 18446744073709551616 ∧ t.size ≤ maxLen ∧ RdAt w' g (l.drop (tkN l)) true ∧ Only g W w' := fun W hW => by
    refine (vfields_any g l true W hW).mono ?_
    rintro e w' ⟨k', b', t', r, ok', ⟨he, hr, ho⟩, hb, ht, hy, _⟩
    obtain ⟨e1, rfl, rfl⟩ := hy ⟨rfl, hk⟩
    rw [← hv] at e1
    injection e1 with e1 e2 e3
    subst e1; subst e2
    obtain rfl : t' = t := WideShapes.bytes_inj e3
    exact ⟨he, hb, ht, hr, ho⟩
  have hf : formedB ⟨k, b, t.data.toList⟩ = true := by rw [hv]; exact hk.2.2.2
  have cV : ∀ W, b < 18446744073709551616 → t.size ≤ maxLen → Tabs W → Calls Tryz.prog 135 #[.agg #[.int .i64 k, .int .u64 b, .string t]] W fun e w' => e = .returned (.bool true) ∧ Below W.heap.size W w' := fun W h1 h2 h3 => by
    have := formed_any k b t W h1 h2 h3
    rw [hf] at this; exact this
  clear hf hv hT h hk
  generalize l.drop (tkN l) = r at *
  go_enter Tryz.func152, Tryz.ntmps152
  go_upto_region 2 with (go_at_call 157; ((with_reducible refine (cF _ F0.out.rd).mono ?_); rintro e w1 ⟨rfl, hb, ht, hr1, ho1⟩))
  have T1 : Tabs (w1.alloc (.cells #[.int .i64 k, .int .u64 b, .string t] 155)) := (HT.out.only HR0.out (F0.out.only hr1 ho1).2.1).below ((Below.refl _ _).alloc (Nat.le_refl _) _)
  have P1 := Lib.hid ((F0.out.only hr1 ho1).box k b t)
  clear cF hr1 ho1
  generalize w1.alloc (.cells #[.int .i64 k, .int .u64 b, .string t] 155) = W at *
  generalize w1.heap.size = G at *
  have HT1 := Lib.hid T1
  clear T1
  obtain ⟨o0, o1, o2, _, _, _⟩ := three_cells P1.out.2.1
  go_wp2_with (first | (go_at_call 135; ((with_reducible refine (cV _ hb ht HT1.out).mono ?_); rintro e w2 ⟨rfl, hb2⟩; have F2 := Lib.hid (P1.out.1.below hb2); obtain ⟨m0, m1, m2, n0, n1, n2⟩ := F2.out.cells; obtain ⟨o0, o1, o2, _, _, _⟩ := three_cells (P1.out.2.1.below hb2))) | (go_at_call 85; ((with_reducible refine (ok_any g r true _ F2.out.rd).mono ?_); rintro e w' ⟨rfl, rfl⟩)))
  exact bodyPost_ret (v := .agg #[.int .i64 k, .int .u64 b, .string t]) (by simp [results, Tryz.results152, go_sem, m0, m1, m2]) rfl ⟨rfl, (F2.out.out _ _ _).1, (F2.out.out _ _ _).2⟩

set_option maxHeartbeats 1000000 in
theorem takeV_no (g : Nat) (l : List UInt8) (ok : Bool) (w : World) (h : RdAt w g l ok) (hk : ¬ (ok = true ∧ tkOk l)) (hT : Tabs w) :
    Calls Tryz.prog 152 #[.pointer (some ⟨g, 0, none⟩)] w (Got g [] false 0 0 ⟨#[]⟩ w) := by
  have F0 := Lib.hid (FW.start h)
  have HT := Lib.hid hT
  have HR0 := Lib.hid h
  have cF : ∀ W, RdAt W g l ok → Calls Tryz.prog 157 #[.pointer (some ⟨g, 0, none⟩)] W fun e w' => ∃ (k : Int) (b : Nat) (t : ByteArray) (r : List UInt8) (ok' : Bool), e = .returned (.agg #[.int .i64 k, .int .u64 (b : Nat), .string t]) ∧ b < 18446744073709551616 ∧ t.size ≤ maxLen ∧ (ok' = false ∨ formedB ⟨k, b, t.data.toList⟩ = false) ∧ RdAt w' g r ok' ∧ Only g W w' := fun W hW => by
    refine (vfields_any g l ok W hW).mono ?_
    rintro e w' ⟨k', b', t', r, ok', ⟨he, hr, ho⟩, hb, ht, _, hn⟩
    exact ⟨k', b', t', r, ok', he, hb, ht, hn hk, hr, ho⟩
  clear hT h hk
  go_enter Tryz.func152, Tryz.ntmps152
  go_upto_region 2 with (go_at_call 157; ((with_reducible refine (cF _ F0.out.rd).mono ?_); rintro e w1 ⟨k, b, t, r, ok', rfl, hb, ht, hn, hr1, ho1⟩))
  have T1 : Tabs (w1.alloc (.cells #[.int .i64 k, .int .u64 b, .string t] 155)) := (HT.out.only HR0.out (F0.out.only hr1 ho1).2.1).below ((Below.refl _ _).alloc (Nat.le_refl _) _)
  have P1 := Lib.hid ((F0.out.only hr1 ho1).box k b t)
  clear cF hr1 ho1
  generalize w1.alloc (.cells #[.int .i64 k, .int .u64 b, .string t] 155) = W at *
  generalize w1.heap.size = G at *
  have cV := formed_any k b t W hb ht T1
  clear T1
  obtain ⟨o0, o1, o2, _, _, _⟩ := three_cells P1.out.2.1
  cases hf : formedB ⟨k, b, t.data.toList⟩
  · rw [hf] at cV
    clear hf hn
    go_wp2_with (first | (go_at_call 135; ((with_reducible refine cV.mono ?_); rintro e w2 ⟨rfl, hb2⟩; have F2 := Lib.hid (P1.out.1.below hb2))) | (go_at_call 158; ((with_reducible refine (vfail_any g r ok' _ F2.out.rd).mono ?_); rintro e w3 ⟨rfl, hr3, ho3⟩; have F3 := Lib.hid (F2.out.only hr3 ho3); obtain ⟨m0, m1, m2, n0, n1, n2⟩ := F3.out.cells)) | (go_at_call 85; ((with_reducible refine (ok_any g [] false _ F3.out.rd).mono ?_); rintro e w' ⟨rfl, rfl⟩)))
    exact bodyPost_ret (v := .agg #[.int .i64 0, .int .u64 0, .string ⟨#[]⟩]) (by simp [results, Tryz.results152, go_sem, m0, m1, m2]) rfl ⟨rfl, (F3.out.out _ _ _).1, (F3.out.out _ _ _).2⟩
  · rw [hf] at cV hn
    obtain rfl : ok' = false := by
      rcases hn with e | e
      · exact e
      · cases e
    obtain rfl : r = [] := by
      obtain ⟨_, _, _, _, _, _, _, hz⟩ := P1.out.1.rd
      exact hz rfl
    clear hf hn
    go_wp2_with (first | (go_at_call 135; ((with_reducible refine cV.mono ?_); rintro e w2 ⟨rfl, hb2⟩; have F2 := Lib.hid (P1.out.1.below hb2); obtain ⟨m0, m1, m2, n0, n1, n2⟩ := F2.out.cells)) | (go_at_call 85; ((with_reducible refine (ok_any g [] false _ F2.out.rd).mono ?_); rintro e w' ⟨rfl, rfl⟩)))
    exact bodyPost_ret (v := .agg #[.int .i64 0, .int .u64 0, .string ⟨#[]⟩]) (by simp [results, Tryz.results152, go_sem, m0, m1, m2]) rfl ⟨rfl, (F2.out.out _ _ _).1, (F2.out.out _ _ _).2⟩

theorem takesV : TakesV 152 :=
  ⟨fun g l W h hk hT => takeV_yes g l W h hk hT (tkV l).k (tkV l).b ⟨(tkV l).t.toArray⟩ rfl, fun g l ok W h hk hT => takeV_no g l ok W h hk hT⟩
end Go.Proofs.YtcfmifongbapkaaGreatDoor
