
/- Contracts of slices.Grow of no slice, and of slices.Concat of two slices. Conditions: the slices lie in memory, and are no longer than 2^40. Contract of bytes.Clone; a row of the call's own is appended to at a step of a drawn region. Conditions: what it is handed lies in memory and is not longer than 2^40. What the program's Take and Put of values are to do, in words. No condition. Contract of the program's Put of values. Conditions: what it is handed lies in memory and fits its kinds; utf8's tables hold what they hold. -/
import Derived.Test.YtcfmifongbapkaaGreatDoorQW
import Derived.Lib.AppendZerosOnto
import Derived.Lib.AppendZeros
import Derived.Test.YtcfmifongbapkaaGreatDoorQA
import Derived.Test.YtcfmifongbapkaaGreatDoorQY
import Derived.Test.YtcfmifongbapkaaGreatDoorQD
import Derived.Deep.RegionHeld3
import Derived.Test.YtcfmifongbapkaaGreatDoorQK
/- TxnConcat -/
namespace Go.Proofs.YtcfmifongbapkaaGreatDoor

open Go.RowKit

set_option linter.unusedVariables false

/-- A new row of one-cell elements is answered. -/
def NewX (e : TypeId) (w : World) (xs : List Value) (en : Ending) (w' : World) : Prop :=
  ∃ a c, en = .returned (.slice a xs.length c) ∧ w'.ownsRow w.heap.size e 1 (.slice a xs.length c) xs.length xs ∧ Below w.heap.size w w'
theorem own_grow {w : World} {e : TypeId} {z : Value} {n G : Nat} (hz : z.cells.size = 1) (hG : n ≤ G) (hM : G ≤ maxLen) :
    (w.drew.alloc (.cells (([] : List Value).toArray ++ Builtin.zeroCells z.cells n ++ Builtin.zeroCells z.cells (G - n)) e)).ownsRow w.heap.size e 1 (.slice (some ⟨w.heap.size, 0, none⟩) 0 G) 0 [] := by
  refine ⟨rfl, .inr ⟨w.heap.size, G, _, rfl, Nat.le_refl _, heap_alloc_new w.drew _, Nat.zero_le _, hM, ?_, by simp⟩⟩
  rw [Array.size_append, Array.size_append, size_zeroCells, size_zeroCells, hz]
  simp; omega
/-- What is there of two slices, when k of them have come. -/
def totN (n1 n2 k : Nat) : Nat := if k = 0 then 0 else if k = 1 then n1 else n1 + n2
def totX (x1 x2 : List Value) (k : Nat) : List Value := if k = 0 then [] else if k = 1 then x1 else x1 ++ x2

set_option maxRecDepth 100000 in
set_option maxHeartbeats 1000000 in
theorem growB_any (n : Nat) (w : World) (hn : n ≤ 2199023255552) :
    Calls Tryz.prog 106 #[.slice none 0 0, .int .i64 ((n : Nat) : Int)] w fun en w' => ∃ v, en = .returned v ∧ w'.ownsRow w.heap.size 5 1 v 0 [] ∧ Below w.heap.size w w' := by
  obtain ⟨i0, hi, hz0, hz1, hz2⟩ := info_parts Tryz.info5
  by_cases h0 : n = 0
  · subst h0
    go_enter Tryz.func106, Tryz.ntmps106
    go_wp2
    go_ret
    exact ⟨_, rfl, World.ownsRow_nil _ _ _ _, Below.refl _ _⟩
  · have hrz : ∀ ty, (Builtin.append_ #[34, 3] ty #[.slice none 0 0, .int .i64 ((n : Nat) : Int)]).run Tryz.prog w = _ := fun ty =>
      Lib.run_append_grow_zeros w 34 3 ty 5 i0 (.int .u8 0) .i64 .i64 Tryz.underlying34 Tryz.underlying3 hi hz0 none 0 0 [] (run_firstCells_none w.drew i0.size 0 0 0) n (by omega) (by omega) (by omega) (by omega) (by rw [hz2]; omega)
        (by rw [hz2]; exact growslice_fits (by omega) (by omega))
    have hG := grownCap_ge w (0 + n) 0 5
    have hG2 := grownCap_le_maxLen w (0 + n) 0 5 (by unfold maxLen; omega)
    simp only [Nat.zero_add] at hrz hG hG2
    have hO := Lib.hid (own_grow (w := w) (e := 5) (z := .int .u8 0) rfl hG hG2)
    have hB : Hid (Below w.heap.size w (w.drew.alloc (.cells (([] : List Value).toArray ++ Builtin.zeroCells (.int .u8 0 : Value).cells n ++ Builtin.zeroCells (.int .u8 0 : Value).cells (grownCap w n 0 5 - n)) 5))) := (below_drewN 1 (Below.refl _ _)).alloc (Nat.le_refl _) _
    have hG3 : grownCap w n 0 5 ≤ 9223372036854775807 := by unfold maxLen at hG2; omega
    have q1 : decide ((0 : Int) < (n : Int)) = true := by simp; omega
    clear hG2
    generalize grownCap w n 0 5 = G at *
    generalize w.drew.alloc (.cells (([] : List Value).toArray ++ Builtin.zeroCells (.int .u8 0 : Value).cells n ++ Builtin.zeroCells (.int .u8 0 : Value).cells (G - n)) 5) = W1 at *
    go_enter Tryz.func106, Tryz.ntmps106
    go_wp2_with (at_builtin; refine Lib.wpList_append_run _ rfl _ _ _ _ rfl _ _ rfl rfl _ _ (hrz _) ?_)
    go_ret
    exact ⟨_, rfl, hO.out, hB.out⟩

set_option maxRecDepth 100000 in
set_option maxHeartbeats 2000000 in
theorem concatB_any (B0 off c0 : Nat) (a1 : Option Addr) (n1 c1 : Nat) (x1 : List Value) (a2 : Option Addr) (n2 c2 : Nat) (x2 : List Value) (w : World)
    (hc1 : w.cell? ⟨B0, off, none⟩ = some (.slice a1 n1 c1)) (hc2 : w.cell? ⟨B0, off + 1, none⟩ = some (.slice a2 n2 c2)) (hB0 : B0 < w.heap.size)
    (h1 : RowAt w w.heap.size a1 n1 1 x1) (h2 : RowAt w w.heap.size a2 n2 1 x2) (ho1 : ∀ u ∈ x1, u.oneCell' = true) (ho2 : ∀ u ∈ x2, u.oneCell' = true) (hn1 : n1 ≤ 1099511627776) (hn2 : n2 ≤ 1099511627776) :
    Calls Tryz.prog 76 #[.slice (some ⟨B0, off, none⟩) 2 c0] w (NewX 5 w (x1 ++ x2)) := by
  obtain ⟨i0, hi, hz0, hz1, hz2⟩ := info_parts Tryz.info5
  have hl1 : x1.length = n1 := by have := h1.1; omega
  have hl2 : x2.length = n2 := by have := h2.1; omega
  have R1 := Lib.hid h1
  have R2 := Lib.hid h2
  have O1 := Lib.hid ho1
  have O2 := Lib.hid ho2
  clear h1 h2 ho1 ho2
  go_enter Tryz.func76, Tryz.ntmps76
  go_wp2
  go_loop [3, 11] (fun z i => ∃ k : Nat, k ≤ 2 ∧ i = .int .i64 k ∧ z = .int .i64 (totN n1 n2 k : Nat)) (fun _ i => 2 - (intOf i).toNat)
  case atStart => exact ⟨0, by omega, rfl, rfl⟩
  case round =>
    obtain ⟨k, hk, rfl, rfl⟩ := hrel
    rcases (show k = 0 ∨ k = 1 ∨ k = 2 by omega) with rfl | rfl | rfl
    · rw [show totN n1 n2 0 = 0 from rfl]
      go_wp2
      go_round
      case rel => exact ⟨1, by omega, by go_num, by rw [show totN n1 n2 1 = n1 from rfl]⟩
      case measure => simp [intOf]
    · rw [show totN n1 n2 1 = n1 from rfl]
      go_wp2
      go_round
      case rel => exact ⟨2, by omega, by go_num, by rw [show totN n1 n2 2 = n1 + n2 from rfl]; go_num⟩
      case measure => simp [intOf]
    · rw [show totN n1 n2 2 = n1 + n2 from rfl]
      have cG := growB_any (n1 + n2) w (by omega)
      have cG2 := cG
      rw [show ((n1 + n2 : Nat) : Int) = (n1 : Int) + (n2 : Int) by omega] at cG2
      go_wp2_with (go_at_call 106; (first | (with_reducible refine cG.mono ?_) | (with_reducible refine cG2.mono ?_)); rintro en w1 ⟨v1, rfl, hO, hb1⟩; have HO := Lib.hid hO; have HB := Lib.hid hb1; clear hO hb1)
      go_loopw [6, 27] (fun v i wr => ∃ k : Nat, k ≤ 2 ∧ i = .int .i64 k ∧ wr.ownsRow w.heap.size 5 1 v (totN n1 n2 k) (totX x1 x2 k) ∧ Below w.heap.size w wr) (fun _ i _ => 2 - (intOf i).toNat)
      case atStart => exact ⟨0, by omega, rfl, HO.out, HB.out⟩
      case round =>
        obtain ⟨k, hk, rfl, hO, hb⟩ := hrel
        have HO2 := Lib.hid hO
        have HB2 := Lib.hid hb
        clear hO hb HO HB cG cG2
        have hsz := HB2.out.size
        rcases (show k = 0 ∨ k = 1 ∨ k = 2 by omega) with rfl | rfl | rfl
        · have y1 := (HB2.out.cell (p := ⟨B0, off, none⟩) hB0).trans hc1
          go_wp2_with (at_builtin; (refine wpList_append_rowk _ rfl _ _ 34 rfl w.heap.size 5 i0 _ 1 1 Tryz.underlying34 hi hz0 hz1 hz2 rfl (by omega) _ 0 [] rfl HO2.out w.heap.size a1 n1 c1 x1 rfl (R1.out.below HB2.out (Nat.le_refl _)) O1.out (by unfold maxLen; omega) (by omega) (by omega) ?_; intro v3 w3 ho3 hg3 hat3; have HB3 := Lib.hid (HB2.out.grown hg3 hsz (fun j hj => (HO2.out.lt j hj).1)); have HO3 := Lib.hid ho3; clear ho3 hg3 hat3))
          go_roundw
          case rel => exact ⟨1, by omega, by go_num, by rw [show totN n1 n2 1 = n1 from rfl, show totX x1 x2 1 = x1 from rfl]; simpa using HO3.out, HB3.out⟩
          case measure => simp [intOf]
        · have y1 := (HB2.out.cell (p := ⟨B0, off + 1, none⟩) hB0).trans hc2
          go_wp2_with (at_builtin; (refine wpList_append_rowk _ rfl _ _ 34 rfl w.heap.size 5 i0 _ 1 1 Tryz.underlying34 hi hz0 hz1 hz2 rfl (by omega) _ n1 x1 rfl HO2.out w.heap.size a2 n2 c2 x2 rfl (R2.out.below HB2.out (Nat.le_refl _)) O2.out (by unfold maxLen; omega) (by omega) (by omega) ?_; intro v3 w3 ho3 hg3 hat3; have HB3 := Lib.hid (HB2.out.grown hg3 hsz (fun j hj => (HO2.out.lt j hj).1)); have HO3 := Lib.hid ho3; clear ho3 hg3 hat3))
          go_roundw
          case rel => exact ⟨2, by omega, by go_num, by rw [show totN n1 n2 2 = n1 + n2 from rfl, show totX x1 x2 2 = x1 ++ x2 from rfl]; exact HO3.out, HB3.out⟩
          case measure => simp [intOf]
        · have hO4 := HO2.out
          rw [show totN n1 n2 2 = n1 + n2 from rfl, show totX x1 x2 2 = x1 ++ x2 from rfl] at hO4
          have el : n1 + n2 = (x1 ++ x2).length := by rw [List.length_append]; omega
          rw [el] at hO4
          obtain ⟨a4, c4, rfl, _, _⟩ := ownk_form hO4
          have HO4 := Lib.hid hO4
          clear hO4 HO2
          go_wp2
          go_ret
          exact ⟨a4, c4, rfl, HO4.out, HB2.out⟩
end Go.Proofs.YtcfmifongbapkaaGreatDoor

/- BytesClone -/
namespace Go.Proofs.YtcfmifongbapkaaGreatDoor

open Go.RowKit

set_option linter.unusedVariables false
set_option linter.unusedSimpArgs false

set_option maxHeartbeats 1000000 in
theorem bclone_any (a : Option Addr) (m c : Nat) (l : List UInt8) (w : World) (hl : BAt w w.heap.size a m l) (hlen : m ≤ 1099511627776) :
    Calls Tryz.prog 65 #[.slice a m c] w (NewB w l) := by
  obtain ⟨i0, hi, hz0, hz1, hz2⟩ := info_parts Tryz.info5
  rcases a with _ | ad
  · have hm : m = 0 := by
      rcases hl with ⟨_, h | ⟨b, off, h, _⟩⟩
      · exact h
      · cases h
    obtain rfl : l = [] := List.eq_nil_of_length_eq_zero (by rw [hl.len, hm])
    have heq : ∀ W : World, (binOp .eql 34 (.slice none m c) (.slice none 0 0)).run Tryz.prog W = .ok (.bool true) W := fun W => Lib.run_eql_slice_nil W 34 5 _ _ _ _ _ Tryz.underlying34
    clear hm
    go_enter Tryz.func65, Tryz.ntmps65
    go_wp2
    go_ret
    exact ⟨none, 0, 0, rfl, World.ownsRow_nil _ _ _ _, Below.refl _ _⟩
  · have heq : ∀ W : World, (binOp .eql 34 (.slice (some ad) m c) (.slice none 0 0)).run Tryz.prog W = .ok (.bool false) W := fun W => Lib.run_eql_slice_nil W 34 5 _ _ _ _ _ Tryz.underlying34
    go_enter Tryz.func65, Tryz.ntmps65
    go_wp2_with (at_builtin; (refine wpList_append_bytes _ rfl _ _ 34 rfl w.heap.size 5 i0 Tryz.underlying34 hi hz0 hz1 hz2 _ 0 [] rfl (own_empty w) w.heap.size (some ad) m l c rfl (hl.alloc (Nat.le_refl _) _) (by omega) (by simp) ?_; intro v' w1 hown hg; have R : PutIn w w1 v' (0 + m) ([] ++ l) := ⟨hown, ((Below.refl _ _).alloc (Nat.le_refl _) _).grown hg (by simp) (own_block (own_empty w))⟩; clear hown hg))
    go_ret
    exact R.out
end Go.Proofs.YtcfmifongbapkaaGreatDoor

/- ValueSpec -/
namespace Go.Proofs.YtcfmifongbapkaaGreatDoor

open Go.RowKit

/-- The program's Take of values: what it is to do. -/
def TakesV (f : FuncId) : Prop :=
  (∀ (g : Nat) (l : List UInt8) (W : World), RdAt W g l true → tkOk l → Tabs W → Calls Tryz.prog f #[.pointer (some ⟨g, 0, none⟩)] W fun e w' => e = .returned (.agg #[.int .i64 (tkV l).k, .int .u64 ((tkV l).b : Nat), .string ⟨(tkV l).t.toArray⟩]) ∧ RdAt w' g (l.drop (tkN l)) true ∧ Only g W w') ∧
  (∀ (g : Nat) (l : List UInt8) (ok : Bool) (W : World), RdAt W g l ok → ¬ (ok = true ∧ tkOk l) → Tabs W → Calls Tryz.prog f #[.pointer (some ⟨g, 0, none⟩)] W fun e w' => e = .returned (.agg #[.int .i64 0, .int .u64 0, .string ⟨#[]⟩]) ∧ RdAt w' g [] false ∧ Only g W w')
/-- The program's Put of values: what it is to do. -/
def PutsV (f : FuncId) : Prop := ∀ (a : Option Addr) (m c : Nat) (l : List UInt8) (k : Int) (b : Nat) (t : ByteArray) (W : World), BAt W W.heap.size a m l → m ≤ 1099511600000 → b < 18446744073709551616 → t.size ≤ maxLen → Tabs W →
  Calls Tryz.prog f #[.slice a m c, .agg #[.int .i64 k, .int .u64 b, .string t]] W (NewB W (putV l ⟨k, b, t.data.toList⟩))
end Go.Proofs.YtcfmifongbapkaaGreatDoor

/- ValuePt -/
namespace Go.Proofs.YtcfmifongbapkaaGreatDoor

open Go.RowKit

theorem held1 : held 1 = 1 := by decide
theorem put_kind (k : Nat) (c : UInt8) (hk : k < 256) (hc : c = UInt8.ofNat k) (a : Option Addr) (m cp : Nat) (l : List UInt8) (w : World) (hl : BAt w w.heap.size a m l) (hlen : m ≤ 1099511627776) :
    Calls Tryz.prog 34 #[.slice a m cp, .int .u64 (k : Nat), .int .i64 1] w (NewB w (l ++ [c])) := by
  have := put_any a m cp k 1 l w hl hlen (by omega)
  rw [held1] at this
  rw [hc]
  have e : putB k 1 = [UInt8.ofNat k] := by simp [putB]
  rw [e] at this
  exact this

/-- What is handed on: the value's box, and all that lay there. -/
def QW (w W : World) (k : Int) (b : Nat) (t : ByteArray) : Prop := BoxV W w.heap.size k b t ∧ Below w.heap.size w W ∧ w.heap.size < W.heap.size
theorem QW.new (w : World) (k : Int) (b : Nat) (t : ByteArray) : QW w (w.alloc (.cells #[.int .i64 k, .int .u64 (b : Nat), .string t] 155)) k b t := ⟨BoxV.new w k b t 155, (Below.refl _ _).alloc (Nat.le_refl _) _, by simp⟩
theorem QW.below {w W W' : World} {k : Int} {b : Nat} {t : ByteArray} (h : QW w W k b t) (hb : Below W.heap.size W W') : QW w W' k b t := ⟨h.1.below hb h.2.2, h.2.1.trans (hb.mono h.2.1.size), Nat.lt_of_lt_of_le h.2.2 hb.size⟩
theorem QW.bel {w W : World} {k : Int} {b : Nat} {t : ByteArray} (h : QW w W k b t) : Below w.heap.size w W := h.2.1

set_option maxHeartbeats 1000000 in
theorem putsV : PutsV 130 := by
  intro a m c l k b t w hl hm hb ht hT
  have Q0 := Lib.hid (QW.new w k b t)
  have HL : Hid (∀ W, Below w.heap.size w W → BAt W W.heap.size a m l) := fun W h => (hl.below h (Nat.le_refl _)).more h.size
  have HM := Lib.hid hl.len
  have HT := Lib.hid (hT.below Q0.out.bel)
  have ht' := ht
  unfold maxLen at ht'
  have cF := fun W h => formed_any k b t W hb ht h
  clear hT hl
  cases hf : formedB ⟨k, b, t.data.toList⟩
  · rw [hf] at cF
    have R : Hid (putV l ⟨k, b, t.data.toList⟩ = l) := by show putV _ _ = _; simp [putV, hf]
    clear hf
    go_enter Tryz.func130, Tryz.ntmps130
    go_wp2_with (first | (go_at_call 135; ((with_reducible refine (cF _ HT.out).mono ?_); rintro e w1 ⟨rfl, hb1⟩; have Q1 := Lib.hid (Q0.out.below hb1))) | (go_at_call 65; ((with_reducible refine (bclone_any a m c l _ (HL.out _ Q1.out.bel) (by omega)).mono ?_); rintro e w2 ⟨a2, n2, c2, rfl, ho2, hb2⟩)))
    go_ret
    exact NewB.wide ⟨a2, n2, c2, rfl, ho2, hb2⟩ Q1.out.bel R.out.symm
  · rw [hf] at cF
    have R : Hid (putV l ⟨k, b, t.data.toList⟩ = l ++ bytesV ⟨k, b, t.data.toList⟩) := by show putV _ _ = _; simp [putV, hf]
    have hk := formed_kinds hf
    clear hf
    rcases hk with rfl | rfl | rfl
    · have T : Hid (bytesV ⟨0, b, t.data.toList⟩ = [0]) := by show bytesV _ = _; simp [bytesV]
      have cK : ∀ W, BAt W W.heap.size a m l → Calls Tryz.prog 34 #[.slice a m c, .int .u64 0, .int .i64 1] W (NewB W (l ++ [0])) := fun W h => put_kind 0 0 (by omega) rfl a m c l W h (by omega)
      go_enter Tryz.func130, Tryz.ntmps130
      go_upto_region 3 with (go_at_call 135; ((with_reducible refine (cF _ HT.out).mono ?_); rintro e w1 ⟨rfl, hb1⟩; have Q1 := Lib.hid (Q0.out.below hb1)))
      obtain ⟨p1, p2, p3⟩ := Q1.out.1
      go_wp2_with (go_at_call 34; ((with_reducible refine (cK _ (HL.out _ Q1.out.bel)).mono ?_); rintro e w2 ⟨a2, n2, c2, rfl, ho2, hb2⟩; have Q2 := Lib.hid (Q1.out.below hb2); clear p1 p2 p3; obtain ⟨p1, p2, p3⟩ := Q2.out.1))
      go_ret
      exact NewB.wide ⟨a2, n2, c2, rfl, ho2, hb2⟩ Q1.out.bel (by rw [R.out, T.out])
    · have T : Hid (bytesV ⟨1, b, t.data.toList⟩ = [1] ++ putB b (held 8)) := by show bytesV _ = _; simp [bytesV, held8]
      have cK : ∀ W, BAt W W.heap.size a m l → Calls Tryz.prog 34 #[.slice a m c, .int .u64 1, .int .i64 1] W (NewB W (l ++ [1])) := fun W h => put_kind 1 1 (by omega) rfl a m c l W h (by omega)
      go_enter Tryz.func130, Tryz.ntmps130
      go_upto_region 3 with (go_at_call 135; ((with_reducible refine (cF _ HT.out).mono ?_); rintro e w1 ⟨rfl, hb1⟩; have Q1 := Lib.hid (Q0.out.below hb1)))
      obtain ⟨p1, p2, p3⟩ := Q1.out.1
      go_upto_region 4 with (go_at_call 34; ((with_reducible refine (cK _ (HL.out _ Q1.out.bel)).mono ?_); rintro e w2 ⟨a2, n2, c2, rfl, ho2, hb2⟩; have Q2 := Lib.hid (Q1.out.below hb2)))
      clear p1 p2 p3
      obtain ⟨p1, p2, p3⟩ := Q2.out.1
      have hb2' := BAt.of_own ho2
      have hn2 : n2 ≤ 1099511627776 := by
        have h1 := own_len ho2
        have h2 := HM.out
        simp at h1; omega
      go_wp2_with (go_at_call 34; ((with_reducible refine (put_any a2 n2 c2 b 8 (l ++ [1]) _ hb2' hn2 hb).mono ?_); rintro e w3 ⟨a3, n3, c3, rfl, ho3, hb3⟩))
      go_ret
      exact NewB.wide ⟨a3, n3, c3, rfl, ho3, hb3⟩ Q2.out.bel (by rw [R.out, T.out, List.append_assoc])
    · have T : Hid (bytesV ⟨2, b, t.data.toList⟩ = [2] ++ textB t.data.toList) := by show bytesV _ = _; simp [bytesV]
      have cK : ∀ W, BAt W W.heap.size a m l → Calls Tryz.prog 34 #[.slice a m c, .int .u64 2, .int .i64 1] W (NewB W (l ++ [2])) := fun W h => put_kind 2 2 (by omega) rfl a m c l W h (by omega)
      go_enter Tryz.func130, Tryz.ntmps130
      go_upto_region 3 with (go_at_call 135; ((with_reducible refine (cF _ HT.out).mono ?_); rintro e w1 ⟨rfl, hb1⟩; have Q1 := Lib.hid (Q0.out.below hb1)))
      obtain ⟨p1, p2, p3⟩ := Q1.out.1
      go_upto_region 4 with (go_at_call 34; ((with_reducible refine (cK _ (HL.out _ Q1.out.bel)).mono ?_); rintro e w2 ⟨a2, n2, c2, rfl, ho2, hb2⟩; have Q2 := Lib.hid (Q1.out.below hb2)))
      clear p1 p2 p3
      obtain ⟨p1, p2, p3⟩ := Q2.out.1
      have hb2' := BAt.of_own ho2
      have hn2 : n2 ≤ 1099511627000 := by
        have h1 := own_len ho2
        have h2 := HM.out
        simp at h1; omega
      go_wp2_with (go_at_call 129; ((with_reducible refine (putText_any a2 n2 c2 t (l ++ [2]) _ hb2' hn2 ht).mono ?_); rintro e w3 ⟨a3, n3, c3, rfl, ho3, hb3⟩))
      go_ret
      exact NewB.wide ⟨a3, n3, c3, rfl, ho3, hb3⟩ Q2.out.bel (by rw [R.out, T.out, List.append_assoc])
end Go.Proofs.YtcfmifongbapkaaGreatDoor
