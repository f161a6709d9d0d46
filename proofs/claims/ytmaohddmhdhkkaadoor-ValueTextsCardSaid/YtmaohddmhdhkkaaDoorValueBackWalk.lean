/- The walk of the statement ValueBack, over contracts of the program's functions. Conditions: the list lies in memory and fits its kinds; utf8's tables; the contracts of Take and Put. -/
import Derived.Test.YtmaohddmhdhkkaaDoorValueBytesWalk

import Derived.Test.YtmaohddmhdhkkaaDoorValueBackMath

import Derived.Deep.RegionHeld3

namespace Go.Proofs.YtmaohddmhdhkkaaDoor

open Go.RowKit

/-- A list of values: n of them. -/
def ValsAt (w : World) (B : Nat) (a : Option Addr) (n : Nat) (K : Nat → Int) (X : Nat → Nat) (T : Nat → ByteArray) : Prop :=
  n = 0 ∨ ∃ b off, a = some ⟨b, off, none⟩ ∧ b < B ∧ ∀ i, i < n → (w.cell? ⟨b, off + i * 3, none⟩ = some (.int .i64 (K i)) ∧ w.cell? ⟨b, off + i * 3 + 1, none⟩ = some (.int .u64 (X i : Nat)) ∧
    w.cell? ⟨b, off + i * 3 + 2, none⟩ = some (.string (T i))) ∧ X i < 18446744073709551616 ∧ (T i).size ≤ maxLen
/-- The value at i, and its bytes. -/
def valAt (K : Nat → Int) (X : Nat → Nat) (T : Nat → ByteArray) (i : Nat) : Val := ⟨K i, X i, (T i).data.toList⟩
def encV (K : Nat → Int) (X : Nat → Nat) (T : Nat → ByteArray) (i : Nat) : List UInt8 := bytesV (valAt K X T i)
theorem bytesV_small (v : Val) (h : formedB v = true) : (bytesV v).length ≤ 2000 := by
  obtain ⟨k, b, t⟩ := v
  unfold bytesV
  split
  · simp [putB_len]
  · split
    · rename_i h1 h2
      simp only at h2
      subst h2
      rw [formed_text, Bool.and_eq_true, Bool.and_eq_true] at h
      have := of_decide_eq_true h.1.2
      rw [List.length_cons, textB_len]; show 2 + min t.length 65535 + 1 ≤ 2000; omega
    · simp

theorem show_max (v : Val) (h : formedB v = true) : (showB v).length ≤ 281474976710656 := by
  obtain ⟨k, b, t⟩ := v
  have h2 : k = 2 → t.length ≤ 40 := by
    rintro rfl
    rw [formed_text, Bool.and_eq_true, Bool.and_eq_true] at h
    exact of_decide_eq_true h.1.2
  unfold showB textV
  rw [if_pos h]
  split
  · have := h2 (by assumption); simp only [List.length_cons]; omega
  · split
    · simp
    · rw [List.length_cons, hexN_len]; omega

set_option maxHeartbeats 2000000 in
theorem back_walk (a : Option Addr) (n c : Nat) (K : Nat → Int) (X : Nat → Nat) (T : Nat → ByteArray) (w : World) (hF : ValsAt w w.heap.size a n K X T) (hn : n ≤ maxLen) (hT : TabsT w) (hTk : TakesV 17) (hPt : PutsV 20) :
    Calls Tryd.prog 6 #[.slice a n c] w fun e w' => e = .returned (.bool true) ∧ Below w.heap.size w w' := by
  unfold maxLen at hn
  have HTW : Hid (∀ W, Below w.heap.size w W → TabsT W) := fun W hB => hT.below hB
  have HK : Hid (∀ (g : Nat) (l : List UInt8) (W : World), RdAt W g l true → tkOk l → TabsT W → Calls Tryd.prog 17 #[.pointer (some ⟨g, 0, none⟩)] W fun e w' => e = .returned (.agg #[.int .i64 (tkV l).k, .int .u64 ((tkV l).b : Nat), .string ⟨(tkV l).t.toArray⟩]) ∧ RdAt w' g (l.drop (tkN l)) true ∧ Only g W w') := fun g l W h1 h2 h3 => hTk.1 g l W h1 h2 h3.tabs
  have HP := Lib.hid hPt
  by_cases h50 : n ≤ 50
  · have hd : decide ((50 : Int) < (n : Int)) = false := by simp; omega
    go_enter Tryd.func6, Tryd.ntmps6
    go_upto_region 3 with (go_at_call 9; ((with_reducible refine (awake_any _ hT.tabs).mono ?_); rintro e w1 ⟨rfl, hb1⟩))
    have B1 := Lib.hid hb1
    clear hb1 hd hT hTk hPt
    go_wp2
    go_loopw [3, 4] (fun v x wr => ∃ (i : Nat) (a3 : Option Addr) (m3 c3 : Nat), i ≤ n ∧ x = .int .i64 i ∧ v = .slice a3 m3 c3 ∧ BAt wr wr.heap.size a3 m3 (encTo (encV K X T) i) ∧ Below w.heap.size w wr ∧ (∀ j, j < i → formedB (valAt K X T j) = true)) (fun _ x _ => n - (intOf x).toNat)
    case atStart => exact ⟨0, none, 0, 0, by omega, rfl, rfl, BAt.nil, B1.out, fun j hj => by omega⟩
    case round =>
      obtain ⟨i, a3, m3, c3, hin, rfl, rfl, hb3, hB, hfm⟩ := hrel
      clear B1
      by_cases hlt : i < n
      · rcases hF with h | ⟨b, off, rfl, hbl, hcell⟩
        · omega
        obtain ⟨⟨q1, q2, q3⟩, hX, hTs⟩ := hcell i hlt
        have p1 : wr.cell? ⟨b, off + i * 3, none⟩ = some (.int .i64 (K i)) := (hB.cell (p := ⟨b, _, none⟩) hbl).trans q1
        have p2 : wr.cell? ⟨b, off + i * 3 + 1, none⟩ = some (.int .u64 (X i : Nat)) := (hB.cell (p := ⟨b, _, none⟩) hbl).trans q2
        have p3 : wr.cell? ⟨b, off + i * 3 + 2, none⟩ = some (.string (T i)) := (hB.cell (p := ⟨b, _, none⟩) hbl).trans q3
        have Q1 := Lib.hid q1; have Q2 := Lib.hid q2; have Q3 := Lib.hid q3
        clear q1 q2 q3 hcell
        have hTs' := hTs
        unfold maxLen at hTs'
        have hm3 := hb3.len
        have hml : m3 ≤ 200000 := by
          have h1 := encTo_len (encV K X T) i (fun j hj => bytesV_small _ (hfm j hj))
          omega
        have HB3 := Lib.hid hb3
        have HFM := Lib.hid hfm
        have hji : (i : Int) < (n : Int) := by omega
        clear hm3 hb3 hfm
        by_cases h1 : (T i).size ≤ 1000
        · have d1 : decide ((1000 : Int) < ((T i).size : Int)) = false := by simp; omega
          have cF := fun W (h : TabsT W) => formed_any (K i) (X i) (T i) W hX hTs h.tabs
          cases hf : formedB ⟨K i, X i, (T i).data.toList⟩
          · rw [hf] at cF
            clear hf
            generalize K i = k at *
            generalize X i = x at *
            generalize T i = t at *
            go_wp2_with (go_at_call 10; ((with_reducible refine (cF _ (HTW.out _ hB)).mono ?_); rintro e w2 ⟨rfl, hb2⟩))
            go_ret
            exact ⟨rfl, hB.trans (hb2.mono hB.size)⟩
          · rw [hf] at cF
            have HF2 : Hid (∀ j, j < i + 1 → formedB (valAt K X T j) = true) := fun j hj => by
              by_cases e : j = i
              · subst e; exact hf
              · exact HFM.out j (by omega)
            have EN : Hid (putV (encTo (encV K X T) i) ⟨K i, X i, (T i).data.toList⟩ = encTo (encV K X T) (i + 1)) := by
              show putV _ _ = _
              unfold putV
              rw [hf, if_pos rfl]; rfl
            have cP : ∀ W, BAt W W.heap.size a3 m3 (encTo (encV K X T) i) → TabsT W → Calls Tryd.prog 20 #[.slice a3 m3 c3, .agg #[.int .i64 (K i), .int .u64 (X i : Nat), .string (T i)]] W (NewB W (encTo (encV K X T) (i + 1))) := fun W h h' => by
              rw [← EN.out]; exact HP.out a3 m3 c3 _ (K i) (X i) (T i) W h (by omega) hX hTs h'.tabs
            clear hf EN HFM
            generalize K i = k at *
            generalize X i = x at *
            generalize T i = t at *
            go_upto_region 9 with (go_at_call 10; ((with_reducible refine (cF _ (HTW.out _ hB)).mono ?_); rintro e w2 ⟨rfl, hb2⟩))
            have hB2 := hB.trans (hb2.mono hB.size)
            clear p1 p2 p3
            have p1 : w2.cell? ⟨b, off + i * 3, none⟩ = some (.int .i64 k) := (hB2.cell (p := ⟨b, _, none⟩) hbl).trans Q1.out
            have p2 : w2.cell? ⟨b, off + i * 3 + 1, none⟩ = some (.int .u64 (x : Nat)) := (hB2.cell (p := ⟨b, _, none⟩) hbl).trans Q2.out
            have p3 : w2.cell? ⟨b, off + i * 3 + 2, none⟩ = some (.string t) := (hB2.cell (p := ⟨b, _, none⟩) hbl).trans Q3.out
            go_wp2_with (go_at_call 20; ((with_reducible refine (cP _ ?_ (HTW.out _ hB2)).mono ?_); (exact (HB3.out.below hb2 (Nat.le_refl _)).more hb2.size); rintro e w3 ⟨a4, m4, c4, rfl, ho4, hb4⟩))
            have hB4 := hB2.trans (hb4.mono hB2.size)
            go_roundw
            case rel => exact ⟨i + 1, a4, m4, c4, by omega, by go_num, rfl, BAt.of_own ho4, hB4, HF2.out⟩
            case measure => simp [intOf]; omega
        · have d1 : decide ((1000 : Int) < ((T i).size : Int)) = true := by simp; omega
          generalize K i = k at *
          generalize X i = x at *
          generalize T i = t at *
          go_wp2
          go_ret
          exact ⟨rfl, hB⟩
      · obtain rfl : i = n := by omega
        have hml : m3 ≤ 200000 := by
          have h1 := encTo_len (encV K X T) i (fun j hj => bytesV_small _ (hfm j hj))
          have h2 := hb3.len
          omega
        have HFM := Lib.hid hfm
        rw [enc_start] at hb3
        clear hfm
        go_upto_region 11 with (go_at_call 16; ((with_reducible refine (new_any a3 m3 c3 (encFrom (encV K X T) i i) _ hb3 (by omega)).mono ?_); rintro e w4 ⟨g, rfl, hr4, hg1, hg2, hb4⟩))
        have B4 := Lib.hid (hB.trans (hb4.mono hB.size))
        have hgw : w.heap.size ≤ g := Nat.le_trans hB.size hg1
        clear hb4 hg1 hg2 hB hb3
        go_wp2
        go_loopw [6] (fun x wr => ∃ (j : Nat), j ≤ i ∧ x = .int .i64 j ∧ RdAt wr g (encFrom (encV K X T) i (i - j)) true ∧ Below w.heap.size w wr) (fun x _ => i - (intOf x).toNat)
        case atStart => exact ⟨0, by omega, rfl, hr4, B4.out⟩
        case round =>
          obtain ⟨j, hj, rfl, hr, hBr⟩ := hrel
          clear hr4 B4
          by_cases hji : j < i
          · rcases hF with h | ⟨b, off, rfl, hbl, hcell⟩
            · omega
            obtain ⟨⟨q1, q2, q3⟩, hX, hTs⟩ := hcell j hji
            have hfj := HFM.out j hji
            rw [enc_step _ _ _ hji] at hr
            have hvb : (valAt K X T j).b < 18446744073709551616 := hX
            obtain ⟨k1, k2, k3⟩ := take_back (valAt K X T j) (encFrom (encV K X T) i (i - (j + 1))) hvb hfj
            obtain ⟨y1, y2⟩ := parse_yes (valAt K X T j) hvb hfj
            have cT : ∀ W, RdAt W g (encV K X T j ++ encFrom (encV K X T) i (i - (j + 1))) true → TabsT W → Calls Tryd.prog 17 #[.pointer (some ⟨g, 0, none⟩)] W fun e w' => e = .returned (.agg #[.int .i64 (K j), .int .u64 (X j : Nat), .string (T j)]) ∧ RdAt w' g (encFrom (encV K X T) i (i - (j + 1))) true ∧ Only g W w' := fun W h h' => by
              have := HK.out g _ W h k1 h'
              rw [show tkV (encV K X T j ++ encFrom (encV K X T) i (i - (j + 1))) = valAt K X T j from k2, show List.drop (tkN (encV K X T j ++ encFrom (encV K X T) i (i - (j + 1)))) (encV K X T j ++ encFrom (encV K X T) i (i - (j + 1))) = _ from k3] at this
              have es : T j = ⟨(valAt K X T j).t.toArray⟩ := str_eq rfl
              rw [es]; exact this
            obtain ⟨Y, hY⟩ : ∃ Y : ByteArray, Y = ⟨(showB (valAt K X T j)).toArray⟩ := ⟨_, rfl⟩
            have hYl : Y.data.toList = showB (valAt K X T j) := by rw [hY]
            have cS : ∀ W, TabsT W → Calls Tryd.prog 27 #[.agg #[.int .i64 (K j), .int .u64 (X j : Nat), .string (T j)]] W fun e w' => e = .returned (.string Y) ∧ Below W.heap.size W w' := fun W h => by
              rw [hY]; exact show_any (K j) (X j) (T j) W hX hTs h
            have hYs : Y.size ≤ 281474976710656 := by
              have h1 : Y.size = (showB (valAt K X T j)).length := by rw [← hYl, Array.length_toList]; rfl
              rw [h1]; exact show_max _ hfj
            have cP : ∀ W, TabsT W → Calls Tryd.prog 25 #[.string Y] W fun e w' => e = .returned (.tuple #[.agg #[.int .i64 (K j), .int .u64 (X j : Nat), .string (T j)], .int .i64 0]) ∧ Below W.heap.size W w' := fun W h => by
              have := parse_any Y W hYs h
              unfold Parsed at this
              rw [hYl, y1, y2] at this
              have es : T j = ⟨(valAt K X T j).t.toArray⟩ := str_eq rfl
              rw [es]; exact this
            have p1 : wr.cell? ⟨b, off + j * 3, none⟩ = some (.int .i64 (K j)) := (hBr.cell (p := ⟨b, _, none⟩) hbl).trans q1
            have p2 : wr.cell? ⟨b, off + j * 3 + 1, none⟩ = some (.int .u64 (X j : Nat)) := (hBr.cell (p := ⟨b, _, none⟩) hbl).trans q2
            have p3 : wr.cell? ⟨b, off + j * 3 + 2, none⟩ = some (.string (T j)) := (hBr.cell (p := ⟨b, _, none⟩) hbl).trans q3
            have Q1 := Lib.hid q1; have Q2 := Lib.hid q2; have Q3 := Lib.hid q3
            have hjii : (j : Int) < (i : Int) := by omega
            have hr' : RdAt wr g (encV K X T j ++ encFrom (encV K X T) i (i - (j + 1))) true := hr
            have HR := Lib.hid hr'
            clear q1 q2 q3 hcell k1 k2 k3 y1 y2 hY hYl hr hr' hfj hvb
            generalize encV K X T j ++ encFrom (encV K X T) i (i - (j + 1)) = LL at *
            generalize K j = k at *
            generalize X j = x at *
            generalize T j = t at *
            go_upto_region 15 with (first | (go_at_call 27; ((with_reducible refine (cS _ (HTW.out _ hBr)).mono ?_); rintro e w5 ⟨rfl, hb5⟩; have B5 := Lib.hid (hBr.trans (hb5.mono hBr.size)))) | (go_at_call 25; ((with_reducible refine (cP _ (HTW.out _ B5.out)).mono ?_); rintro e w6 ⟨rfl, hb6⟩)))
            have B6 := B5.out.trans (hb6.mono B5.out.size)
            have e7 : (w6.alloc (.cells #[.int .i64 k, .int .u64 x, .string t] 24)).heap.size = w6.heap.size + 1 := by simp
            have hal : Below w6.heap.size w6 (w6.alloc (.cells #[.int .i64 k, .int .u64 x, .string t] 24)) := (Below.refl _ _).alloc (Nat.le_refl _) _
            have B7 := B6.trans (hal.mono B6.size)
            have V7 := BoxV.new w6 k x t 24
            have R7 := ((HR.out.below hb5).below hb6).below hal
            have hgX : g < w6.heap.size := by
              have h1 : g < wr.heap.size := by obtain ⟨_, _, _, hh, _⟩ := HR.out; exact lt_of_heap hh
              have h2 := hb5.size
              have h3 := hb6.size
              omega
            have hXl : w6.heap.size < (w6.alloc (.cells #[.int .i64 k, .int .u64 x, .string t] 24)).heap.size := by omega
            clear e7 hal B6 p1 p2 p3 HR
            generalize w6.alloc (.cells #[.int .i64 k, .int .u64 x, .string t] 24) = W7 at *
            generalize w6.heap.size = XX at *
            have s1 : W7.cell? ⟨b, off + j * 3, none⟩ = some (.int .i64 k) ∧ W7.cell? ⟨b, off + j * 3 + 1, none⟩ = some (.int .u64 (x : Nat)) ∧ W7.cell? ⟨b, off + j * 3 + 2, none⟩ = some (.string t) ∧ W7.cell? ⟨XX, 0, none⟩ = some (.int .i64 k) ∧ W7.cell? ⟨XX, 1, none⟩ = some (.int .u64 (x : Nat)) ∧ W7.cell? ⟨XX, 2, none⟩ = some (.string t) :=
              ⟨(B7.cell (p := ⟨b, _, none⟩) hbl).trans Q1.out, (B7.cell (p := ⟨b, _, none⟩) hbl).trans Q2.out, (B7.cell (p := ⟨b, _, none⟩) hbl).trans Q3.out, V7.1, V7.2.1, V7.2.2⟩
            have HV7 := Lib.hid V7; have HR7 : Hid (RdAt W7.drew g LL true) := R7; have HB7 : Hid (Below w.heap.size w W7.drew) := B7.drew; have HXl : Hid (XX < W7.drew.heap.size) := hXl
            clear V7 R7 B7 hXl
            go_region_held3 (fun w' => w'.cell? ⟨b, off + j * 3, none⟩ = some (.int .i64 k) ∧ w'.cell? ⟨b, off + j * 3 + 1, none⟩ = some (.int .u64 x) ∧ w'.cell? ⟨b, off + j * 3 + 2, none⟩ = some (.string t) ∧ w'.cell? ⟨XX, 0, none⟩ = some (.int .i64 k) ∧ w'.cell? ⟨XX, 1, none⟩ = some (.int .u64 x) ∧ w'.cell? ⟨XX, 2, none⟩ = some (.string t)) (first | exact s1 | exact s2) (first | (go_at_call 17; ((with_reducible refine (cT _ HR7.out (HTW.out _ HB7.out)).mono ?_); rintro e w8 ⟨rfl, hr8, ho8⟩; have B8 : Below w.heap.size w w8 := Only.below HB7.out ho8 hgw HB7.out.size; have V8 : BoxV w8 XX k x t := BoxV.only (BoxV.drew HV7.out) ho8 HXl.out (by omega); have s2 := And.intro ((B8.cell (p := ⟨b, off + j * 3, none⟩) hbl).trans Q1.out) (And.intro ((B8.cell (p := ⟨b, off + j * 3 + 1, none⟩) hbl).trans Q2.out) (And.intro ((B8.cell (p := ⟨b, off + j * 3 + 2, none⟩) hbl).trans Q3.out) V8)))))
            clear s1 s2 V8
            go_wp2
            go_roundw
            case rel => exact ⟨j + 1, by omega, by go_num, hr8, B8⟩
            case measure => simp [intOf]; omega
          · obtain rfl : j = i := by omega
            rw [Nat.sub_self] at hr
            clear HFM hF
            go_wp2_with (go_at_call 29; ((with_reducible refine (end_any g [] true _ hr).mono ?_); rintro e w' ⟨rfl, rfl⟩))
            go_ret
            exact ⟨rfl, hBr⟩
  · have hd : decide ((50 : Int) < (n : Int)) = true := by simp; omega
    clear hTk hPt HP HK
    go_enter Tryd.func6, Tryd.ntmps6
    go_upto_region 2 with (go_at_call 9; ((with_reducible refine (awake_any _ hT.tabs).mono ?_); rintro e w1 ⟨rfl, hb1⟩))
    go_wp2_with (go_at_call 9; ((with_reducible refine (awake_any _ (HTW.out _ hb1).tabs).mono ?_); rintro e w2 ⟨rfl, hb2⟩))
    go_ret
    exact ⟨rfl, hb1.trans (hb2.mono hb1.size)⟩
end Go.Proofs.YtmaohddmhdhkkaaDoor
