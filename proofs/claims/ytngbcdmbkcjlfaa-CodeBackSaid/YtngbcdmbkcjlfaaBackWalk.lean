/- The walk of the statement CodeBack. Conditions: the list of fields lies in memory and fits its kinds. -/
import Derived.Test.YtngbcdmbkcjlfaaAwake
import Derived.Test.YtngbcdmbkcjlfaaOrderWalk
import Derived.Deep.RegionHeld3
namespace Go.Proofs.Ytngbcdmbkcjlfaa
open Go.RowKit

/-- A list of fields: n of them, each a bool, two numbers and a text. -/
def FieldsAt (w : World) (B : Nat) (a : Option Addr) (n : Nat) (T : Nat → Bool) (X : Nat → Nat) (N : Nat → Int) (S : Nat → ByteArray) : Prop :=
  n = 0 ∨ ∃ b off, a = some ⟨b, off, none⟩ ∧ b < B ∧ ∀ i, i < n → (w.cell? ⟨b, off + i * 4, none⟩ = some (.bool (T i)) ∧ w.cell? ⟨b, off + i * 4 + 1, none⟩ = some (.int .u64 (X i : Nat)) ∧
    w.cell? ⟨b, off + i * 4 + 2, none⟩ = some (.int .i64 (N i)) ∧ w.cell? ⟨b, off + i * 4 + 3, none⟩ = some (.string (S i))) ∧ X i < 18446744073709551616 ∧ (S i).size ≤ maxLen

/-- A field's bytes; those of the fields before i; those from i on. -/
def encF (T : Nat → Bool) (X : Nat → Nat) (N : Nat → Int) (S : Nat → ByteArray) (i : Nat) : List UInt8 := if T i then textB (S i).data.toList else putB (X i) (held (N i))
def encTo (f : Nat → List UInt8) : Nat → List UInt8
  | 0 => []
  | i + 1 => encTo f i ++ f i
def encFrom (f : Nat → List UInt8) (n : Nat) : Nat → List UInt8
  | 0 => []
  | r + 1 => f (n - (r + 1)) ++ encFrom f n r
theorem enc_all (f : Nat → List UInt8) (n : Nat) : ∀ r, r ≤ n → encTo f (n - r) ++ encFrom f n r = encTo f n
  | 0, _ => by simp [encFrom]
  | r + 1, h => by
    have ih := enc_all f n r (by omega)
    have e : n - r = (n - (r + 1)) + 1 := by omega
    rw [e, encTo] at ih
    rw [encFrom, ← List.append_assoc]; exact ih
theorem enc_start (f : Nat → List UInt8) (n : Nat) : encTo f n = encFrom f n n := by
  have := enc_all f n n (Nat.le_refl _)
  rw [Nat.sub_self] at this
  simpa [encTo] using this.symm
theorem enc_step (f : Nat → List UInt8) (n i : Nat) (h : i < n) : encFrom f n (n - i) = f i ++ encFrom f n (n - (i + 1)) := by
  have e : n - i = (n - (i + 1)) + 1 := by omega
  rw [e, encFrom]
  have e2 : n - (n - (i + 1) + 1) = i := by omega
  rw [e2]
theorem encTo_len (f : Nat → List UInt8) (i : Nat) (h : ∀ j, j < i → (f j).length ≤ 2000) : (encTo f i).length ≤ i * 2000 := by
  induction i with
  | zero => simp [encTo]
  | succ i ih =>
    have h1 := ih (fun j hj => h j (by omega))
    have h2 := h i (by omega)
    rw [encTo, List.length_append]; omega
theorem encF_len (T : Nat → Bool) (X : Nat → Nat) (N : Nat → Int) (S : Nat → ByteArray) (i : Nat) (h : (S i).size ≤ 1000) : (encF T X N S i).length ≤ 2000 := by
  unfold encF
  split
  · rw [textB_len, Array.length_toList]; have : (S i).data.size = (S i).size := rfl; omega
  · rw [putB_len]; have := held_le (N i); omega

theorem text_back (s : ByteArray) (R : List UInt8) (h : s.size ≤ 1000) : textLen (textB s.data.toList ++ R) = s.size ∧ ((textB s.data.toList ++ R).drop 2).take s.size = s.data.toList ∧ ((textB s.data.toList ++ R).drop 2).drop s.size = R := by
  have hz : s.data.toList.length = s.size := by rw [Array.length_toList]; rfl
  have ht : s.data.toList.take 65535 = s.data.toList := List.take_of_length_le (by omega)
  have hm : min s.data.toList.length 65535 = s.size := by omega
  have e : textB s.data.toList ++ R = putB s.size 2 ++ (s.data.toList ++ R) := by rw [textB, ht, hm, List.append_assoc]
  rw [e]
  have hp := putB_len s.size 2
  refine ⟨?_, ?_, ?_⟩
  · rw [textLen, take_app _ _ 2 hp, numB_put]; exact Nat.mod_eq_of_lt (by omega)
  · rw [drop_app _ _ 2 hp, take_app _ _ _ hz]
  · rw [drop_app _ _ 2 hp, drop_app _ _ _ hz]
theorem takeField_text (g : Nat) (s : ByteArray) (R : List UInt8) (w : World) (hs : s.size ≤ 1000) (h : RdAt w g (textB s.data.toList ++ R) true) :
    Calls Try.prog 15 #[.pointer (some ⟨g, 0, none⟩), .int .i64 1000] w fun e w' => e = .returned (.string s) ∧ RdAt w' g R true ∧ Only g w w' := by
  obtain ⟨e1, e2, e3⟩ := text_back s R hs
  have hl := textB_len s.data.toList
  have hz : s.data.toList.length = s.size := by rw [Array.length_toList]; rfl
  refine (takeText_yes g _ 1000 w h ⟨by rw [List.length_append]; omega, by rw [e1]; omega, by rw [e1, List.length_append]; omega⟩).mono ?_
  rintro e w' ⟨rfl, hr, ho⟩
  rw [e1, e3] at hr
  refine ⟨?_, hr, ho⟩
  rw [e1, e2]
theorem takeField_num (g x k : Nat) (R : List UInt8) (w : World) (hk : k ≤ 8) (h : RdAt w g (putB x k ++ R) true) :
    Calls Try.prog 17 #[.pointer (some ⟨g, 0, none⟩), .int .i64 k] w fun e w' => e = .returned (.int .u64 (x % 256 ^ k : Nat)) ∧ RdAt w' g R true ∧ Only g w w' := by
  have hp := putB_len x k
  refine (take_yes g _ k w h (by rw [List.length_append]; omega) hk).mono ?_
  rintro e w' ⟨rfl, hr, ho⟩
  rw [drop_app _ _ _ hp] at hr
  refine ⟨?_, hr, ho⟩
  rw [take_app _ _ _ hp, numB_put]

/-- What the first loop holds: the bytes so far. -/
def Built (w wr : World) (v : Value) (l : List UInt8) : Prop := ∃ a q c, v = .slice a q c ∧ BAt wr wr.heap.size a q l ∧ Below w.heap.size w wr
theorem Built.bel {w wr : World} {v : Value} {l : List UInt8} (h : Built w wr v l) : Below w.heap.size w wr := by obtain ⟨_, _, _, _, _, hb⟩ := h; exact hb
theorem NewB.bel {w w' : World} {l : List UInt8} {e : Ending} (h : NewB w l e w') : Below w.heap.size w w' := by obtain ⟨_, _, _, _, _, hb⟩ := h; exact hb
theorem Built.next {w wr w' : World} {v : Value} {l l' : List UInt8} {e : Ending} (h : Built w wr v l) (k : Nat) (hn : NewB (wr.drewN k) l' e w') : ∃ v', e = .returned v' ∧ Built w w' v' l' := by
  obtain ⟨_, _, _, _, _, hb⟩ := h
  obtain ⟨a, n, c, rfl, ho, hb2⟩ := hn
  exact ⟨_, rfl, a, n, c, rfl, BAt.of_own ho, below_on k hb hb2⟩

set_option maxHeartbeats 2000000 in
theorem back_walk (a : Option Addr) (n c : Nat) (T : Nat → Bool) (X : Nat → Nat) (N : Nat → Int) (S : Nat → ByteArray) (w : World) (hF : FieldsAt w w.heap.size a n T X N S) (hn : n ≤ maxLen) :
    Calls Try.prog 5 #[.slice a n c] w fun e w' => e = .returned (.bool true) ∧ Below w.heap.size w w' := by
  unfold maxLen at hn
  by_cases hz : n ≤ 50
  · have hd2 : decide ((50 : Int) < (n : Int)) = false := by simp; omega
    go_enter Try.func5, Try.ntmps5
    go_wp2_with (go_at_call 8; ((with_reducible refine (awake_any _).mono ?_); rintro e w1 ⟨rfl, hb1⟩))
    go_loopw [3, 4] (fun v i wr => ∃ (j : Nat), j ≤ n ∧ i = .int .i64 j ∧ Built w wr v (encTo (encF T X N S) j) ∧ ∀ q, q < j → (S q).size ≤ 1000) (fun _ i _ => n - (intOf i).toNat)
    case atStart => exact ⟨0, by omega, rfl, ⟨none, 0, 0, rfl, BAt.nil, hb1⟩, fun q hq => by omega⟩
    case round =>
      obtain ⟨j, hj, rfl, hB, hsm⟩ := hrel
      by_cases hlt : j < n
      · have hF0 := hF
        rcases hF with h | ⟨b, off, rfl, hbl, hcell⟩
        · omega
        obtain ⟨⟨ct0, cx0, cn0, cs0⟩, hX, hS⟩ := hcell j hlt
        have bel : Below w.heap.size w wr := by obtain ⟨_, _, _, _, _, hb⟩ := hB; exact hb
        have ct : wr.cell? ⟨b, off + j * 4, none⟩ = some (.bool (T j)) := (bel.cell (p := ⟨b, _, none⟩) hbl).trans ct0
        have cx : wr.cell? ⟨b, off + j * 4 + 1, none⟩ = some (.int .u64 (X j : Nat)) := (bel.cell (p := ⟨b, _, none⟩) hbl).trans cx0
        have cn : wr.cell? ⟨b, off + j * 4 + 2, none⟩ = some (.int .i64 (N j)) := (bel.cell (p := ⟨b, _, none⟩) hbl).trans cn0
        have cs : wr.cell? ⟨b, off + j * 4 + 3, none⟩ = some (.string (S j)) := (bel.cell (p := ⟨b, _, none⟩) hbl).trans cs0
        have hji : (j : Int) < (n : Int) := by omega
        have hl := encTo_len (encF T X N S) j (fun q hq => encF_len T X N S q (hsm q hq))
        clear ct0 cx0 cn0 cs0 hcell hF0 hb1
        by_cases hs : (S j).size ≤ 1000
        · have HSM : Hid (∀ q, q < j + 1 → (S q).size ≤ 1000) := fun q hq => by
            rcases Nat.lt_or_ge q j with h | h
            · exact hsm q h
            · obtain rfl : q = j := by omega
              exact hs
          have HE := Lib.hid (show encTo (encF T X N S) (j + 1) = encTo (encF T X N S) j ++ encF T X N S j from rfl)
          clear hsm
          obtain ⟨a1, q1, c1, rfl, hb, _⟩ := hB
          have hq : q1 ≤ 100000 := by have := hb.len; omega
          cases hT : T j
          · have HF := Lib.hid (show encF T X N S j = putB (X j) (held (N j)) by simp [encF, hT])
            rw [hT] at ct
            clear hT
            generalize X j = x at *
            generalize N j = m at *
            have hB : Built w wr (.slice a1 q1 c1) (encTo (encF T X N S) j) := ⟨a1, q1, c1, rfl, hb, bel⟩
            go_upto_region 11 with (fail)
            clear cs hs
            go_region_held3 (fun w' => w'.cell? ⟨b, off + j * 4 + 1, none⟩ = some (.int .u64 x) ∧ w'.cell? ⟨b, off + j * 4 + 2, none⟩ = some (.int .i64 m)) (first | exact ⟨cx, cn⟩ | exact ⟨e1, e2⟩)
              (first | (go_at_call 10; ((with_reducible refine (put_any _ _ _ _ _ (encTo (encF T X N S) j) _ ?_ (by omega) hX).mono ?_); (exact hb); intro e w2 hnew; obtain ⟨v2, rfl, hB2⟩ := hB.next 1 hnew; have bel2 : Below w.heap.size w w2 := hB2.bel; have bw : Below wr.heap.size wr w2 := (Below.refl _ _).drew.trans hnew.bel; have e1 : w2.cell? ⟨b, off + j * 4 + 1, none⟩ = some (.int .u64 x) := (bw.cell (p := ⟨b, _, none⟩) (Nat.lt_of_lt_of_le hbl bel.size)).trans cx; have e2 : w2.cell? ⟨b, off + j * 4 + 2, none⟩ = some (.int .i64 m) := (bw.cell (p := ⟨b, _, none⟩) (Nat.lt_of_lt_of_le hbl bel.size)).trans cn)))
            clear hnew e1 e2 cx cn
            go_wp2
            go_roundw
            case rel => exact ⟨j + 1, by omega, by go_num, by rw [HE.out, HF.out]; exact hB2, HSM.out⟩
            case measure => simp [intOf]; omega
          · have HF := Lib.hid (show encF T X N S j = textB (S j).data.toList by simp [encF, hT])
            rw [hT] at ct
            clear hT
            have hB : Built w wr (.slice a1 q1 c1) (encTo (encF T X N S) j) := ⟨a1, q1, c1, rfl, hb, bel⟩
            clear cx cn
            generalize S j = s at *
            go_wp2_with (go_at_call 12; ((with_reducible refine (putText_any _ _ _ _ (encTo (encF T X N S) j) _ hb (by omega) hS).mono ?_); intro e w2 hnew; obtain ⟨v2, rfl, hB2⟩ := hB.next 0 hnew; clear hnew))
            go_roundw
            case rel => exact ⟨j + 1, by omega, by go_num, by rw [HE.out, HF.out]; exact hB2, HSM.out⟩
            case measure => simp [intOf]; omega
        · have hd : decide ((1000 : Int) < ((S j).size : Int)) = true := by simp; omega
          clear cx cn ct hsm hB
          go_wp2
          go_ret
          exact ⟨rfl, bel⟩
      · obtain rfl : j = n := by omega
        have hl := encTo_len (encF T X N S) j (fun q hq => encF_len T X N S q (hsm q hq))
        obtain ⟨a1, q1, c1, rfl, hb, bel⟩ := hB
        have hq : q1 ≤ 100000 := by have := hb.len; omega
        have HSM := Lib.hid hsm
        clear hsm hb1
        go_wp2_with (go_at_call 14; ((with_reducible refine (new_any _ _ _ (encTo (encF T X N S) j) _ hb (by omega)).mono ?_); rintro e w2 ⟨g, rfl, hr, hg1, hg2, hb2⟩))
        rw [enc_start] at hr
        have bel2 := bel.trans (hb2.mono bel.size)
        have hgw : w.heap.size ≤ g := Nat.le_trans bel.size hg1
        clear hb hb2 hg1 hg2 bel hl
        go_loopw [6] (fun i wr2 => ∃ k : Nat, k ≤ j ∧ i = .int .i64 k ∧ RdAt wr2 g (encFrom (encF T X N S) j (j - k)) true ∧ Below w.heap.size w wr2) (fun i _ => j - (intOf i).toNat)
        case atStart => exact ⟨0, by omega, rfl, hr, bel2⟩
        case round =>
          clear hr bel2
          obtain ⟨k, hk, rfl, hr, bel⟩ := hrel
          by_cases hlt : k < j
          · rcases hF with h | ⟨b, off, rfl, hbl, hcell⟩
            · omega
            obtain ⟨⟨ct0, cx0, cn0, cs0⟩, hX, hS⟩ := hcell k hlt
            have ct : wr.cell? ⟨b, off + k * 4, none⟩ = some (.bool (T k)) := (bel.cell (p := ⟨b, _, none⟩) hbl).trans ct0
            have cx : wr.cell? ⟨b, off + k * 4 + 1, none⟩ = some (.int .u64 (X k : Nat)) := (bel.cell (p := ⟨b, _, none⟩) hbl).trans cx0
            have cn : wr.cell? ⟨b, off + k * 4 + 2, none⟩ = some (.int .i64 (N k)) := (bel.cell (p := ⟨b, _, none⟩) hbl).trans cn0
            have cs : wr.cell? ⟨b, off + k * 4 + 3, none⟩ = some (.string (S k)) := (bel.cell (p := ⟨b, _, none⟩) hbl).trans cs0
            have CS := Lib.hid cs0
            have hji : (k : Int) < (j : Int) := by omega
            have hs := HSM.out k hlt
            clear ct0 cx0 cn0 cs0 hcell
            rw [enc_step _ _ _ hlt] at hr
            cases hT : T k
            · rw [show encF T X N S k = putB (X k) (held (N k)) by simp [encF, hT]] at hr
              rw [hT] at ct
              clear hT cs CS hs
              generalize X k = x at *
              generalize N k = m at *
              have hk8 := held_le m
              go_upto_region 21 with (fail)
              rw [held_if]
              generalize held m = h at *
              by_cases h7 : h < 8
              · have hp : 0 < 256 ^ h := Nat.pow_pos (by omega)
                have hw := pow_wrap h h7
                have ex : (x : Int) % ((256 ^ h : Nat) : Int) = ((x % 256 ^ h : Nat) : Int) := by rw [Int.natCast_emod]
                have hT := takeField_num g x h _ wr hk8 hr
                generalize x % 256 ^ h = x' at *
                generalize 256 ^ h = p at *
                have hpi : ¬ (p : Int) = 0 := by omega
                have EX := Lib.hid ex
                clear ex
                go_upto_region 23 with (fail)
                rw [EX.out]
                clear hw
                go_wp2_with (go_at_call 17; ((with_reducible refine hT.mono ?_); rintro e w3 ⟨rfl, hr3, ho3⟩))
                have bel3 : Below w.heap.size w w3 := Only.below bel ho3 hgw bel.size
                go_roundw
                case rel => exact ⟨k + 1, by omega, by go_num, hr3, bel3⟩
                case measure => simp [intOf]; omega
              · have hT := takeField_num g x h _ wr hk8 hr
                obtain rfl : h = 8 := by omega
                rw [Nat.mod_eq_of_lt (by omega)] at hT
                have hT8 : Calls Try.prog 17 #[.pointer (some ⟨g, 0, none⟩), .int .i64 8] wr (fun e w' => e = .returned (.int .u64 (x : Nat)) ∧ RdAt w' g (encFrom (encF T X N S) j (j - (k + 1))) true ∧ Only g wr w') := hT
                clear hT
                go_wp2_with (go_at_call 17; ((with_reducible refine hT8.mono ?_); rintro e w3 ⟨rfl, hr3, ho3⟩))
                have bel3 : Below w.heap.size w w3 := Only.below bel ho3 hgw bel.size
                go_roundw
                case rel => exact ⟨k + 1, by omega, by go_num, hr3, bel3⟩
                case measure => simp [intOf]; omega
            · rw [show encF T X N S k = textB (S k).data.toList by simp [encF, hT]] at hr
              rw [hT] at ct
              clear hT cx cn
              generalize S k = s at *
              go_upto_region 17 with (fail)
              go_region_held3 (fun w' => w'.cell? ⟨b, off + k * 4 + 3, none⟩ = some (.string s)) (first | exact cs | exact e1)
                (first | (go_at_call 15; ((with_reducible refine (takeField_text g s (encFrom (encF T X N S) j (j - (k + 1))) _ hs ?_).mono ?_); (exact hr); rintro e w3 ⟨rfl, hr3, ho3⟩; have bel3 : Below w.heap.size w w3 := Only.below (below_drewN 1 bel) ho3 hgw bel.size; have e1 : w3.cell? ⟨b, off + k * 4 + 3, none⟩ = some (.string s) := (bel3.cell (p := ⟨b, _, none⟩) hbl).trans CS.out)))
              clear e1 cs CS
              go_wp2
              go_roundw
              case rel => exact ⟨k + 1, by omega, by go_num, hr3, bel3⟩
              case measure => simp [intOf]; omega
          · obtain rfl : k = j := by omega
            rw [Nat.sub_self] at hr
            clear HSM hF
            go_wp2_with (go_at_call 22; ((with_reducible refine (end_any g [] true _ hr).mono ?_); rintro e w' ⟨rfl, rfl⟩))
            go_ret
            exact ⟨rfl, bel⟩
  · have hd2 : decide ((50 : Int) < (n : Int)) = true := by simp; omega
    go_enter Try.func5, Try.ntmps5
    go_upto_region 2 with (go_at_call 8; ((with_reducible refine (awake_any _).mono ?_); rintro e w1 ⟨rfl, hb1⟩))
    go_wp2_with (go_at_call 8; ((with_reducible refine (awake_any _).mono ?_); rintro e w2 ⟨rfl, hb2⟩))
    go_ret
    exact ⟨rfl, hb1.trans (hb2.mono hb1.size)⟩
end Go.Proofs.Ytngbcdmbkcjlfaa
