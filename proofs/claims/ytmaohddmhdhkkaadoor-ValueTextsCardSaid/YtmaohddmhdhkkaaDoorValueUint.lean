/- Contract of strconv.ParseUint at base 16 and 64 bits. Conditions: the text has at most 2^48 bytes; the library's two errors lie in their places. -/
import Derived.Test.YtmaohddmhdhkkaaDoorValueHex
import Derived.Test.YtmaohddmhdhkkaaDoorCodeReader
import Derived.Test.YtmaohddmhdhkkaaDoorShelf
import Derived.Lib.Strings
import Derived.Lib.Walk
import Derived.Lib.ConvBytes
import Derived.Lib.Hide
import Derived.Laws.Strings3
import Derived.Laws.Closers25
import Derived.Laws.Closers25b
import Derived.Lib.AtoiErrMem
namespace Go.Proofs.YtmaohddmhdhkkaaDoor
open Go.RowKit Go.Shelf

/-- What the library answers then. -/
def numTuple : NEnd → Value
  | .good n => .tuple #[.int .u64 (n : Nat), .nilIface]
  | .bad => .tuple #[.int .u64 0, .iface 110 (.int .i64 2)]
  | .over => .tuple #[.int .u64 18446744073709551615, .iface 110 (.int .i64 1)]
theorem lower_any (c : Int) (w : World) : Calls Tryd.prog 90 #[.int .u8 c] w fun e w' => e = .returned (.int .u8 (bits .or .u8 c 32)) ∧ w' = w := Any.internal_strconv_lower Tryd.lays321 c w

set_option maxHeartbeats 32000000 in
set_option maxRecDepth 100000 in
theorem parseI_some (t : ByteArray) (hne : t.size ≠ 0) (hmax : t.size ≤ 9223372036854775806) (w : World) :
    Calls Tryd.prog 79 #[.string t, .int .i64 16, .int .i64 64] w fun e w' => e = .returned (numTuple (px 0 t.data.toList)) ∧ w' = Lib.bytesWorld w 5 t := by
  have hemp : t.toList.isEmpty = false := by
    rw [← decide_eq_emptyBytes]
    exact decide_eq_false (fun h => hne (by rw [h]; rfl))
  have hcv := Lib.run_convert_string_bytes (P := Tryd.prog) w 9 30 5 t (u := .string) Tryd.underlying9 Tryd.underlying30 Tryd.underlying5
  have hB : ∀ j, j < t.size → (Lib.bytesWorld w 5 t).cell? ⟨w.heap.size, j, none⟩ = some (.int .u8 (t.data.toList.getD j 0).toNat) := fun j hj => Lib.bytesWorld_cell w 5 t j hj
  obtain ⟨W1, hW1⟩ : ∃ W1, W1 = Lib.bytesWorld w 5 t := ⟨_, rfl⟩
  rw [← hW1] at hcv hB ⊢
  clear hW1
  obtain ⟨bs, hL⟩ : ∃ bs, bs = t.data.toList := ⟨_, rfl⟩
  have hLn : bs.length = t.size := by rw [hL, Lib.size_eq]
  rw [← hL] at hB ⊢
  clear hL
  have hmv : IntKind.u64.wrap (IntKind.u64.wrap 18446744073709551616 - 1) = 18446744073709551615 := by
    rw [IntKind.wrap_u64, IntKind.wrap_u64]
    decide
  go_enter Tryd.func79, Tryd.ntmps79
  go_wp2
  go_loop [12, 13, 101] (fun vu vn vi => ∃ (k acc : Nat) (a : Int), vu = .bool false ∧ vn = .int .u64 a ∧ vi = .int .i64 k ∧ k ≤ t.size ∧ Hid (a = (acc : Int) ∧ acc < 18446744073709551616 ∧ px 0 bs = px acc (bs.drop k)))
    (fun _ _ vi => t.size - (intOf vi).toNat)
  case atStart => exact ⟨0, 0, 0, rfl, rfl, rfl, by omega, rfl, by omega, rfl⟩
  case round =>
    obtain ⟨k, acc, a, rfl, rfl, rfl, hk, hh⟩ := hrel
    obtain ⟨ha, hacc, hdec⟩ := hh.out
    clear hh
    have a0 : 0 ≤ a := by omega
    have a1 : a < 18446744073709551616 := by omega
    by_cases hkn : k < t.size
    · have hc := hB k hkn
      have hdrop : bs.drop k = bs[k]'(by omega) :: bs.drop (k + 1) := List.drop_eq_getElem_cons (by omega)
      have hget : bs.getD k 0 = bs[k]'(by omega) := by simp [List.getD, List.getElem?_eq_getElem (show k < bs.length by omega)]
      rw [hdrop] at hdec
      rw [hget] at hc
      generalize bs[k]'(by omega) = c at hc hdec
      have hc256 : c.toNat < 256 := c.toNat_lt
      clear hB hdrop hget
      by_cases hdig : 48 ≤ c.toNat ∧ c.toNat ≤ 57
      · obtain ⟨hd0, hd1⟩ := hdig
        have hp : pdig c.toNat = c.toNat - 48 := by unfold pdig; rw [if_pos ⟨hd0, hd1⟩]
        by_cases hcut : 1152921504606846976 ≤ acc
        · have hF : px acc (c :: bs.drop (k + 1)) = .over := by rw [px, hp, if_neg (by omega), if_pos hcut]
          rw [hF] at hdec
          have icut : 1152921504606846976 ≤ a := by omega
          clear hcut hacc hF ha hp
          go_wp2
          go_ret2
          exact ⟨rfl, rfl⟩
        · have hF : px acc (c :: bs.drop (k + 1)) = px (acc * 16 + (c.toNat - 48)) (bs.drop (k + 1)) := by rw [px, hp, if_neg (by omega), if_neg hcut]
          have HN : Hid (a * 16 + ((c.toNat : Int) - 48) = ((acc * 16 + (c.toNat - 48) : Nat) : Int) ∧ acc * 16 + (c.toNat - 48) < 18446744073709551616 ∧ px 0 bs = px (acc * 16 + (c.toNat - 48)) (bs.drop (k + 1))) := Lib.hid ⟨by omega, by omega, hdec.trans hF⟩
          have icut : a < 1152921504606846976 := by omega
          have iov : a * 16 + ((c.toNat : Int) - 48) < 18446744073709551616 := by omega
          clear hcut hacc hF hdec ha hp
          go_wp2
          refine ⟨⟨k + 1, acc * 16 + (c.toNat - 48), a * 16 + ((c.toNat : Int) - 48), rfl, (by first | rfl | (congr 1; omega)), (by first | rfl | (congr 1; omega)), by omega, HN⟩, by simp [intOf]; omega⟩
      · by_cases h95 : c.toNat = 95
        · have hp : pdig c.toNat = 99 := by rw [h95]; decide
          have hF : px acc (c :: bs.drop (k + 1)) = .bad := by rw [px, hp, if_pos (by omega)]
          rw [hF] at hdec
          rw [h95] at hc
          have hcl := fun W => lower_any 95 W
          rw [show bits .or .u8 95 32 = 127 by decide] at hcl
          clear hacc hF ha hp h95 hdig hc256
          go_wp2_with (go_at_call 90; ((with_reducible refine (hcl _).mono ?_); rintro e w' ⟨rfl, rfl⟩))
          all_goals go_ret2
          all_goals first | exact ⟨rfl, rfl⟩ | exact ⟨by rw [hdec]; rfl, rfl⟩
        · have q95 : ((c.toNat : Int) == 95) = false := by simp; omega
          have hv0 := bits_lo_u8 .or (c.toNat : Int) 32
          have hv1 := bits_hi_u8 .or (c.toNat : Int) 32
          have hpv : pdig c.toNat = if 97 ≤ lowC c.toNat ∧ lowC c.toNat ≤ 122 then (lowC c.toNat - 87).toNat else 99 := by unfold pdig; rw [if_neg hdig]
          have hcl := fun W => lower_any (c.toNat : Int) W
          unfold lowC at hpv
          generalize bits .or .u8 (c.toNat : Int) 32 = v at *
          by_cases hA : 97 ≤ v ∧ v ≤ 122
          · rw [if_pos hA] at hpv
            obtain ⟨hA1, hA2⟩ := hA
            by_cases h16 : 103 ≤ v
            · have hF : px acc (c :: bs.drop (k + 1)) = .bad := by rw [px, hpv, if_pos (by omega)]
              rw [hF] at hdec
              clear hacc hF ha hpv h95
              go_wp2_with (go_at_call 90; ((with_reducible refine (hcl _).mono ?_); rintro e w' ⟨rfl, rfl⟩))
              all_goals go_ret2
              all_goals first | exact ⟨rfl, rfl⟩ | exact ⟨by rw [hdec]; rfl, rfl⟩
            · by_cases hcut : 1152921504606846976 ≤ acc
              · have hF : px acc (c :: bs.drop (k + 1)) = .over := by rw [px, hpv, if_neg (by omega), if_pos hcut]
                rw [hF] at hdec
                have icut : 1152921504606846976 ≤ a := by omega
                clear hcut hacc hF ha hpv h95
                go_wp2_with (go_at_call 90; ((with_reducible refine (hcl _).mono ?_); rintro e w' ⟨rfl, rfl⟩))
                all_goals go_ret2
                all_goals first | exact ⟨rfl, rfl⟩ | exact ⟨by rw [hdec]; rfl, rfl⟩
              · have hF : px acc (c :: bs.drop (k + 1)) = px (acc * 16 + (v - 87).toNat) (bs.drop (k + 1)) := by rw [px, hpv, if_neg (by omega), if_neg hcut]
                have HN : Hid (a * 16 + (v - 97 + 10) = ((acc * 16 + (v - 87).toNat : Nat) : Int) ∧ acc * 16 + (v - 87).toNat < 18446744073709551616 ∧ px 0 bs = px (acc * 16 + (v - 87).toNat) (bs.drop (k + 1))) := Lib.hid ⟨by omega, by omega, hdec.trans hF⟩
                have icut : a < 1152921504606846976 := by omega
                have iov : a * 16 + (v - 97 + 10) < 18446744073709551616 := by omega
                clear hcut hacc hF hdec ha hpv h95
                go_wp2_with (go_at_call 90; ((with_reducible refine (hcl _).mono ?_); rintro e w' ⟨rfl, rfl⟩))
                all_goals refine ⟨⟨k + 1, acc * 16 + (v - 87).toNat, a * 16 + (v - 97 + 10), rfl, (by first | rfl | (congr 1; omega)), (by first | rfl | (congr 1; omega)), by omega, HN⟩, by simp [intOf]; omega⟩
          · rw [if_neg hA] at hpv
            have hF : px acc (c :: bs.drop (k + 1)) = .bad := by rw [px, hpv, if_pos (by omega)]
            rw [hF] at hdec
            clear hacc hF ha hpv h95
            go_wp2_with (go_at_call 90; ((with_reducible refine (hcl _).mono ?_); rintro e w' ⟨rfl, rfl⟩))
            all_goals go_ret2
            all_goals first | exact ⟨rfl, rfl⟩ | exact ⟨by rw [hdec]; rfl, rfl⟩
    · have hkk : k = t.size := by omega
      subst hkk
      have hF : px acc (bs.drop t.size) = .good acc := by rw [List.drop_eq_nil_of_le (by omega)]; rfl
      rw [hF] at hdec
      subst ha
      clear hacc hF a0 a1
      go_wp2
      go_ret2
      exact ⟨rfl, rfl⟩
/-- The library's two errors lie in their places. -/
def Errs (w : World) : Prop := (∃ t p, w.cell? ⟨5, 0, none⟩ = some (.iface t p)) ∧ (∃ t p, w.cell? ⟨6, 0, none⟩ = some (.iface t p))
theorem toErr_syntax (s : ByteArray) (w : World) (hl : s.size ≤ 281474976710656) (hE : Errs w) :
    Calls Tryd.prog 80 #[.string ⟨#[80, 97, 114, 115, 101, 85, 105, 110, 116]⟩, .string s, .int .i64 16, .int .i64 64, .iface 110 (.int .i64 2)] w fun e w' => ∃ x, e = .returned x ∧ Below w.heap.size w w' := by
  obtain ⟨t, p, h⟩ := hE.1
  exact (Any.strconv_toError_syntax Tryd.lays245 ⟨#[80, 97, 114, 115, 101, 85, 105, 110, 116]⟩ s 16 64 (.iface t p) w hl h (.inr ⟨t, p, rfl⟩)).mono fun e w' ⟨N, h1, _, _, h4⟩ => ⟨_, h1, h4⟩
theorem toErr_range (s : ByteArray) (w : World) (hl : s.size ≤ 281474976710656) (hE : Errs w) :
    Calls Tryd.prog 80 #[.string ⟨#[80, 97, 114, 115, 101, 85, 105, 110, 116]⟩, .string s, .int .i64 16, .int .i64 64, .iface 110 (.int .i64 1)] w fun e w' => ∃ x, e = .returned x ∧ Below w.heap.size w w' := by
  obtain ⟨t, p, h⟩ := hE.2
  exact (Any.strconv_toError_range Tryd.lays245 ⟨#[80, 97, 114, 115, 101, 85, 105, 110, 116]⟩ s 16 64 (.iface t p) w hl h (.inr ⟨t, p, rfl⟩)).mono fun e w' ⟨N, h1, _, _, h4⟩ => ⟨_, h1, h4⟩
theorem cell_on {w w' : World} {B i : Nat} {v : Value} (h : w.cell? ⟨B, i, none⟩ = some v) (hb : Below w.heap.size w w') : w'.cell? ⟨B, i, none⟩ = some v :=
  (hb.cell (p := ⟨B, i, none⟩) (Lib.lt_of_cell h)).trans h
theorem Errs.below {w w' : World} (h : Errs w) (hb : Below w.heap.size w w') : Errs w' := by
  obtain ⟨⟨t, p, h1⟩, ⟨t', p', h2⟩⟩ := h
  exact ⟨⟨t, p, cell_on h1 hb⟩, ⟨t', p', cell_on h2 hb⟩⟩

set_option maxHeartbeats 1000000 in
set_option maxRecDepth 100000 in
theorem parseI_none (w : World) : Calls Tryd.prog 79 #[.string ⟨#[]⟩, .int .i64 16, .int .i64 64] w fun e w' => e = .returned (.tuple #[.int .u64 0, .iface 110 (.int .i64 2)]) ∧ w' = w := by
  go_enter Tryd.func79, Tryd.ntmps79
  go_wp2
  go_ret2
  exact ⟨rfl, rfl⟩

set_option maxHeartbeats 1000000 in
theorem parseU_of (r : NEnd) (s : ByteArray) (w : World) (hl : s.size ≤ 281474976710656) (hE : Errs w)
    (hI : Calls Tryd.prog 79 #[.string s, .int .i64 16, .int .i64 64] w fun e w' => e = .returned (numTuple r) ∧ Below w.heap.size w w') :
    Calls Tryd.prog 65 #[.string s, .int .i64 16, .int .i64 64] w fun e w' => ∃ x, e = .returned (.tuple #[.int .u64 (pxN r : Nat), x]) ∧ Below w.heap.size w w' := by
  have HE : Hid (∀ W, Below w.heap.size w W → Errs W) := fun W hb => hE.below hb
  clear hE
  cases r with
  | good n =>
    show Calls Tryd.prog 65 _ w fun e w' => ∃ x, e = .returned (.tuple #[.int .u64 (n : Nat), x]) ∧ Below w.heap.size w w'
    have hI' : Calls Tryd.prog 79 #[.string s, .int .i64 16, .int .i64 64] w fun e w' => e = .returned (.tuple #[.int .u64 (n : Nat), .nilIface]) ∧ Below w.heap.size w w' := hI
    clear hI
    go_enter Tryd.func65, Tryd.ntmps65
    go_wp2_with (go_at_call 79; ((with_reducible refine hI'.mono ?_); rintro e w1 ⟨rfl, hb1⟩))
    go_ret2
    exact ⟨_, rfl, hb1⟩
  | bad =>
    show Calls Tryd.prog 65 _ w fun e w' => ∃ x, e = .returned (.tuple #[.int .u64 0, x]) ∧ Below w.heap.size w w'
    have hI' : Calls Tryd.prog 79 #[.string s, .int .i64 16, .int .i64 64] w fun e w' => e = .returned (.tuple #[.int .u64 0, .iface 110 (.int .i64 2)]) ∧ Below w.heap.size w w' := hI
    clear hI
    go_enter Tryd.func65, Tryd.ntmps65
    go_wp2_with (first | (go_at_call 79; ((with_reducible refine hI'.mono ?_); rintro e w1 ⟨rfl, hb1⟩)) | (go_at_call 80; ((with_reducible refine (toErr_syntax s _ hl (HE.out _ hb1)).mono ?_); rintro e w2 ⟨x, rfl, hb2⟩)))
    go_ret2
    exact ⟨_, rfl, hb1.trans (hb2.mono hb1.size)⟩
  | over =>
    show Calls Tryd.prog 65 _ w fun e w' => ∃ x, e = .returned (.tuple #[.int .u64 18446744073709551615, x]) ∧ Below w.heap.size w w'
    have hI' : Calls Tryd.prog 79 #[.string s, .int .i64 16, .int .i64 64] w fun e w' => e = .returned (.tuple #[.int .u64 18446744073709551615, .iface 110 (.int .i64 1)]) ∧ Below w.heap.size w w' := hI
    clear hI
    go_enter Tryd.func65, Tryd.ntmps65
    go_wp2_with (first | (go_at_call 79; ((with_reducible refine hI'.mono ?_); rintro e w1 ⟨rfl, hb1⟩)) | (go_at_call 80; ((with_reducible refine (toErr_range s _ hl (HE.out _ hb1)).mono ?_); rintro e w2 ⟨x, rfl, hb2⟩)))
    go_ret2
    exact ⟨_, rfl, hb1.trans (hb2.mono hb1.size)⟩

/-- What the program reads of digits: a number, whatever stands there. -/
theorem parseU_any (s : ByteArray) (w : World) (hl : s.size ≤ 281474976710656) (hE : Errs w) :
    Calls Tryd.prog 65 #[.string s, .int .i64 16, .int .i64 64] w fun e w' => ∃ x, e = .returned (.tuple #[.int .u64 (pbits s.data.toList : Nat), x]) ∧ Below w.heap.size w w' := by
  by_cases h0 : s.size = 0
  · have hs : s = ⟨#[]⟩ := by
      apply ByteArray.ext
      exact Array.eq_empty_of_size_eq_zero h0
    subst hs
    exact parseU_of .bad ⟨#[]⟩ w hl hE ((parseI_none w).mono fun e w' ⟨h1, h2⟩ => ⟨h1, h2 ▸ Below.refl _ _⟩)
  · have hne : s.data.toList ≠ [] := fun e => h0 (by rw [Lib.size_eq, e]; rfl)
    have hp : pbits s.data.toList = pxN (px 0 s.data.toList) := by unfold pbits; rw [if_neg hne]
    rw [hp]
    exact parseU_of _ s w hl hE ((parseI_some s h0 (by omega) w).mono fun e w' ⟨h1, h2⟩ => ⟨h1, h2 ▸ Lib.bytesWorld_below _ _ _⟩)
end Go.Proofs.YtmaohddmhdhkkaaDoor
