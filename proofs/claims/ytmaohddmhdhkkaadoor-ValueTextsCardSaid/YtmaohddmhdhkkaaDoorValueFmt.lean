/- Contract of strconv.FormatUint at base 16. Conditions: the number fits its kind; the library's table of places holds what it holds. -/
import Derived.Test.YtmaohddmhdhkkaaDoorValueHex
import Derived.Test.YtmaohddmhdhkkaaDoorCodeReader
import Derived.Laws.Bits64b
import Derived.Lib.AtoiErrMem
namespace Go.Proofs.YtmaohddmhdhkkaaDoor
open Go.RowKit

/-- The one place of the library's table that the base 16 asks for. -/
def TabZ (w : World) : Prop := w.cell? ⟨8, 15, none⟩ = some (.int .u8 4)
theorem pow2_16 (w : World) : Calls Tryd.prog 99 #[.int .i64 16] w fun e w' => e = .returned (.bool true) ∧ w = w' := by
  have h : bits .and .i64 16 15 = 0 := by decide
  go_enter Tryd.func99, Tryd.ntmps99
  go_wp2
  go_ret
  exact ⟨rfl, rfl⟩
theorem tz_16 (w : World) (h : TabZ w) : Calls Tryd.prog 107 #[.int .u64 16] w fun e w' => e = .returned (.int .i64 4) ∧ w = w' := by
  unfold TabZ at h
  have k0 : IntKind.u64.wrap (-16) = 18446744073709551600 := by rw [IntKind.wrap_u64]; decide
  have k1 : bits .and .u64 16 18446744073709551600 = 16 := by decide
  have k2 : IntKind.u64.wrap (16 * 285870213051353865) = 4573923408821661840 := by rw [IntKind.wrap_u64]; decide
  go_enter Tryd.func107, Tryd.ntmps107
  go_wp2_with (simp only [k0, k1, k2])
  go_ret
  exact ⟨rfl, rfl⟩
theorem tzeros_16 (w : World) (h : TabZ w) : Calls Tryd.prog 100 #[.int .u64 16] w fun e w' => e = .returned (.int .i64 4) ∧ w = w' := by
  go_enter Tryd.func100, Tryd.ntmps100
  go_wp2_with (go_at_call 107; ((with_reducible refine (tz_16 _ h).mono ?_); rintro e w' ⟨rfl, rfl⟩))
  go_ret
  exact ⟨rfl, rfl⟩

/-- The row of digits, from a place on. -/
def DigAt (w : World) (g i : Nat) (s : List UInt8) : Prop := ∃ C : Array Value, w.heap[g]? = some (.cells C 118 (0, 0)) ∧ C.size = 65 ∧ C.toList.drop i = bcells s
theorem DigAt.step {w : World} {g i : Nat} {s : List UInt8} (h : DigAt w g (i + 1) s) (hi : i < 65) (c : UInt8) : DigAt (w.setCell ⟨g, i, none⟩ (.int .u8 (c.toNat : Int))) g i (c :: s) := by
  obtain ⟨C, h1, h2, h3⟩ := h
  refine ⟨_, set_row h1 i _, by simp [h2], ?_⟩
  rw [Array.toList_setIfInBounds, List.drop_eq_getElem_cons (by simp [h2]; omega), List.getElem_set_self, List.drop_set_of_lt (by omega), h3]
  rfl
theorem DigAt.at_ {w : World} {g i : Nat} {s : List UInt8} (h : DigAt w g i s) (hi : i ≤ 65) : BAt w (g + 1) (some ⟨g, i, none⟩) (65 - i) s := by
  obtain ⟨C, h1, h2, h3⟩ := h
  have hl : s.length = 65 - i := by
    have := congrArg List.length h3
    rw [List.length_drop, Array.length_toList, h2, bcells_len] at this
    exact this.symm
  refine ⟨hl, .inr ⟨g, i, rfl, by omega, fun j hj => ?_⟩⟩
  rw [cell_of_row _ _ _ _ _ _ h1]
  have h4 : C.toList[i + j]? = (bcells s)[j]? := by rw [← h3, List.getElem?_drop]
  rw [Array.getElem?_toList] at h4
  rw [h4]
  simp [bcells, hj]

theorem and_15 (y : Nat) (h : y < 18446744073709551616) : bits .and .u64 (y : Int) 15 = ((y % 16 : Nat) : Int) := by
  have h1 := bits_and_u64_nat y 15 h (by omega)
  rw [show ((15 : Nat) : Int) = 15 from rfl] at h1
  rw [h1]
  congr 1
  exact Nat.and_two_pow_sub_one_eq_mod y 4
theorem digit_at (d : Nat) (h : d < 16) (h' : d < (⟨#[48, 49, 50, 51, 52, 53, 54, 55, 56, 57, 97, 98, 99, 100, 101, 102, 103, 104, 105, 106, 107, 108, 109, 110, 111, 112, 113, 114, 115, 116, 117, 118, 119, 120, 121, 122]⟩ : ByteArray).size) :
    (⟨#[48, 49, 50, 51, 52, 53, 54, 55, 56, 57, 97, 98, 99, 100, 101, 102, 103, 104, 105, 106, 107, 108, 109, 110, 111, 112, 113, 114, 115, 116, 117, 118, 119, 120, 121, 122]⟩ : ByteArray)[d].toNat = (hexC d).toNat := by
  have h1 := (show ∀ e : Fin 16, ((#[48, 49, 50, 51, 52, 53, 54, 55, 56, 57, 97, 98, 99, 100, 101, 102, 103, 104, 105, 106, 107, 108, 109, 110, 111, 112, 113, 114, 115, 116, 117, 118, 119, 120, 121, 122] : Array UInt8)[e.val]?.getD 0).toNat = (hexC e.val).toNat by decide +kernel) ⟨d, h⟩
  have h2 : d < (#[48, 49, 50, 51, 52, 53, 54, 55, 56, 57, 97, 98, 99, 100, 101, 102, 103, 104, 105, 106, 107, 108, 109, 110, 111, 112, 113, 114, 115, 116, 117, 118, 119, 120, 121, 122] : Array UInt8).size := h'
  rw [Array.getElem?_eq_getElem h2] at h1
  exact h1
theorem DigAt.cell {w : World} {g i k : Nat} {s : List UInt8} (h : DigAt w g i s) (hk : k < 65) : ∃ v, w.cell? ⟨g, k, none⟩ = some v ∧ w.frozen? ⟨g, k, none⟩ = false := by
  obtain ⟨C, h1, h2, h3⟩ := h
  exact ⟨C[k], by rw [cell_of_row _ _ _ _ _ _ h1]; simp, by simp [World.frozen?, h1]⟩

/-- A row of 65 bytes cut from a place on. -/
theorem slice_65 (G k : Nat) (hk : k < 65) (W : World) : (Instr.sliceAt 118 (.pointer (some ⟨G, 0, none⟩)) (some (.int .i64 (k : Int))) none none).run Tryd.prog W = .ok (.slice (some ⟨G, k, none⟩) (65 - k) (65 - k)) W := by
  have hal : Tryd.prog.arrayLen 118 = 65 := by simp [Program.arrayLen, Tryd.underlying118]
  have hcs : Tryd.prog.cellsOf 5 = 1 := by kernel_rfl
  rw [run_sliceAt_array_l W 118 ⟨G, 0, none⟩ (by simp [Program.arrayLen, Program.elem, Tryd.underlying118]) .i64 (k : Int) (by omega) (by rw [hal]; omega)]
  have hne : 65 ≠ k := by omega
  simp [hal, Program.elem, Tryd.underlying118, Tryd.sizeOf5, slicedAt, add_plain, hne]

set_option maxHeartbeats 2000000 in
set_option maxRecDepth 100000 in
theorem formatBits_any (b : Nat) (w : World) (hb : b < 18446744073709551616) (hZ : TabZ w) :
    Calls Tryd.prog 84 #[.slice none 0 0, .int .u64 b, .int .i64 16, .bool false, .bool false] w fun e w' => ∃ S : ByteArray, e = .returned (.tuple #[.slice none 0 0, .string S]) ∧ 1 ≤ S.size ∧ S.size ≤ 16 ∧ Lib.repeatL [48] (16 - S.size) ++ S.data.toList = hexN 16 b ∧ Below w.heap.size w w' := by
  have HZ : Hid (∀ o, TabZ (w.alloc o)) := fun o => by
    have h : w.cell? ⟨8, 15, none⟩ = some (.int .u8 4) := hZ
    show (w.alloc o).cell? ⟨8, 15, none⟩ = _
    rw [World.cell?_alloc_lt w o _ (Lib.lt_of_cell h)]
    exact h
  have hs0 : Tryd.zeroCells118.size = 65 := by decide
  have D0 : Hid (DigAt (w.alloc (.cells Tryd.zeroCells118 118)) w.heap.size 65 []) := ⟨_, heap_alloc_new _ _, hs0, by rw [List.drop_eq_nil_of_le (by simp [hs0])]; rfl⟩
  have B0 : Hid (Below w.heap.size w (w.alloc (.cells Tryd.zeroCells118 118))) := (Below.refl _ _).alloc (Nat.le_refl _) _
  clear hZ hs0
  go_enter Tryd.func84, Tryd.ntmps84
  go_upto_region 11 with (first | (go_at_call 99; ((with_reducible refine (pow2_16 _).mono ?_); rintro e w' ⟨rfl, rfl⟩)) | (go_at_call 100; ((with_reducible refine (tzeros_16 _ (HZ.out _)).mono ?_); rintro e w' ⟨rfl, rfl⟩)))
  generalize w.alloc (.cells Tryd.zeroCells118 118) = W0 at *
  generalize hG : w.heap.size = G at *
  go_loopw [1, 13] (fun u i wr => ∃ (k j y : Nat) (s : List UInt8), k + j = 65 ∧ j ≤ 15 ∧ i = .int .i64 k ∧ u = .int .u64 y ∧ y < 18446744073709551616 ∧ Hid (Ends b y j s) ∧ Hid (DigAt wr G k s) ∧ Hid (Below G w wr)) (fun u _ _ => (intOf u).toNat)
  case atStart => exact ⟨65, 0, b, [], rfl, by omega, rfl, rfl, hb, ends_nil b, D0, B0⟩
  case round =>
    obtain ⟨k, j, y, s, hkj, hj, rfl, rfl, hy, hE, hD, hB⟩ := hrel
    obtain ⟨k, rfl⟩ : ∃ k', k = k' + 1 := ⟨k - 1, by omega⟩
    obtain ⟨v, hc, hf⟩ := hD.out.cell (k := k) (by omega)
    by_cases h16 : 16 ≤ y
    · have ha := and_15 y hy
      have hd := Nat.mod_lt y (show 0 < 16 by omega)
      have S1 := Lib.hid (ends_step hE.out)
      have hj2 : j + 1 < 16 := ends_lt S1.out hb (by omega)
      generalize y % 16 = d at *
      have hdg := digit_at d hd
      go_wp2
      go_roundw
      case rel => exact ⟨k, j + 1, y / 16, hexC d :: s, by omega, by omega, rfl, by go_num, by omega, S1, hD.out.step (by omega) _, hB.out.setCell (Nat.le_refl _) _⟩
      case measure => simp [intOf]; omega
    · have hy16 : y < 16 := by omega
      have hdg := digit_at y hy16
      have HA := Lib.hid (ends_all hE.out hy16 (by omega))
      have HL : Hid (s.length = j) := hE.out.1
      have HD := Lib.hid (hD.out.step (i := k) (by omega) (hexC y))
      have hcv := fun W c (h : DigAt W G k (hexC y :: s)) => run_convert_bytes (P := Tryd.prog) W 30 5 9 Tryd.underlying30 Tryd.underlying5 Tryd.underlying9 (G + 1) (some ⟨G, k, none⟩) (65 - k) (hexC y :: s) c (h.at_ (by omega))
      have hcv2 := hcv _ (65 - k) HD.out
      clear hcv
      have hsl := slice_65 G k (by omega)
      go_wp2
      go_ret2
      have e1 : (⟨(hexC y :: s).toArray⟩ : ByteArray).size = j + 1 := by
        show (hexC y :: s).toArray.size = _
        rw [List.size_toArray, List.length_cons, HL.out]
      refine ⟨_, rfl, by omega, by omega, by rw [e1]; exact HA.out, hB.out.setCell (Nat.le_refl _) _⟩
end Go.Proofs.YtmaohddmhdhkkaaDoor
