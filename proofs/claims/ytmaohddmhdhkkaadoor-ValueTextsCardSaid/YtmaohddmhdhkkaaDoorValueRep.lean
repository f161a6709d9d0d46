/- Contracts of strconv.FormatUint at base 16 and of strings.Repeat of one zero. Conditions: the number fits its kind; the library's table of places holds what it holds; at most 15 zeros. -/
import Derived.Test.YtmaohddmhdhkkaaDoorValueFmt
import Derived.Test.YtmaohddmhdhkkaaDoorShelf
namespace Go.Proofs.YtmaohddmhdhkkaaDoor
open Go.RowKit

/-- The digits, with no zero ahead of them. -/
def Digits (b : Nat) (w : World) (e : Ending) (w' : World) : Prop := ∃ S : ByteArray, e = .returned (.string S) ∧ 1 ≤ S.size ∧ S.size ≤ 16 ∧ Lib.repeatL [48] (16 - S.size) ++ S.data.toList = hexN 16 b ∧ Below w.heap.size w w'
theorem formatI_any (b : Nat) (w : World) (hb : b < 18446744073709551616) (hZ : TabZ w) : Calls Tryd.prog 66 #[.int .u64 b, .int .i64 16] w (Digits b w) := by
  have c := formatBits_any b w hb hZ
  go_enter Tryd.func66, Tryd.ntmps66
  go_wp2_with (go_at_call 84; ((with_reducible refine c.mono ?_); rintro e w' ⟨S, rfl, h1, h2, h3, h4⟩))
  go_ret
  exact ⟨S, rfl, h1, h2, h3, h4⟩
theorem formatU_any (b : Nat) (w : World) (hb : b < 18446744073709551616) (hZ : TabZ w) : Calls Tryd.prog 52 #[.int .u64 b, .int .i64 16] w (Digits b w) := by
  have c := formatI_any b w hb hZ
  go_enter Tryd.func52, Tryd.ntmps52
  go_wp2_with (go_at_call 66; ((with_reducible refine c.mono ?_); rintro e w' ⟨S, rfl, h1, h2, h3, h4⟩))
  go_ret
  exact ⟨S, rfl, h1, h2, h3, h4⟩

theorem zeros_cut (L : ByteArray) (hL : L = ⟨(List.replicate 64 48).toArray⟩) (c : Nat) (hc : c ≤ 15) : Ending.returned (.string (L.extract 0 c)) = .returned (.string ⟨(Lib.repeatL [48] c).toArray⟩) := by
  subst hL
  have h := (show ∀ e : Fin 16, (⟨(List.replicate 64 48).toArray⟩ : ByteArray).extract 0 e.val = ⟨(Lib.repeatL [48] e.val).toArray⟩ by decide +kernel) ⟨c, by omega⟩
  rw [show (⟨(List.replicate 64 48).toArray⟩ : ByteArray).extract 0 c = _ from h]

set_option maxHeartbeats 2000000 in
set_option maxRecDepth 1000000 in
theorem repeat_main (c : Nat) (w : World) (h2 : 2 ≤ c) (hc : c ≤ 15) : Calls Tryd.prog 53 #[.string ⟨#[48]⟩, .int .i64 c] w fun e w' => e = .returned (.string ⟨(Lib.repeatL [48] c).toArray⟩) ∧ w = w' := by
  have hM := Any.bits_Mul Tryd.lays212 1 c (by omega) (by omega) w
  rw [Nat.one_mul, Nat.div_eq_of_lt (by omega : c < 18446744073709551616), Nat.mod_eq_of_lt (by omega : c < 18446744073709551616)] at hM
  have hM' : Calls Tryd.prog 67 #[.int .u64 1, .int .u64 c] w fun e w' => e = .returned (.tuple #[.int .u64 0, .int .u64 c]) ∧ w' = w := hM
  have hP := fun s p W => Any.strings_HasPrefix Tryd.lays99 s p W
  have hP' : ∀ s p W, Calls Tryd.prog 68 #[.string s, .string p] W fun e w' => e = .returned (.bool (Lib.hasPrefix s.data.toList p.data.toList)) ∧ w' = W := hP
  clear hM hP
  go_enter Tryd.func53, Tryd.ntmps53
  go_wp2_with (first | (go_at_call 67; ((with_reducible refine hM'.mono ?_); rintro e w' ⟨rfl, hw⟩; rw [hw])) | (go_at_call 68; ((with_reducible refine (hP' _ _ _).mono ?_); rintro e w' ⟨rfl, hw⟩; rw [hw])))
  go_ret
  exact ⟨zeros_cut _ (by rfl) c hc, rfl⟩

set_option maxHeartbeats 1000000 in
set_option maxRecDepth 1000000 in
/-- Zeros, as many as are asked for. -/
theorem repeat_any (c : Nat) (w : World) (hc : c ≤ 15) : Calls Tryd.prog 53 #[.string ⟨#[48]⟩, .int .i64 c] w fun e w' => e = .returned (.string ⟨(Lib.repeatL [48] c).toArray⟩) ∧ w = w' := by
  match c, hc with
  | 0, _ =>
    show Calls Tryd.prog 53 #[.string ⟨#[48]⟩, .int .i64 0] w fun e w' => e = .returned (.string ⟨#[]⟩) ∧ w = w'
    go_enter Tryd.func53, Tryd.ntmps53
    go_wp2
    go_ret
    exact ⟨rfl, rfl⟩
  | 1, _ =>
    show Calls Tryd.prog 53 #[.string ⟨#[48]⟩, .int .i64 1] w fun e w' => e = .returned (.string ⟨#[48]⟩) ∧ w = w'
    go_enter Tryd.func53, Tryd.ntmps53
    go_wp2
    go_ret
    exact ⟨rfl, rfl⟩
  | k + 2, h => exact repeat_main (k + 2) w (by omega) h
end Go.Proofs.YtmaohddmhdhkkaaDoor
