/- Contracts of a code.Reader's methods Take and TakeText. Conditions: the reader lies in memory as New lays it. -/
import Derived.Test.YtcmboanepllgjaaCodeReader

namespace Go.Proofs.Ytcmboanepllgjaa

open Go.RowKit

theorem or_step (x c : Nat) (hx : x < 72057594037927936) (hc : c < 256) : bits .or .u64 (IntKind.u64.wrap ((x : Int) * 256)) (IntKind.u64.wrap (c : Int)) = ((x * 256 + c : Nat) : Int) := by
  have h1 : IntKind.u64.wrap ((x : Int) * 256) = ((x * 256 : Nat) : Int) := by rw [IntKind.wrap_u64]; omega
  have h2 : IntKind.u64.wrap (c : Int) = (c : Int) := by rw [IntKind.wrap_u64]; omega
  rw [h1, h2, u64_or_nat _ _ (by omega) (by omega), nat_join 8 _ _ (by omega) (by omega)]
theorem num_step (l : List UInt8) (k q : Nat) (hq : q < k) (hk : k ≤ l.length) (h8 : k ≤ 8) :
    bits .or .u64 (IntKind.u64.wrap ((numB ((l.take k).take q) : Int) * 256)) (IntKind.u64.wrap ((l[q]'(by omega)).toNat : Int)) = ((numB ((l.take k).take (q + 1)) : Nat) : Int) := by
  have h1 : (l.take k).take (q + 1) = (l.take k).take q ++ [l[q]'(by omega)] := by
    rw [take_snoc _ _ (by simp; omega)]; simp
  have h2 := numB_lt ((l.take k).take q)
  have h3 : ((l.take k).take q).length ≤ 7 := by simp; omega
  have h4 : 256 ^ ((l.take k).take q).length ≤ 256 ^ 7 := Nat.pow_le_pow_right (by omega) h3
  rw [h1, numB_snoc]
  exact or_step _ _ (by omega) (UInt8.toNat_lt _)

set_option maxHeartbeats 1000000 in
theorem take_yes (g : Nat) (l : List UInt8) (k : Nat) (w : World) (h : RdAt w g l true) (hk : k ≤ l.length) (h8 : k ≤ 8) :
    Calls Try.prog 28 #[.pointer (some ⟨g, 0, none⟩), .int .i64 k] w fun e w' => e = .returned (.int .u64 (numB (l.take k) : Nat)) ∧ RdAt w' g (l.drop k) true ∧ Only g w w' := by
  have hd : decide (8 < k) = false := by simp; omega
  go_enter Try.func28, Try.ntmps28
  go_wp2_with (go_at_call 34; ((with_reducible refine (next_yes g l k _ h hk).mono ?_); rintro e w1 ⟨a, n, c, rfl, hb, hr, ho⟩))
  have hlen := hb.len
  have hnk : n = k := by rw [← hlen]; simp; omega
  subst hnk
  clear hlen
  go_loop [5, 16] (fun x i => ∃ q : Nat, q ≤ n ∧ i = .int .i64 q ∧ x = .int .u64 (numB ((l.take n).take q) : Nat)) (fun _ i => n - (intOf i).toNat)
  case atStart => exact ⟨0, by omega, rfl, rfl⟩
  case round =>
    obtain ⟨q, hq, rfl, rfl⟩ := hrel
    by_cases hlt : q < n
    · obtain ⟨b, off, rfl, hbg, hc⟩ := hb.at_ (i := q) (by simp; omega)
      have HS := Lib.hid (num_step l n q hlt hk h8)
      go_wp2
      go_round
      case rel => exact ⟨q + 1, by omega, by go_num, by rw [← HS.out]⟩
      case measure => simp [intOf]; omega
    · have HE : Hid ((l.take n).take q = l.take n) := List.take_of_length_le (by simp; omega)
      go_wp2
      go_ret
      exact ⟨by rw [HE.out]; rfl, hr, ho⟩

theorem take_no (g : Nat) (l : List UInt8) (ok : Bool) (n : Int) (w : World) (h : RdAt w g l ok) (hn : ok = false ∨ n < 0 ∨ 8 < n ∨ (l.length : Int) < n) :
    Calls Try.prog 28 #[.pointer (some ⟨g, 0, none⟩), .int .i64 n] w fun e w' => e = .returned (.int .u64 0) ∧ RdAt w' g [] false ∧ Only g w w' := by
  by_cases h8 : 8 < n
  · go_enter Try.func28, Try.ntmps28
    go_wp2_with (go_at_call 33; ((with_reducible refine (fail_any g l ok _ h).mono ?_); rintro e w1 ⟨rfl, hr, ho⟩))
    go_ret
    exact ⟨rfl, hr, ho⟩
  · have hn' : ok = false ∨ n < 0 ∨ (l.length : Int) < n := by
      rcases hn with h | h | h | h
      · exact .inl h
      · exact .inr (.inl h)
      · exact absurd h h8
      · exact .inr (.inr h)
    clear hn
    have H := Lib.hid hn'
    clear hn'
    go_enter Try.func28, Try.ntmps28
    go_wp2_with (go_at_call 34; ((with_reducible refine (next_no g l ok n _ h H.out).mono ?_); rintro e w1 ⟨rfl, hr, ho⟩))
    refine wp_loop_rounds 1 ?_
    rw [rounds_succ]
    go_wp2
    go_ret
    exact ⟨rfl, hr, ho⟩

theorem next_nil (n : Int) (w : World) : Calls Try.prog 34 #[.pointer none, .int .i64 n] w fun e w' => e = .returned (.slice none 0 0) ∧ w = w' := by
  by_cases h0 : n < 0
  · go_enter Try.func34, Try.ntmps34
    go_wp2_with (first | (go_at_call 33; ((with_reducible refine (fail_nil _).mono ?_); rintro e w' ⟨rfl, rfl⟩)) | (go_at_call 23; ((with_reducible refine (ok_nil _).mono ?_); rintro e w' ⟨rfl, rfl⟩)))
    go_ret
    exact ⟨rfl, rfl⟩
  · by_cases h1 : (0 : Int) < n
    all_goals
      go_enter Try.func34, Try.ntmps34
      go_wp2_with (first | (go_at_call 24; ((with_reducible refine (left_nil _).mono ?_); rintro e w' ⟨rfl, rfl⟩)) | (go_at_call 33; ((with_reducible refine (fail_nil _).mono ?_); rintro e w' ⟨rfl, rfl⟩)) | (go_at_call 23; ((with_reducible refine (ok_nil _).mono ?_); rintro e w' ⟨rfl, rfl⟩)))
      go_ret
      exact ⟨rfl, rfl⟩
theorem take_nil (n : Int) (w : World) : Calls Try.prog 28 #[.pointer none, .int .i64 n] w fun e w' => e = .returned (.int .u64 0) ∧ w = w' := by
  by_cases h8 : 8 < n
  · go_enter Try.func28, Try.ntmps28
    go_wp2_with (go_at_call 33; ((with_reducible refine (fail_nil _).mono ?_); rintro e w' ⟨rfl, rfl⟩))
    go_ret
    exact ⟨rfl, rfl⟩
  · go_enter Try.func28, Try.ntmps28
    go_wp2_with (go_at_call 34; ((with_reducible refine (next_nil n _).mono ?_); rintro e w' ⟨rfl, rfl⟩))
    refine wp_loop_rounds 1 ?_
    rw [rounds_succ]
    go_wp2
    go_ret
    exact ⟨rfl, rfl⟩

/-- How long the text is that is next, as its first two bytes tell. -/
def textLen (l : List UInt8) : Nat := numB (l.take 2)
theorem textLen_lt (l : List UInt8) : textLen l < 65536 := by
  have h := numB_lt (l.take 2)
  have h2 : 256 ^ (l.take 2).length ≤ 256 ^ 2 := Nat.pow_le_pow_right (by omega) (by simp; omega)
  unfold textLen; omega
theorem take2_yes (g : Nat) (l : List UInt8) (w : World) (h : RdAt w g l true) (h2 : 2 ≤ l.length) :
    Calls Try.prog 28 #[.pointer (some ⟨g, 0, none⟩), .int .i64 2] w fun e w' => e = .returned (.int .u64 (textLen l : Nat)) ∧ RdAt w' g (l.drop 2) true ∧ Only g w w' := take_yes g l 2 w h h2 (by omega)
/-- Whether a text of at most m bytes is there whole. -/
def textOk (l : List UInt8) (m : Int) : Prop := 2 ≤ l.length ∧ (textLen l : Int) ≤ m ∧ 2 + textLen l ≤ l.length

end Go.Proofs.Ytcmboanepllgjaa
