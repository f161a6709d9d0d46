/- Contracts of a code.Reader's methods Take and TakeText. Conditions: the reader lies in memory as New lays it. -/
import Derived.Test.YtlkgpajpblhkeaaDoorCodeReader

namespace Go.Proofs.YtlkgpajpblhkeaaDoor

open Go.RowKit

theorem or_step (x c : Nat) (hx : x < 72057594037927936) (hc : c < 256) : bits .or .u64 (IntKind.u64.wrap ((x : Int) * 256)) (IntKind.u64.wrap (c : Int)) = ((x * 256 + c : Nat) : Int) := by
  have h1 : IntKind.u64.wrap ((x : Int) * 256) = ((x * 256 : Nat) : Int) := by rw [IntKind.wrap_u64]; omega
  have h2 : IntKind.u64.wrap (c : Int) = (c : Int) := by rw [IntKind.wrap_u64]; omega
  rw [h1, h2, u64_or_nat _ _ (by omega) (by omega), nat_join 8 _ _ (by omega) (by omega)]
theorem num_step (l : List UInt8) (k q : Nat) (hq : q < k) (hk : k ≤ l.length) (h8 : k ≤ 8) :
    bits .or .u64 (IntKind.u64.wrap ((numB ((l.take k).take q) : Int) * 256)) (IntKind.u64.wrap ((l[q]'(by omega)).toNat : Int)) = ((numB ((l.take k).take (q + 1)) : Nat) : Int) := by
  have h1 : (l.take k).take (q + 1) = (l.take k).take q ++ [l[q]'(by omega)] := by
    rw [take_snoc _ _ (by simp; omega)]; simp
  have h2 := numB_lt ((l.take k).take q)
  have h3 : ((l.take k).take q).length ≤ 7 := by simp; omega
  have h4 : 256 ^ ((l.take k).take q).length ≤ 256 ^ 7 := Nat.pow_le_pow_right (by omega) h3
  rw [h1, numB_snoc]
  exact or_step _ _ (by omega) (UInt8.toNat_lt _)

set_option maxHeartbeats 1000000 in
theorem take_yes (g : Nat) (l : List UInt8) (k : Nat) (w : World) (h : RdAt w g l true) (hk : k ≤ l.length) (h8 : k ≤ 8) :
    Calls Tryd.prog 61 #[.pointer (some ⟨g, 0, none⟩), .int .i64 k] w fun e w' => e = .returned (.int .u64 (numB (l.take k) : Nat)) ∧ RdAt w' g (l.drop k) true ∧ Only g w w' := by
  have hd : decide (8 < k) = false := by simp; omega
  go_enter Tryd.func61, Tryd.ntmps61
  go_wp2_with (go_at_call 80; ((with_reducible refine (next_yes g l k _ h hk).mono ?_); rintro e w1 ⟨a, n, c, rfl, hb, hr, ho⟩))
  have hlen := hb.len
  have hnk : n = k := by rw [← hlen]; simp; omega
  subst hnk
  clear hlen
  go_loop [5, 16] (fun x i => ∃ q : Nat, q ≤ n ∧ i = .int .i64 q ∧ x = .int .u64 (numB ((l.take n).take q) : Nat)) (fun _ i => n - (intOf i).toNat)
  case atStart => exact ⟨0, by omega, rfl, rfl⟩
  case round =>
    obtain ⟨q, hq, rfl, rfl⟩ := hrel
    by_cases hlt : q < n
    · obtain ⟨b, off, rfl, hbg, hc⟩ := hb.at_ (i := q) (by simp; omega)
      have HS := Lib.hid (num_step l n q hlt hk h8)
      go_wp2
      go_round
      case rel => exact ⟨q + 1, by omega, by go_num, by rw [← HS.out]⟩
      case measure => simp [intOf]; omega
    · have HE : Hid ((l.take n).take q = l.take n) := List.take_of_length_le (by simp; omega)
      go_wp2
      go_ret
      exact ⟨by rw [HE.out]; rfl, hr, ho⟩

theorem take_no (g : Nat) (l : List UInt8) (ok : Bool) (n : Int) (w : World) (h : RdAt w g l ok) (hn : ok = false ∨ n < 0 ∨ 8 < n ∨ (l.length : Int) < n) :
    Calls Tryd.prog 61 #[.pointer (some ⟨g, 0, none⟩), .int .i64 n] w fun e w' => e = .returned (.int .u64 0) ∧ RdAt w' g [] false ∧ Only g w w' := by
  by_cases h8 : 8 < n
  · go_enter Tryd.func61, Tryd.ntmps61
    go_wp2_with (go_at_call 79; ((with_reducible refine (fail_any g l ok _ h).mono ?_); rintro e w1 ⟨rfl, hr, ho⟩))
    go_ret
    exact ⟨rfl, hr, ho⟩
  · have hn' : ok = false ∨ n < 0 ∨ (l.length : Int) < n := by
      rcases hn with h | h | h | h
      · exact .inl h
      · exact .inr (.inl h)
      · exact absurd h h8
      · exact .inr (.inr h)
    clear hn
    have H := Lib.hid hn'
    clear hn'
    go_enter Tryd.func61, Tryd.ntmps61
    go_wp2_with (go_at_call 80; ((with_reducible refine (next_no g l ok n _ h H.out).mono ?_); rintro e w1 ⟨rfl, hr, ho⟩))
    refine wp_loop_rounds 1 ?_
    rw [rounds_succ]
    go_wp2
    go_ret
    exact ⟨rfl, hr, ho⟩

theorem next_nil (n : Int) (w : World) : Calls Tryd.prog 80 #[.pointer none, .int .i64 n] w fun e w' => e = .returned (.slice none 0 0) ∧ w = w' := by
  by_cases h0 : n < 0
  · go_enter Tryd.func80, Tryd.ntmps80
    go_wp2_with (first | (go_at_call 79; ((with_reducible refine (fail_nil _).mono ?_); rintro e w' ⟨rfl, rfl⟩)) | (go_at_call 31; ((with_reducible refine (ok_nil _).mono ?_); rintro e w' ⟨rfl, rfl⟩)))
    go_ret
    exact ⟨rfl, rfl⟩
  · by_cases h1 : (0 : Int) < n
    all_goals
      go_enter Tryd.func80, Tryd.ntmps80
      go_wp2_with (first | (go_at_call 37; ((with_reducible refine (left_nil _).mono ?_); rintro e w' ⟨rfl, rfl⟩)) | (go_at_call 79; ((with_reducible refine (fail_nil _).mono ?_); rintro e w' ⟨rfl, rfl⟩)) | (go_at_call 31; ((with_reducible refine (ok_nil _).mono ?_); rintro e w' ⟨rfl, rfl⟩)))
      go_ret
      exact ⟨rfl, rfl⟩
theorem take_nil (n : Int) (w : World) : Calls Tryd.prog 61 #[.pointer none, .int .i64 n] w fun e w' => e = .returned (.int .u64 0) ∧ w = w' := by
  by_cases h8 : 8 < n
  · go_enter Tryd.func61, Tryd.ntmps61
    go_wp2_with (go_at_call 79; ((with_reducible refine (fail_nil _).mono ?_); rintro e w' ⟨rfl, rfl⟩))
    go_ret
    exact ⟨rfl, rfl⟩
  · go_enter Tryd.func61, Tryd.ntmps61
    go_wp2_with (go_at_call 80; ((with_reducible refine (next_nil n _).mono ?_); rintro e w' ⟨rfl, rfl⟩))
    refine wp_loop_rounds 1 ?_
    rw [rounds_succ]
    go_wp2
    go_ret
    exact ⟨rfl, rfl⟩

/-- How long the text is that is next, as its first two bytes tell. -/
def textLen (l : List UInt8) : Nat := numB (l.take 2)
theorem textLen_lt (l : List UInt8) : textLen l < 65536 := by
  have h := numB_lt (l.take 2)
  have h2 : 256 ^ (l.take 2).length ≤ 256 ^ 2 := Nat.pow_le_pow_right (by omega) (by simp; omega)
  unfold textLen; omega
theorem take2_yes (g : Nat) (l : List UInt8) (w : World) (h : RdAt w g l true) (h2 : 2 ≤ l.length) :
    Calls Tryd.prog 61 #[.pointer (some ⟨g, 0, none⟩), .int .i64 2] w fun e w' => e = .returned (.int .u64 (textLen l : Nat)) ∧ RdAt w' g (l.drop 2) true ∧ Only g w w' := take_yes g l 2 w h h2 (by omega)
/-- Whether a text of at most m bytes is there whole. -/
def textOk (l : List UInt8) (m : Int) : Prop := 2 ≤ l.length ∧ (textLen l : Int) ≤ m ∧ 2 + textLen l ≤ l.length

set_option maxHeartbeats 1000000 in
theorem takeText_yes (g : Nat) (l : List UInt8) (m : Int) (w : World) (h : RdAt w g l true) (hT : textOk l m) :
    Calls Tryd.prog 77 #[.pointer (some ⟨g, 0, none⟩), .int .i64 m] w fun e w' => e = .returned (.string ⟨((l.drop 2).take (textLen l)).toArray⟩) ∧ RdAt w' g ((l.drop 2).drop (textLen l)) true ∧ Only g w w' := by
  obtain ⟨h2, h3, h4⟩ := hT
  have hlt := textLen_lt l
  have hk : textLen l ≤ (l.drop 2).length := by simp; omega
  have hd : decide (m < (textLen l : Int)) = false := by simp; omega
  go_enter Tryd.func77, Tryd.ntmps77
  go_wp2_with (first | (go_at_call 61; ((with_reducible refine (take2_yes g l _ h h2).mono ?_); rintro e w1 ⟨rfl, hr, ho⟩)) | (go_at_call 80; ((with_reducible refine (next_yes g (l.drop 2) (textLen l) _ hr hk).mono ?_); rintro e w2 ⟨a, n, c, rfl, hb, hr2, ho2⟩; have hcv := run_convert_bytes (P := Tryd.prog) w2 43 5 9 Tryd.underlying43 Tryd.underlying5 Tryd.underlying9 g a n _ c hb)))
  go_ret
  exact ⟨rfl, hr2, ho.trans ho2⟩

set_option maxHeartbeats 1000000 in
theorem takeText_no (g : Nat) (l : List UInt8) (ok : Bool) (m : Int) (w : World) (h : RdAt w g l ok) (hT : ¬ (ok = true ∧ textOk l m)) :
    Calls Tryd.prog 77 #[.pointer (some ⟨g, 0, none⟩), .int .i64 m] w fun e w' => e = .returned (.string ⟨#[]⟩) ∧ RdAt w' g [] false ∧ Only g w w' := by
  have hc0 := fun W : World => run_convert_bytes (P := Tryd.prog) W 43 5 9 Tryd.underlying43 Tryd.underlying5 Tryd.underlying9 0 none 0 [] 0 BAt.nil
  by_cases h1 : ok = true ∧ 2 ≤ l.length
  · obtain ⟨rfl, h2⟩ := h1
    have hlt := textLen_lt l
    have hT' : m < (textLen l : Int) ∨ l.length < 2 + textLen l := by
      rcases Classical.em (m < (textLen l : Int)) with h | h
      · exact .inl h
      · refine .inr ?_
        rcases Classical.em (l.length < 2 + textLen l) with h' | h'
        · exact h'
        · exact absurd ⟨rfl, h2, by omega, by omega⟩ hT
    clear hT
    by_cases hm : m < (textLen l : Int)
    · clear hT'
      have hd : decide (m < (textLen l : Int)) = true := by simp; omega
      go_enter Tryd.func77, Tryd.ntmps77
      go_wp2_with (first | (go_at_call 61; ((with_reducible refine (take2_yes g l _ h h2).mono ?_); rintro e w1 ⟨rfl, hr, ho⟩)) | (go_at_call 79; ((with_reducible refine (fail_any g _ true _ hr).mono ?_); rintro e w2 ⟨rfl, hr2, ho2⟩)))
      go_ret
      exact ⟨rfl, hr2, ho.trans ho2⟩
    · have hd : decide (m < (textLen l : Int)) = false := by simp; omega
      have hlong : true = false ∨ (textLen l : Int) < 0 ∨ (((l.drop 2).length : Nat) : Int) < (textLen l : Int) := .inr (.inr (by simp; omega))
      have HL := Lib.hid hlong
      clear hT' hlong
      go_enter Tryd.func77, Tryd.ntmps77
      go_wp2_with (first | (go_at_call 61; ((with_reducible refine (take2_yes g l _ h h2).mono ?_); rintro e w1 ⟨rfl, hr, ho⟩)) | (go_at_call 80; ((with_reducible refine (next_no g (l.drop 2) true _ _ hr (HL.out)).mono ?_); rintro e w2 ⟨rfl, hr2, ho2⟩)))
      go_ret
      exact ⟨rfl, hr2, ho.trans ho2⟩
  · have hn : ok = false ∨ (2 : Int) < 0 ∨ (8 : Int) < 2 ∨ (l.length : Int) < 2 := by
      cases ok
      · exact .inl rfl
      · refine .inr (.inr (.inr ?_))
        have : ¬ 2 ≤ l.length := fun h => h1 ⟨rfl, h⟩
        omega
    have HN := Lib.hid hn
    clear hn hT h1
    by_cases hm : m < 0
    · go_enter Tryd.func77, Tryd.ntmps77
      go_wp2_with (first | (go_at_call 61; ((with_reducible refine (take_no g l ok 2 _ h HN.out).mono ?_); rintro e w1 ⟨rfl, hr, ho⟩)) | (go_at_call 79; ((with_reducible refine (fail_any g _ false _ hr).mono ?_); rintro e w2 ⟨rfl, hr2, ho2⟩)))
      go_ret
      exact ⟨rfl, hr2, ho.trans ho2⟩
    · go_enter Tryd.func77, Tryd.ntmps77
      go_wp2_with (first | (go_at_call 61; ((with_reducible refine (take_no g l ok 2 _ h HN.out).mono ?_); rintro e w1 ⟨rfl, hr, ho⟩)) | (go_at_call 80; ((with_reducible refine (next_no g _ false _ _ hr (.inl rfl)).mono ?_); rintro e w2 ⟨rfl, hr2, ho2⟩)))
      go_ret
      exact ⟨rfl, hr2, ho.trans ho2⟩
theorem takeText_nil (m : Int) (w : World) : Calls Tryd.prog 77 #[.pointer none, .int .i64 m] w fun e w' => e = .returned (.string ⟨#[]⟩) ∧ w = w' := by
  have hc0 := fun W : World => run_convert_bytes (P := Tryd.prog) W 43 5 9 Tryd.underlying43 Tryd.underlying5 Tryd.underlying9 0 none 0 [] 0 BAt.nil
  by_cases hm : m < 0
  all_goals
    go_enter Tryd.func77, Tryd.ntmps77
    go_wp2_with (first | (go_at_call 61; ((with_reducible refine (take_nil _ _).mono ?_); rintro e w' ⟨rfl, rfl⟩)) | (go_at_call 79; ((with_reducible refine (fail_nil _).mono ?_); rintro e w' ⟨rfl, rfl⟩)) | (go_at_call 80; ((with_reducible refine (next_nil _ _).mono ?_); rintro e w' ⟨rfl, rfl⟩)))
    go_ret
    exact ⟨rfl, rfl⟩
end Go.Proofs.YtlkgpajpblhkeaaDoor
