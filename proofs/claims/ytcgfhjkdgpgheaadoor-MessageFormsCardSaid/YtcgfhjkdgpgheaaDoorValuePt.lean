/- Contract of the program's Put of values. Conditions: what it is handed lies in memory and fits its kinds; utf8's tables hold what they hold. -/
import Derived.Test.YtcgfhjkdgpgheaaDoorValueSpec
import Derived.Test.YtcgfhjkdgpgheaaDoorValueProg
namespace Go.Proofs.YtcgfhjkdgpgheaaDoor

open Go.RowKit

set_option maxHeartbeats 1000000 in
theorem bclone_any (a : Option Addr) (m c : Nat) (l : List UInt8) (w : World) (hl : BAt w w.heap.size a m l) (hlen : m ≤ 1099511627776) :
    Calls Tryd.prog 105 #[.slice a m c] w (NewB w l) := by
  obtain ⟨i0, hi, hz0, hz1, hz2⟩ := info_parts Tryd.info5
  rcases a with _ | ad
  · have hm : m = 0 := by
      rcases hl with ⟨_, h | ⟨b, off, h, _⟩⟩
      · exact h
      · cases h
    obtain rfl : l = [] := List.eq_nil_of_length_eq_zero (by rw [hl.len, hm])
    have heq : ∀ W : World, (binOp .eql 37 (.slice none m c) (.slice none 0 0)).run Tryd.prog W = .ok (.bool true) W := fun W => Lib.run_eql_slice_nil W 37 5 _ _ _ _ _ Tryd.underlying37
    clear hm
    go_enter Tryd.func105, Tryd.ntmps105
    go_wp2
    go_ret
    exact ⟨none, 0, 0, rfl, World.ownsRow_nil _ _ _ _, Below.refl _ _⟩
  · have heq : ∀ W : World, (binOp .eql 37 (.slice (some ad) m c) (.slice none 0 0)).run Tryd.prog W = .ok (.bool false) W := fun W => Lib.run_eql_slice_nil W 37 5 _ _ _ _ _ Tryd.underlying37
    go_enter Tryd.func105, Tryd.ntmps105
    go_wp2_with (at_builtin; (refine wpList_append_bytes _ rfl _ _ 37 rfl w.heap.size 5 i0 Tryd.underlying37 hi hz0 hz1 hz2 _ 0 [] rfl (own_empty w) w.heap.size (some ad) m l c rfl (hl.alloc (Nat.le_refl _) _) (by omega) (by simp) ?_; intro v' w1 hown hg; have R : PutIn w w1 v' (0 + m) ([] ++ l) := ⟨hown, ((Below.refl _ _).alloc (Nat.le_refl _) _).grown hg (by simp) (own_block (own_empty w))⟩; clear hown hg))
    go_ret
    exact R.out

theorem held1 : held 1 = 1 := by decide
theorem put_kind (k : Nat) (c : UInt8) (hk : k < 256) (hc : c = UInt8.ofNat k) (a : Option Addr) (m cp : Nat) (l : List UInt8) (w : World) (hl : BAt w w.heap.size a m l) (hlen : m ≤ 1099511627776) :
    Calls Tryd.prog 37 #[.slice a m cp, .int .u64 (k : Nat), .int .i64 1] w (NewB w (l ++ [c])) := by
  have := put_any a m cp k 1 l w hl hlen (by omega)
  rw [held1] at this
  rw [hc]
  have e : putB k 1 = [UInt8.ofNat k] := by simp [putB]
  rw [e] at this
  exact this

/-- What is handed on: the value's box, and all that lay there. -/
def QW (w W : World) (k : Int) (b : Nat) (t : ByteArray) : Prop := BoxV W w.heap.size k b t ∧ Below w.heap.size w W ∧ w.heap.size < W.heap.size
theorem QW.new (w : World) (k : Int) (b : Nat) (t : ByteArray) : QW w (w.alloc (.cells #[.int .i64 k, .int .u64 (b : Nat), .string t] 35)) k b t := ⟨BoxV.new w k b t 35, (Below.refl _ _).alloc (Nat.le_refl _) _, by simp⟩
theorem QW.below {w W W' : World} {k : Int} {b : Nat} {t : ByteArray} (h : QW w W k b t) (hb : Below W.heap.size W W') : QW w W' k b t := ⟨h.1.below hb h.2.2, h.2.1.trans (hb.mono h.2.1.size), Nat.lt_of_lt_of_le h.2.2 hb.size⟩
theorem QW.bel {w W : World} {k : Int} {b : Nat} {t : ByteArray} (h : QW w W k b t) : Below w.heap.size w W := h.2.1

set_option maxHeartbeats 1000000 in
theorem putsV : PutsV 76 := by
  intro a m c l k b t w hl hm hb ht hT
  have Q0 := Lib.hid (QW.new w k b t)
  have HL : Hid (∀ W, Below w.heap.size w W → BAt W W.heap.size a m l) := fun W h => (hl.below h (Nat.le_refl _)).more h.size
  have HM := Lib.hid hl.len
  have HT := Lib.hid (hT.below Q0.out.bel)
  have ht' := ht
  unfold maxLen at ht'
  have cF := fun W h => formed_any k b t W hb ht h
  clear hT hl
  cases hf : formedB ⟨k, b, t.data.toList⟩
  · rw [hf] at cF
    have R : Hid (putV l ⟨k, b, t.data.toList⟩ = l) := by show putV _ _ = _; simp [putV, hf]
    clear hf
    go_enter Tryd.func76, Tryd.ntmps76
    go_wp2_with (first | (go_at_call 59; ((with_reducible refine (cF _ HT.out).mono ?_); rintro e w1 ⟨rfl, hb1⟩; have Q1 := Lib.hid (Q0.out.below hb1))) | (go_at_call 105; ((with_reducible refine (bclone_any a m c l _ (HL.out _ Q1.out.bel) (by omega)).mono ?_); rintro e w2 ⟨a2, n2, c2, rfl, ho2, hb2⟩)))
    go_ret
    exact NewB.wide ⟨a2, n2, c2, rfl, ho2, hb2⟩ Q1.out.bel R.out.symm
  · rw [hf] at cF
    have R : Hid (putV l ⟨k, b, t.data.toList⟩ = l ++ bytesV ⟨k, b, t.data.toList⟩) := by show putV _ _ = _; simp [putV, hf]
    have hk := formed_kinds hf
    clear hf
    rcases hk with rfl | rfl | rfl
    · have T : Hid (bytesV ⟨0, b, t.data.toList⟩ = [0]) := by show bytesV _ = _; simp [bytesV]
      have cK : ∀ W, BAt W W.heap.size a m l → Calls Tryd.prog 37 #[.slice a m c, .int .u64 0, .int .i64 1] W (NewB W (l ++ [0])) := fun W h => put_kind 0 0 (by omega) rfl a m c l W h (by omega)
      go_enter Tryd.func76, Tryd.ntmps76
      go_upto_region 3 with (go_at_call 59; ((with_reducible refine (cF _ HT.out).mono ?_); rintro e w1 ⟨rfl, hb1⟩; have Q1 := Lib.hid (Q0.out.below hb1)))
      obtain ⟨p1, p2, p3⟩ := Q1.out.1
      go_wp2_with (go_at_call 37; ((with_reducible refine (cK _ (HL.out _ Q1.out.bel)).mono ?_); rintro e w2 ⟨a2, n2, c2, rfl, ho2, hb2⟩; have Q2 := Lib.hid (Q1.out.below hb2); clear p1 p2 p3; obtain ⟨p1, p2, p3⟩ := Q2.out.1))
      go_ret
      exact NewB.wide ⟨a2, n2, c2, rfl, ho2, hb2⟩ Q1.out.bel (by rw [R.out, T.out])
    · have T : Hid (bytesV ⟨1, b, t.data.toList⟩ = [1] ++ putB b (held 8)) := by show bytesV _ = _; simp [bytesV, held8]
      have cK : ∀ W, BAt W W.heap.size a m l → Calls Tryd.prog 37 #[.slice a m c, .int .u64 1, .int .i64 1] W (NewB W (l ++ [1])) := fun W h => put_kind 1 1 (by omega) rfl a m c l W h (by omega)
      go_enter Tryd.func76, Tryd.ntmps76
      go_upto_region 3 with (go_at_call 59; ((with_reducible refine (cF _ HT.out).mono ?_); rintro e w1 ⟨rfl, hb1⟩; have Q1 := Lib.hid (Q0.out.below hb1)))
      obtain ⟨p1, p2, p3⟩ := Q1.out.1
      go_upto_region 4 with (go_at_call 37; ((with_reducible refine (cK _ (HL.out _ Q1.out.bel)).mono ?_); rintro e w2 ⟨a2, n2, c2, rfl, ho2, hb2⟩; have Q2 := Lib.hid (Q1.out.below hb2)))
      clear p1 p2 p3
      obtain ⟨p1, p2, p3⟩ := Q2.out.1
      have hb2' := BAt.of_own ho2
      have hn2 : n2 ≤ 1099511627776 := by
        have h1 := own_len ho2
        have h2 := HM.out
        simp at h1; omega
      go_wp2_with (go_at_call 37; ((with_reducible refine (put_any a2 n2 c2 b 8 (l ++ [1]) _ hb2' hn2 hb).mono ?_); rintro e w3 ⟨a3, n3, c3, rfl, ho3, hb3⟩))
      go_ret
      exact NewB.wide ⟨a3, n3, c3, rfl, ho3, hb3⟩ Q2.out.bel (by rw [R.out, T.out, List.append_assoc])
    · have T : Hid (bytesV ⟨2, b, t.data.toList⟩ = [2] ++ textB t.data.toList) := by show bytesV _ = _; simp [bytesV]
      have cK : ∀ W, BAt W W.heap.size a m l → Calls Tryd.prog 37 #[.slice a m c, .int .u64 2, .int .i64 1] W (NewB W (l ++ [2])) := fun W h => put_kind 2 2 (by omega) rfl a m c l W h (by omega)
      go_enter Tryd.func76, Tryd.ntmps76
      go_upto_region 3 with (go_at_call 59; ((with_reducible refine (cF _ HT.out).mono ?_); rintro e w1 ⟨rfl, hb1⟩; have Q1 := Lib.hid (Q0.out.below hb1)))
      obtain ⟨p1, p2, p3⟩ := Q1.out.1
      go_upto_region 4 with (go_at_call 37; ((with_reducible refine (cK _ (HL.out _ Q1.out.bel)).mono ?_); rintro e w2 ⟨a2, n2, c2, rfl, ho2, hb2⟩; have Q2 := Lib.hid (Q1.out.below hb2)))
      clear p1 p2 p3
      obtain ⟨p1, p2, p3⟩ := Q2.out.1
      have hb2' := BAt.of_own ho2
      have hn2 : n2 ≤ 1099511627000 := by
        have h1 := own_len ho2
        have h2 := HM.out
        simp at h1; omega
      go_wp2_with (go_at_call 75; ((with_reducible refine (putText_any a2 n2 c2 t (l ++ [2]) _ hb2' hn2 ht).mono ?_); rintro e w3 ⟨a3, n3, c3, rfl, ho3, hb3⟩))
      go_ret
      exact NewB.wide ⟨a3, n3, c3, rfl, ho3, hb3⟩ Q2.out.bel (by rw [R.out, T.out, List.append_assoc])
end Go.Proofs.YtcgfhjkdgpgheaaDoor
