/- Contracts of frame.Wrap and of the document's own Wrap, and of the statements' function awake. Conditions: the body lies in memory and is not longer than 2^40. -/
import Derived.Test.YtmkadjchcfmbjaaFrameSum
import Derived.Test.YtmkadjchcfmbjaaFrameUw
import Derived.Lib.SlBytesConst
namespace Go.Proofs.Ytmkadjchcfmbjaa
open Go.RowKit

theorem held4 : held 4 = 4 := by decide
theorem sumB_lt' (l : List UInt8) : sumB l < 4294967296 := sumB_lt l

/-- A row just built reads as its bytes. -/
theorem BAt.made (w : World) (l : List UInt8) (cs : Array Value) (t : TypeId) (fr : Nat × Nat) (h : cs = (bcells l).toArray) : BAt (w.alloc (.cells cs t fr)) (w.heap.size + 1) (some ⟨w.heap.size, 0, none⟩) l.length l := by
  refine ⟨rfl, .inr ⟨w.heap.size, 0, rfl, by omega, fun i hi => ?_⟩⟩
  subst h
  rw [cell_of_row _ w.heap.size _ _ t fr (heap_alloc_new w _)]
  simp [bcells, hi]

/-- New memory that holds the bytes l is answered, and OK. -/
def NewB2 (w : World) (l : List UInt8) (e : Ending) (w' : World) : Prop :=
  ∃ a n c, e = .returned (.tuple #[.slice a n c, .int .i64 0]) ∧ w'.ownsRow w.heap.size 5 1 (.slice a n c) n (bcells l) ∧ Below w.heap.size w w'
theorem PutIn.out2 {w wr : World} {v : Value} {n : Nat} {l : List UInt8} (h : PutIn w wr v n l) : NewB2 w l (.returned (.tuple #[v, .int .i64 0])) wr := by
  obtain ⟨a, c, rfl, _⟩ := own_form h.1
  exact ⟨a, n, c, rfl, h.1, h.2⟩

set_option maxHeartbeats 1000000 in
theorem wrap_yes (a : Option Addr) (m c : Nat) (l : List UInt8) (w : World) (hl : BAt w w.heap.size a m l) (hm : m ≤ 60000) :
    Calls Try.prog 10 #[.slice a m c] w (NewB2 w (frameB l)) := by
  obtain ⟨i0, hi, hz0, hz1, hz2⟩ := info_parts Try.info5
  have hlen := hl.len
  have hF : Hid (frameB l = ([] ++ putB m (held 4)) ++ putB (sumB l) (held 4) ++ l) := by rw [← hlen]; rfl
  have hs := sumB_lt' l
  have HL := Lib.hid hlen
  clear hlen
  have hd : decide ((60000 : Int) < (m : Int)) = false := by simp; omega
  go_enter Try.func10, Try.ntmps10
  go_wp2_with (first | (go_at_call 20; ((with_reducible refine (put_any none 0 0 m 4 [] _ BAt.nil (by omega) (by omega)).mono ?_); rintro e w1 ⟨a1, n1, c1, rfl, ho1, hb1⟩; have hn1 := own_len ho1; have hn1' : n1 = 4 := hn1.symm.trans (by rw [List.nil_append, putB_len, held4]); subst hn1'; clear hn1; have hl1 : BAt w1 w.heap.size a m l := hl.below hb1 (Nat.le_refl _))) | (go_at_call 12; ((with_reducible refine (sum_any w.heap.size a m c l _ hl1 (by unfold maxLen; omega)).mono ?_); rintro e w' ⟨rfl, rfl⟩)) | (go_at_call 20; ((with_reducible refine (put_any a1 4 c1 (sumB l) 4 _ _ (BAt.of_own ho1) (by omega) (by omega)).mono ?_); rintro e w2 ⟨a2, n2, c2, rfl, ho2, hb2⟩; have hn2 := own_len ho2; have hn2' : n2 = 8 := hn2.symm.trans (by rw [List.nil_append, List.length_append, putB_len, putB_len, held4]); subst hn2'; clear hn2; have hB2 : Below w.heap.size w w2 := hb1.trans (hb2.mono hb1.size))) | (at_builtin; (refine wpList_append_bytes _ rfl _ _ 22 rfl w.heap.size 5 i0 Try.underlying22 hi hz0 hz1 hz2 _ 8 _ rfl (own_base ho2 hb1.size) w.heap.size a m l c rfl (hl.below hB2 (Nat.le_refl _)) (by omega) hB2.size ?_; intro v3 w3 ho3 hg3; have R : PutIn w w3 v3 _ _ := PutIn.next0 ⟨own_base ho2 hb1.size, hB2⟩ ho3 hg3; clear ho3 hg3)))
  go_ret2
  rw [hF.out]
  exact R.out2
theorem wrap_no (a : Option Addr) (m c : Nat) (w : World) (hm : 60000 < m) (hn : m ≤ maxLen) :
    Calls Try.prog 10 #[.slice a m c] w fun e w' => e = .returned (.tuple #[.slice none 0 0, .int .i64 3]) ∧ w = w' := by
  unfold maxLen at hn
  have hd : decide ((60000 : Int) < (m : Int)) = true := by simp; omega
  go_enter Try.func10, Try.ntmps10
  go_wp2
  go_ret2
  exact ⟨rfl, rfl⟩

set_option maxHeartbeats 1000000 in
theorem refWrap_yes (a : Option Addr) (m c : Nat) (l : List UInt8) (w : World) (hl : BAt w w.heap.size a m l) (hm : m ≤ 60000) :
    Calls Try.prog 11 #[.slice a m c] w (NewB2 w (frameB l)) := by
  obtain ⟨i0, hi, hz0, hz1, hz2⟩ := info_parts Try.info5
  have hlen := hl.len
  have hF : Hid (frameB l = ([] ++ putB m (held 4)) ++ putB (sumB l) (held 4) ++ l) := by rw [← hlen]; rfl
  have hs := sumB_lt' l
  have HL := Lib.hid hlen
  clear hlen
  have hd : decide ((60000 : Int) < (m : Int)) = false := by simp; omega
  go_enter Try.func11, Try.ntmps11
  go_wp2_with (first | (go_at_call 21; ((with_reducible refine (refPut_any none 0 0 m 4 [] _ BAt.nil (by omega) (by omega) (by omega) (by omega)).mono ?_); rintro e w1 ⟨a1, n1, c1, rfl, ho1, hb1⟩; have hn1 := own_len ho1; have hn1' : n1 = 4 := hn1.symm.trans (by rw [List.nil_append, putB_len, held4]); subst hn1'; clear hn1; have hl1 : BAt w1 w.heap.size a m l := hl.below hb1 (Nat.le_refl _))) | (go_at_call 13; ((with_reducible refine (refSum_any w.heap.size a m c l _ hl1 (by unfold maxLen; omega)).mono ?_); rintro e w' ⟨rfl, rfl⟩)) | (go_at_call 21; ((with_reducible refine (refPut_any a1 4 c1 (sumB l) 4 _ _ (BAt.of_own ho1) (by omega) (by omega) (by omega) (by omega)).mono ?_); rintro e w2 ⟨a2, n2, c2, rfl, ho2, hb2⟩; have hn2 := own_len ho2; have hn2' : n2 = 8 := hn2.symm.trans (by rw [List.nil_append, List.length_append, putB_len, putB_len, held4]); subst hn2'; clear hn2; have hB2 : Below w.heap.size w w2 := hb1.trans (hb2.mono hb1.size))) | (at_builtin; (refine wpList_append_bytes _ rfl _ _ 22 rfl w.heap.size 5 i0 Try.underlying22 hi hz0 hz1 hz2 _ 8 _ rfl (own_base ho2 hb1.size) w.heap.size a m l c rfl (hl.below hB2 (Nat.le_refl _)) (by omega) hB2.size ?_; intro v3 w3 ho3 hg3; have R : PutIn w w3 v3 _ _ := PutIn.next0 ⟨own_base ho2 hb1.size, hB2⟩ ho3 hg3; clear ho3 hg3)))
  go_ret2
  rw [hF.out]
  exact R.out2
theorem refWrap_no (a : Option Addr) (m c : Nat) (w : World) (hm : 60000 < m) (hn : m ≤ maxLen) :
    Calls Try.prog 11 #[.slice a m c] w fun e w' => e = .returned (.tuple #[.slice none 0 0, .int .i64 3]) ∧ w = w' := by
  unfold maxLen at hn
  have hd : decide ((60000 : Int) < (m : Int)) = true := by simp; omega
  go_enter Try.func11, Try.ntmps11
  go_wp2
  go_ret2
  exact ⟨rfl, rfl⟩

/-- True is answered, and nothing that was there has turned. -/
def Says (w : World) (b : Bool) (e : Ending) (w' : World) : Prop := e = .returned (.bool b) ∧ Below w.heap.size w w'
theorem sum_nine (w : World) (t : TypeId) (fr : Nat × Nat) : Calls Try.prog 12 #[.slice (some ⟨w.heap.size, 0, none⟩) 9 9] (w.alloc (.cells #[.int .u8 49, .int .u8 50, .int .u8 51, .int .u8 52, .int .u8 53, .int .u8 54, .int .u8 55, .int .u8 56, .int .u8 57] t fr))
    fun e w' => e = .returned (.int .u32 3421780262) ∧ w.alloc (.cells #[.int .u8 49, .int .u8 50, .int .u8 51, .int .u8 52, .int .u8 53, .int .u8 54, .int .u8 55, .int .u8 56, .int .u8 57] t fr) = w' := by
  have h := sum_any _ _ 9 9 _ _ (BAt.made w [49, 50, 51, 52, 53, 54, 55, 56, 57] _ t fr rfl) (by unfold maxLen; omega)
  have e : sumB [49, 50, 51, 52, 53, 54, 55, 56, 57] = 3421780262 := by decide +kernel
  rw [e] at h
  exact h
theorem awake_any (w : World) : Calls Try.prog 9 #[] w (Says w true) := by
  have kc := fun (w : World) (C : Array Value) (n c : Nat) => Lib.run_convert_bytes_const (P := Try.prog) w 22 5 C n c Try.underlying22 Try.underlying5
  go_enter Try.func9, Try.ntmps9
  go_wp2_with (go_at_call 12; ((with_reducible refine (sum_nine _ _ _).mono ?_); rintro e w' ⟨rfl, rfl⟩))
  go_ret
  exact ⟨rfl, (Below.refl _ _).alloc (Nat.le_refl _) _⟩
end Go.Proofs.Ytmkadjchcfmbjaa
