/- Contract of the document's own Put of values. Conditions: what it is handed lies in memory and fits its kinds. Contract of the document's own Take of values. Conditions: its reader lies in memory as its literal lays it. Plain mathematics: what is put is taken. No condition. Plain mathematics: a value is read out of bytes; what stands behind is left; what is put is taken. No condition. -/
import Derived.Test.YtcgfhjkdgpgheaaDoorGF
import Derived.Laws.StructEq
import Derived.Test.YtcgfhjkdgpgheaaDoorCodeRef
import Derived.Test.YtcgfhjkdgpgheaaDoorGB
import Derived.Test.YtcgfhjkdgpgheaaDoorGA
/- ValuePut -/
namespace Go.Proofs.YtcgfhjkdgpgheaaDoor

open Go.RowKit

theorem held8 : held 8 = 8 := by decide
/-- A value's bytes. -/
def bytesV (v : Val) : List UInt8 := if v.k = 1 then 1 :: putB v.b 8 else if v.k = 2 then 2 :: textB v.t else [0]
def putV (l : List UInt8) (v : Val) : List UInt8 := if formedB v then l ++ bytesV v else l
theorem bytesV_len (v : Val) : (bytesV v).length ≤ 65538 := by
  unfold bytesV
  split
  · simp [putB_len]
  · split
    · rw [List.length_cons, textB_len]; omega
    · simp
theorem formed_kinds {k : Int} {b : Nat} {t : List UInt8} (h : formedB ⟨k, b, t⟩ = true) : k = 0 ∨ k = 1 ∨ k = 2 := by
  by_cases k0 : k = 0
  · exact .inl k0
  · by_cases k1 : k = 1
    · exact .inr (.inl k1)
    · by_cases k2 : k = 2
      · exact .inr (.inr k2)
      · rw [formed_other k b t k0 k1 k2] at h; cases h
theorem box_later {w w1 : World} {x y z : Value} {ty : TypeId} (hB : Below (w.alloc (.cells #[x, y, z] ty)).heap.size (w.alloc (.cells #[x, y, z] ty)) w1) :
    w1.cell? ⟨w.heap.size, 0, none⟩ = some x ∧ w1.cell? ⟨w.heap.size, 1, none⟩ = some y ∧ w1.cell? ⟨w.heap.size, 2, none⟩ = some z := by
  obtain ⟨a1, a2, a3⟩ := box3 w x y z ty
  exact ⟨(hB.cell (p := ⟨w.heap.size, 0, none⟩) (by simp)).trans a1, (hB.cell (p := ⟨w.heap.size, 1, none⟩) (by simp)).trans a2, (hB.cell (p := ⟨w.heap.size, 2, none⟩) (by simp)).trans a3⟩
theorem NewB.wide {w0 w : World} {l m : List UInt8} {e : Ending} {w' : World} (h : NewB w l e w') (hB : Below w0.heap.size w0 w) (e1 : l = m) : NewB w0 m e w' := by
  subst e1
  obtain ⟨a, n, c, he, ho, hb⟩ := h
  exact ⟨a, n, c, he, own_base ho hB.size, hB.trans (hb.mono hB.size)⟩

set_option maxHeartbeats 1000000 in
theorem refPutV_any (a : Option Addr) (m c : Nat) (l : List UInt8) (k : Int) (b : Nat) (t : ByteArray) (w : World) (hl : BAt w w.heap.size a m l) (hm : m ≤ 1099511600000) (hb : b < 18446744073709551616) (ht : t.size ≤ maxLen) :
    Calls Tryd.prog 46 #[.slice a m c, .agg #[.int .i64 k, .int .u64 b, .string t]] w (NewB w (putV l ⟨k, b, t.data.toList⟩)) := by
  obtain ⟨i0, hi, hz0, hz1, hz2⟩ := info_parts Tryd.info5
  have c1 := fun W => refFormed_any k b t W hb ht
  have ht' := ht
  unfold maxLen at ht'
  have hB0 : Below w.heap.size w (w.alloc (.cells #[.int .i64 k, .int .u64 b, .string t] 35)) := (Below.refl _ _).alloc (Nat.le_refl _) _
  have hlb := hl.alloc (Nat.le_refl _) (.cells #[.int .i64 k, .int .u64 b, .string t] 35)
  cases hf : formedB ⟨k, b, t.data.toList⟩
  · rw [hf] at c1
    have R : Hid (putV l ⟨k, b, t.data.toList⟩ = l) := by show putV _ _ = _; simp [putV, hf]
    clear hf
    go_enter Tryd.func46, Tryd.ntmps46
    go_wp2_with (first | (at_builtin; (refine wpList_append_bytes _ rfl _ _ 37 rfl (w.heap.size + 1) 5 i0 Tryd.underlying37 hi hz0 hz1 hz2 _ 0 [] rfl (World.ownsRow_nil _ _ _ _) w.heap.size a m l c rfl hlb (by omega) (by simp) ?_; intro v1 w1 ho1 hg1; rw [Nat.zero_add, List.nil_append] at ho1; have hB1 : Below (w.heap.size + 1) (w.alloc (.cells #[.int .i64 k, .int .u64 b, .string t] 35)) w1 := (Below.refl _ _).grown hg1 (by simp) (by intro j hj; cases hj); obtain ⟨p1, p2, p3⟩ := box_later (by simpa using hB1); clear hg1)) | (go_at_call 30; ((with_reducible refine (c1 _).mono ?_); rintro e w2 ⟨rfl, hb2⟩)))
    go_ret
    have hBw : Below w.heap.size w w1 := hB0.trans (hB1.mono (by omega))
    rw [R.out]
    exact PutIn.out ⟨own_base (own_below ho1 hb2) (by omega), hBw.trans (hb2.mono hBw.size)⟩
  · rw [hf] at c1
    have R : Hid (putV l ⟨k, b, t.data.toList⟩ = l ++ bytesV ⟨k, b, t.data.toList⟩) := by show putV _ _ = _; simp [putV, hf]
    have hk := formed_kinds hf
    clear hf
    rcases hk with rfl | rfl | rfl
    · have T : Hid (bytesV ⟨0, b, t.data.toList⟩ = [0]) := by show bytesV _ = _; simp [bytesV]
      go_enter Tryd.func46, Tryd.ntmps46
      go_upto_region 3 with (at_builtin; (refine wpList_append_bytes _ rfl _ _ 37 rfl (w.heap.size + 1) 5 i0 Tryd.underlying37 hi hz0 hz1 hz2 _ 0 [] rfl (World.ownsRow_nil _ _ _ _) w.heap.size a m l c rfl hlb (by omega) (by simp) ?_; intro v1 w1 ho1 hg1; rw [Nat.zero_add, List.nil_append] at ho1; have hB1 : Below (w.heap.size + 1) (w.alloc (.cells #[.int .i64 0, .int .u64 b, .string t] 35)) w1 := (Below.refl _ _).grown hg1 (by simp) (by intro j hj; cases hj); clear hg1))
      obtain ⟨p1, p2, p3⟩ := box_later (by simpa using hB1)
      have hs1 : w.heap.size + 1 ≤ w1.heap.size := by have := hB1.size; simpa using this
      go_upto_region 5 with (go_at_call 30; ((with_reducible refine (c1 _).mono ?_); rintro e w2 ⟨rfl, hb2⟩; have hB2 : Below (w.heap.size + 1) (w.alloc (.cells #[.int .i64 0, .int .u64 b, .string t] 35)) w2 := hB1.trans (hb2.mono hs1)))
      have ho2 := own_below ho1 hb2
      clear p1 p2 p3
      obtain ⟨p1, p2, p3⟩ := box_later (by simpa using hB2)
      have hs2 : w.heap.size + 1 ≤ w2.heap.size := Nat.le_trans hs1 hb2.size
      go_upto_region 6 with (at_builtin; (refine wpList_append_bytes _ rfl _ _ 37 rfl (w.heap.size + 1) 5 i0 Tryd.underlying37 hi hz0 hz1 hz2 _ m l rfl (ho2.alloc _) (w2.heap.size + 1) (some ⟨w2.heap.size, 0, none⟩) 1 [0] 1 rfl (BAt.one _ _ _ _ rfl) (by omega) (by simp; omega) ?_; intro v3 w3 ho3 hg3; have hB3 : Below (w.heap.size + 1) (w.alloc (.cells #[.int .i64 0, .int .u64 b, .string t] 35)) w3 := (hB2.alloc hs2 _).grown hg3 (by simp; omega) (own_block ho2); clear hg3))
      clear p1 p2 p3
      obtain ⟨p1, p2, p3⟩ := box_later (by simpa using hB3)
      have hBw : Below w.heap.size w w3 := hB0.trans (hB3.mono (by omega))
      go_wp2
      go_ret
      rw [R.out, T.out]
      exact PutIn.out ⟨own_base ho3 (by omega), hBw⟩
    · have T : Hid (bytesV ⟨1, b, t.data.toList⟩ = [1] ++ putB b (held 8)) := by show bytesV _ = _; simp [bytesV, held8]
      go_enter Tryd.func46, Tryd.ntmps46
      go_upto_region 3 with (at_builtin; (refine wpList_append_bytes _ rfl _ _ 37 rfl (w.heap.size + 1) 5 i0 Tryd.underlying37 hi hz0 hz1 hz2 _ 0 [] rfl (World.ownsRow_nil _ _ _ _) w.heap.size a m l c rfl hlb (by omega) (by simp) ?_; intro v1 w1 ho1 hg1; rw [Nat.zero_add, List.nil_append] at ho1; have hB1 : Below (w.heap.size + 1) (w.alloc (.cells #[.int .i64 1, .int .u64 b, .string t] 35)) w1 := (Below.refl _ _).grown hg1 (by simp) (by intro j hj; cases hj); clear hg1))
      obtain ⟨p1, p2, p3⟩ := box_later (by simpa using hB1)
      have hs1 : w.heap.size + 1 ≤ w1.heap.size := by have := hB1.size; simpa using this
      go_upto_region 5 with (go_at_call 30; ((with_reducible refine (c1 _).mono ?_); rintro e w2 ⟨rfl, hb2⟩; have hB2 : Below (w.heap.size + 1) (w.alloc (.cells #[.int .i64 1, .int .u64 b, .string t] 35)) w2 := hB1.trans (hb2.mono hs1)))
      have ho2 := own_below ho1 hb2
      clear p1 p2 p3
      obtain ⟨p1, p2, p3⟩ := box_later (by simpa using hB2)
      have hs2 : w.heap.size + 1 ≤ w2.heap.size := Nat.le_trans hs1 hb2.size
      go_upto_region 6 with (at_builtin; (refine wpList_append_bytes _ rfl _ _ 37 rfl (w.heap.size + 1) 5 i0 Tryd.underlying37 hi hz0 hz1 hz2 _ m l rfl (ho2.alloc _) (w2.heap.size + 1) (some ⟨w2.heap.size, 0, none⟩) 1 [1] 1 rfl (BAt.one _ _ _ _ rfl) (by omega) (by simp; omega) ?_; intro v3 w3 ho3 hg3; have hB3 : Below (w.heap.size + 1) (w.alloc (.cells #[.int .i64 1, .int .u64 b, .string t] 35)) w3 := (hB2.alloc hs2 _).grown hg3 (by simp; omega) (own_block ho2); clear hg3))
      clear p1 p2 p3
      obtain ⟨p1, p2, p3⟩ := box_later (by simpa using hB3)
      have hBw : Below w.heap.size w w3 := hB0.trans (hB3.mono (by omega))
      obtain ⟨a3, c3, rfl, _, _, _⟩ := own_form ho3
      have hb3 := BAt.of_own ho3
      go_wp2_with (go_at_call 40; ((with_reducible refine (refPut_any a3 (m + 1) c3 b 8 (l ++ [1]) _ hb3 (by omega) hb (by omega) (by omega)).mono ?_); intro e w4 hN); obtain ⟨a4, n4, c4, rfl, ho4, hb4⟩ := hN)
      go_ret
      rw [R.out, T.out]
      exact NewB.wide ⟨a4, n4, c4, rfl, ho4, hb4⟩ hBw (by simp)
    · have T : Hid (bytesV ⟨2, b, t.data.toList⟩ = [2] ++ textB t.data.toList) := by show bytesV _ = _; simp [bytesV]
      go_enter Tryd.func46, Tryd.ntmps46
      go_upto_region 3 with (at_builtin; (refine wpList_append_bytes _ rfl _ _ 37 rfl (w.heap.size + 1) 5 i0 Tryd.underlying37 hi hz0 hz1 hz2 _ 0 [] rfl (World.ownsRow_nil _ _ _ _) w.heap.size a m l c rfl hlb (by omega) (by simp) ?_; intro v1 w1 ho1 hg1; rw [Nat.zero_add, List.nil_append] at ho1; have hB1 : Below (w.heap.size + 1) (w.alloc (.cells #[.int .i64 2, .int .u64 b, .string t] 35)) w1 := (Below.refl _ _).grown hg1 (by simp) (by intro j hj; cases hj); clear hg1))
      obtain ⟨p1, p2, p3⟩ := box_later (by simpa using hB1)
      have hs1 : w.heap.size + 1 ≤ w1.heap.size := by have := hB1.size; simpa using this
      go_upto_region 5 with (go_at_call 30; ((with_reducible refine (c1 _).mono ?_); rintro e w2 ⟨rfl, hb2⟩; have hB2 : Below (w.heap.size + 1) (w.alloc (.cells #[.int .i64 2, .int .u64 b, .string t] 35)) w2 := hB1.trans (hb2.mono hs1)))
      have ho2 := own_below ho1 hb2
      clear p1 p2 p3
      obtain ⟨p1, p2, p3⟩ := box_later (by simpa using hB2)
      have hs2 : w.heap.size + 1 ≤ w2.heap.size := Nat.le_trans hs1 hb2.size
      go_upto_region 6 with (at_builtin; (refine wpList_append_bytes _ rfl _ _ 37 rfl (w.heap.size + 1) 5 i0 Tryd.underlying37 hi hz0 hz1 hz2 _ m l rfl (ho2.alloc _) (w2.heap.size + 1) (some ⟨w2.heap.size, 0, none⟩) 1 [2] 1 rfl (BAt.one _ _ _ _ rfl) (by omega) (by simp; omega) ?_; intro v3 w3 ho3 hg3; have hB3 : Below (w.heap.size + 1) (w.alloc (.cells #[.int .i64 2, .int .u64 b, .string t] 35)) w3 := (hB2.alloc hs2 _).grown hg3 (by simp; omega) (own_block ho2); clear hg3))
      clear p1 p2 p3
      obtain ⟨p1, p2, p3⟩ := box_later (by simpa using hB3)
      have hBw : Below w.heap.size w w3 := hB0.trans (hB3.mono (by omega))
      obtain ⟨a3, c3, rfl, _, _, _⟩ := own_form ho3
      have hb3 := BAt.of_own ho3
      go_wp2_with (go_at_call 45; ((with_reducible refine (refPutText_any a3 (m + 1) c3 t (l ++ [2]) _ hb3 (by omega) ht).mono ?_); intro e w4 hN); obtain ⟨a4, n4, c4, rfl, ho4, hb4⟩ := hN)
      go_ret
      rw [R.out, T.out]
      exact NewB.wide ⟨a4, n4, c4, rfl, ho4, hb4⟩ hBw (by simp)
end Go.Proofs.YtcgfhjkdgpgheaaDoor

/- ValueTake -/
namespace Go.Proofs.YtcgfhjkdgpgheaaDoor

open Go.RowKit

set_option linter.unusedVariables false

/-- The kind that is next; the value that may be next; how many bytes it has; whether it is there. -/
def tkC (l : List UInt8) : Nat := numB (l.take 1)
def tkV (l : List UInt8) : Val := if tkC l = 1 then ⟨1, numB ((l.drop 1).take 8), []⟩ else if tkC l = 2 then ⟨2, 0, ((l.drop 1).drop 2).take (textLen (l.drop 1))⟩ else ⟨tkC l, 0, []⟩
def tkN (l : List UInt8) : Nat := if tkC l = 1 then 1 + 8 else if tkC l = 2 then 1 + 2 + textLen (l.drop 1) else 1
def tkOk (l : List UInt8) : Prop := 1 ≤ l.length ∧ (tkC l = 1 → 8 ≤ (l.drop 1).length) ∧ (tkC l = 2 → textOk (l.drop 1) 40) ∧ formedB (tkV l) = true
theorem tkC_lt (l : List UInt8) : tkC l < 256 := by
  have h := numB_lt (l.take 1)
  have h2 : 256 ^ (l.take 1).length ≤ 256 ^ 1 := Nat.pow_le_pow_right (by omega) (by simp; omega)
  unfold tkC; omega
theorem num8_lt (l : List UInt8) : numB (l.take 8) < 18446744073709551616 := by
  have h := numB_lt (l.take 8)
  have h2 : 256 ^ (l.take 8).length ≤ 256 ^ 8 := Nat.pow_le_pow_right (by omega) (by simp; omega)
  omega

/-- The value that is made up. -/
def VW (W : World) (G : Nat) (k : Int) (b : Nat) (t : ByteArray) : Prop := W.heap[G]? = some (.cells #[.int .i64 k, .int .u64 (b : Nat), .string t] 35 (0, 0))
section

variable {w W W' : World} {B g k k' G : Nat} {L : List UInt8} {ok ok' : Bool} {x : Int} {b : Nat} {t : ByteArray}

theorem VW.only (h : VW W G x b t) (ho : Only g W W') (hG : g ≠ G) : VW W' G x b t := (ho.block G (lt_of_heap h) (fun e => by injection e with e; omega)).trans h
theorem VW.below (h : VW W G x b t) (hb : Below W.heap.size W W') : VW W' G x b t := (hb.block G (lt_of_heap h)).trans h
theorem VW.set1 {b' : Nat} (h : VW W G x b t) : VW (W.setCell ⟨G, 1, none⟩ (.int .u64 (b' : Nat))) G x b' t := by
  show (W.setCell _ _).heap[G]? = _; rw [set_row h]; rfl
theorem VW.set2 {t' : ByteArray} (h : VW W G x b t) : VW (W.setCell ⟨G, 2, none⟩ (.string t')) G x b t' := by
  show (W.setCell _ _).heap[G]? = _; rw [set_row h]; rfl
end
end Go.Proofs.YtcgfhjkdgpgheaaDoor

/- ValueBackMath -/
namespace Go.Proofs.YtcgfhjkdgpgheaaDoor

def encTo (f : Nat → List UInt8) : Nat → List UInt8
  | 0 => []
  | i + 1 => encTo f i ++ f i
def encFrom (f : Nat → List UInt8) (n : Nat) : Nat → List UInt8
  | 0 => []
  | r + 1 => f (n - (r + 1)) ++ encFrom f n r
theorem enc_all (f : Nat → List UInt8) (n : Nat) : ∀ r, r ≤ n → encTo f (n - r) ++ encFrom f n r = encTo f n
  | 0, _ => by simp [encFrom]
  | r + 1, h => by
    have ih := enc_all f n r (by omega)
    have e : n - r = (n - (r + 1)) + 1 := by omega
    rw [e, encTo] at ih
    rw [encFrom, ← List.append_assoc]; exact ih
theorem enc_start (f : Nat → List UInt8) (n : Nat) : encTo f n = encFrom f n n := by
  have := enc_all f n n (Nat.le_refl _)
  rw [Nat.sub_self] at this
  simpa [encTo] using this.symm
theorem enc_step (f : Nat → List UInt8) (n i : Nat) (h : i < n) : encFrom f n (n - i) = f i ++ encFrom f n (n - (i + 1)) := by
  have e : n - i = (n - (i + 1)) + 1 := by omega
  rw [e, encFrom]
  have e2 : n - (n - (i + 1) + 1) = i := by omega
  rw [e2]
theorem encTo_len (f : Nat → List UInt8) (i : Nat) (h : ∀ j, j < i → (f j).length ≤ 2000) : (encTo f i).length ≤ i * 2000 := by
  induction i with
  | zero => simp [encTo]
  | succ i ih =>
    have h1 := ih (fun j hj => h j (by omega))
    have h2 := h i (by omega)
    rw [encTo, List.length_append]; omega

theorem drop1_cons (x : UInt8) (l : List UInt8) : (x :: l).drop 1 = l := rfl
theorem tkC_cons (x : UInt8) (l : List UInt8) : tkC (x :: l) = x.toNat := by
  unfold tkC
  show numB [x] = _
  simp [numB]
theorem text_back (t R : List UInt8) (h : t.length ≤ 1000) : textLen (textB t ++ R) = t.length ∧ ((textB t ++ R).drop 2).take t.length = t ∧ ((textB t ++ R).drop 2).drop t.length = R := by
  have ht : t.take 65535 = t := List.take_of_length_le (by omega)
  have hm : min t.length 65535 = t.length := by omega
  have e : textB t ++ R = putB t.length 2 ++ (t ++ R) := by rw [textB, ht, hm, List.append_assoc]
  rw [e]
  have hp := putB_len t.length 2
  refine ⟨?_, ?_, ?_⟩
  · rw [textLen, take_app _ _ 2 hp, numB_put]; exact Nat.mod_eq_of_lt (by omega)
  · rw [drop_app _ _ 2 hp, take_app _ _ _ rfl]
  · rw [drop_app _ _ 2 hp, drop_app _ _ _ rfl]
/-- A formed value's bytes, with anything behind them, are taken as that value. -/
theorem take_back (v : Val) (R : List UInt8) (hb : v.b < 18446744073709551616) (hf : formedB v = true) :
    tkOk (bytesV v ++ R) ∧ tkV (bytesV v ++ R) = v ∧ (bytesV v ++ R).drop (tkN (bytesV v ++ R)) = R := by
  obtain ⟨k, b, t⟩ := v
  rcases formed_kinds hf with rfl | rfl | rfl
  · have hf' := hf
    rw [formed_none, Bool.and_eq_true] at hf'
    have hb0 : b = 0 := of_decide_eq_true hf'.1
    have ht : t = [] := List.isEmpty_iff.1 hf'.2
    subst hb0; subst ht
    have hc : tkC (bytesV ⟨0, 0, []⟩ ++ R) = 0 := tkC_cons 0 R
    have hv : tkV (bytesV ⟨0, 0, []⟩ ++ R) = ⟨0, 0, []⟩ := by unfold tkV; rw [hc]; rfl
    have hn : tkN (bytesV ⟨0, 0, []⟩ ++ R) = 1 := by unfold tkN; rw [hc]; rfl
    refine ⟨⟨by simp [bytesV], fun e => by omega, fun e => by omega, by rw [hv]; exact hf⟩, hv, by rw [hn]; rfl⟩
  · have hf' := hf
    rw [formed_num, Bool.and_eq_true] at hf'
    have ht : t = [] := List.isEmpty_iff.1 hf'.1
    subst ht
    have hB : bytesV ⟨1, b, []⟩ ++ R = 1 :: (putB b 8 ++ R) := by simp [bytesV]
    have hp := putB_len b 8
    have h8 : (256 : Nat) ^ 8 = 18446744073709551616 := by decide
    rw [hB]
    have hc : tkC (1 :: (putB b 8 ++ R)) = 1 := tkC_cons 1 _
    have hx : numB (((1 :: (putB b 8 ++ R)).drop 1).take 8) = b := by
      rw [drop1_cons, take_app _ _ 8 hp, numB_put, h8]; exact Nat.mod_eq_of_lt hb
    have hv : tkV (1 :: (putB b 8 ++ R)) = ⟨1, b, []⟩ := by unfold tkV; rw [if_pos hc, hx]
    have hn : tkN (1 :: (putB b 8 ++ R)) = 1 + 8 := by unfold tkN; rw [if_pos hc]
    refine ⟨⟨by simp, fun _ => by rw [drop1_cons, List.length_append, hp]; omega, fun e => by omega, by rw [hv]; exact hf⟩, hv, ?_⟩
    rw [hn, ← List.drop_drop, drop1_cons, drop_app _ _ 8 hp]
  · have hf' := hf
    rw [formed_text, Bool.and_eq_true, Bool.and_eq_true] at hf'
    have hb0 : b = 0 := of_decide_eq_true hf'.1.1
    have h40 : t.length ≤ 40 := of_decide_eq_true hf'.1.2
    subst hb0
    have hB : bytesV ⟨2, 0, t⟩ ++ R = 2 :: (textB t ++ R) := by simp [bytesV]
    obtain ⟨t1, t2, t3⟩ := text_back t R (by omega)
    rw [hB]
    have hc : tkC (2 :: (textB t ++ R)) = 2 := tkC_cons 2 _
    have hv : tkV (2 :: (textB t ++ R)) = ⟨2, 0, t⟩ := by unfold tkV; rw [if_neg (by omega), if_pos hc, drop1_cons, t1, t2]
    have hn : tkN (2 :: (textB t ++ R)) = 1 + 2 + t.length := by unfold tkN; rw [if_neg (by omega), if_pos hc, drop1_cons, t1]
    refine ⟨⟨by simp, fun e => by omega, fun _ => ?_, by rw [hv]; exact hf⟩, hv, ?_⟩
    · rw [drop1_cons]
      refine ⟨by rw [List.length_append, textB_len]; omega, by rw [t1]; omega, by rw [t1, List.length_append, textB_len]; omega⟩
    · rw [hn, ← List.drop_drop, ← List.drop_drop, drop1_cons, t3]
end Go.Proofs.YtcgfhjkdgpgheaaDoor

/- ValuePrs -/
namespace Go.Proofs.YtcgfhjkdgpgheaaDoor

noncomputable def valP : Prs Val := open Classical in fun l => if tkOk l then some (tkV l, l.drop (tkN l)) else none
theorem valP_yes {l : List UInt8} (h : tkOk l) : valP l = some (tkV l, l.drop (tkN l)) := by unfold valP; rw [if_pos h]
theorem valP_no {l : List UInt8} (h : ¬ tkOk l) : valP l = none := by unfold valP; rw [if_neg h]
theorem ext_val : ExtP valP := by
  intro l x r s h
  by_cases hk : tkOk l
  · rw [valP_yes hk] at h
    injection h with h; injection h with h1 h2
    obtain ⟨k1, k2, k3, k4⟩ := hk
    have eC : tkC (l ++ s) = tkC l := by unfold tkC; rw [List.take_append_of_le_length k1]
    have eD : (l ++ s).drop 1 = l.drop 1 ++ s := List.drop_append_of_le_length k1
    have key : tkV (l ++ s) = tkV l ∧ tkN (l ++ s) = tkN l ∧ tkN l ≤ l.length := by
      unfold tkV tkN
      rw [eC, eD]
      by_cases c1 : tkC l = 1
      · have h8 := k2 c1
        rw [if_pos c1, if_pos c1, if_pos c1, if_pos c1, List.take_append_of_le_length h8]
        refine ⟨rfl, rfl, ?_⟩
        rw [List.length_drop] at h8; omega
      · rw [if_neg c1, if_neg c1, if_neg c1, if_neg c1]
        by_cases c2 : tkC l = 2
        · obtain ⟨t1, t2, t3⟩ := k3 c2
          have e1 : textLen (l.drop 1 ++ s) = textLen (l.drop 1) := by unfold textLen; rw [List.take_append_of_le_length t1]
          rw [if_pos c2, if_pos c2, if_pos c2, if_pos c2, e1, List.drop_append_of_le_length t1, List.take_append_of_le_length (by rw [List.length_drop]; omega)]
          refine ⟨rfl, rfl, ?_⟩
          rw [List.length_drop] at t3; omega
        · rw [if_neg c2, if_neg c2, if_neg c2, if_neg c2]
          exact ⟨rfl, rfl, k1⟩
    obtain ⟨eV, eN, hN⟩ := key
    have hk' : tkOk (l ++ s) := by
      refine ⟨by rw [List.length_append]; omega, fun c => ?_, fun c => ?_, by rw [eV]; exact k4⟩
      · rw [eC] at c
        have := k2 c
        rw [eD, List.length_append]; omega
      · rw [eC] at c
        obtain ⟨t1, t2, t3⟩ := k3 c
        rw [eD]
        have e1 : textLen (l.drop 1 ++ s) = textLen (l.drop 1) := by unfold textLen; rw [List.take_append_of_le_length t1]
        exact ⟨by rw [List.length_append]; omega, by rw [e1]; exact t2, by rw [e1, List.length_append]; omega⟩
    rw [valP_yes hk', eV, eN, List.drop_append_of_le_length hN, h1, h2]
  · rw [valP_no hk] at h; cases h
theorem back_val (v : Val) (R : List UInt8) (h : v.b < 18446744073709551616 ∧ formedB v = true) : valP (bytesV v ++ R) = some (v, R) := by
  obtain ⟨h1, h2, h3⟩ := take_back v R h.1 h.2
  rw [valP_yes h1, h2, h3]
end Go.Proofs.YtcgfhjkdgpgheaaDoor
