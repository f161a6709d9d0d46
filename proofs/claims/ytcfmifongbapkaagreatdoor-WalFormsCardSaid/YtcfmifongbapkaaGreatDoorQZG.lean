
/- Contract of the program's Take of values. Conditions: its reader lies in memory; utf8's tables hold what they hold. Boxes made after others; a transaction in memory while a box is written to. No condition. Contracts of txn.TakeId, takeReads, takeWrites. Conditions: the reader lies in memory; the tables of utf8 lie there. -/
import Derived.Test.YtcfmifongbapkaaGreatDoorQF
import Derived.Test.YtcfmifongbapkaaGreatDoorQZ
import Derived.Test.YtcfmifongbapkaaGreatDoorQW
import Derived.Test.YtcfmifongbapkaaGreatDoorQG
import Derived.Test.YtcfmifongbapkaaGreatDoorQZC
import Derived.Test.YtcfmifongbapkaaGreatDoorQL
import Derived.Test.YtcfmifongbapkaaGreatDoorQH
/- ValueTk -/
namespace Go.Proofs.YtcfmifongbapkaaGreatDoor

open Go.RowKit

set_option linter.unusedVariables false

/-- What holds while a value is taken: the reader, and the answer's cell. -/
def FW (w W : World) (g : Nat) (l : List UInt8) (ok : Bool) : Prop :=
  RdAt W g l ok ∧ Only g w W ∧ W.heap[w.heap.size]? = some (.cells #[.int .i64 0, .int .u64 0, .string ⟨#[]⟩] 155 (0, 0)) ∧ g < w.heap.size
section

variable {w W W' : World} {g : Nat} {l l' : List UInt8} {ok ok' : Bool}

theorem FW.start (h : RdAt w g l ok) : FW w (w.alloc (.cells #[.int .i64 0, .int .u64 0, .string ⟨#[]⟩] 155)) g l ok :=
  ⟨h.keep fun b hb => Below.heap_alloc _ _ _ (by have := h.lt; omega), ⟨rfl, rfl, rfl, by simp, fun b hb _ => Below.heap_alloc _ _ _ hb⟩, heap_alloc_new _ _, h.lt⟩
theorem FW.rd (h : FW w W g l ok) : RdAt W g l ok := h.1
theorem FW.size (h : FW w W g l ok) : w.heap.size < W.heap.size := lt_of_heap h.2.2.1
theorem FW.only (h : FW w W g l ok) (hr : RdAt W' g l' ok') (ho : Only g W W') : FW w W' g l' ok' :=
  ⟨hr, h.2.1.trans ho, (ho.block _ h.size (fun e => by injection e with e; have := h.2.2.2; omega)).trans h.2.2.1, h.2.2.2⟩
theorem FW.below (h : FW w W g l ok) (hb : Below W.heap.size W W') : FW w W' g l ok :=
  h.only (h.1.below hb) ⟨hb.os, hb.tape, hb.output, hb.size, fun b hb' _ => hb.block _ hb'⟩
theorem FW.out (h : FW w W g l ok) (u v z : Value) : RdAt (((W.setCell ⟨w.heap.size, 0, none⟩ u).setCell ⟨w.heap.size, 1, none⟩ v).setCell ⟨w.heap.size, 2, none⟩ z) g l ok ∧ Only g w (((W.setCell ⟨w.heap.size, 0, none⟩ u).setCell ⟨w.heap.size, 1, none⟩ v).setCell ⟨w.heap.size, 2, none⟩ z) := by
  have hb : ∀ b, b < w.heap.size → (((W.setCell ⟨w.heap.size, 0, none⟩ u).setCell ⟨w.heap.size, 1, none⟩ v).setCell ⟨w.heap.size, 2, none⟩ z).heap[b]? = W.heap[b]? := by
    intro b hb
    rw [Below.heap_setCell _ _ _ _ (by show b ≠ w.heap.size; omega), Below.heap_setCell _ _ _ _ (by show b ≠ w.heap.size; omega), Below.heap_setCell _ _ _ _ (by show b ≠ w.heap.size; omega)]
  have hg := h.2.2.2
  refine ⟨h.1.keep fun b hb' => hb b (by omega), ⟨h.2.1.os, h.2.1.tape, h.2.1.output, by have := h.2.1.size; simpa [World.setCell] using this, fun b hb' hne => (hb b hb').trans (h.2.1.block b hb' hne)⟩⟩
theorem FW.cells (h : FW w W g l ok) : W.cell? ⟨w.heap.size, 0, none⟩ = some (.int .i64 0) ∧ W.cell? ⟨w.heap.size, 1, none⟩ = some (.int .u64 0) ∧ W.cell? ⟨w.heap.size, 2, none⟩ = some (.string ⟨#[]⟩) ∧ W.frozen? ⟨w.heap.size, 0, none⟩ = false ∧ W.frozen? ⟨w.heap.size, 1, none⟩ = false ∧ W.frozen? ⟨w.heap.size, 2, none⟩ = false := three_cells h.2.2.1
end

/-- A value is answered, and the reader is as it is. -/
def Got (g : Nat) (r : List UInt8) (ok : Bool) (k : Int) (b : Nat) (t : ByteArray) (w : World) (e : Ending) (w' : World) : Prop :=
  e = .returned (.agg #[.int .i64 k, .int .u64 (b : Nat), .string t]) ∧ RdAt w' g r ok ∧ Only g w w'
set_option maxHeartbeats 1000000 in
theorem fields_num (g : Nat) (l r1 r2 : List UInt8) (ok ok1 ok2 : Bool) (w : World) (h : RdAt w g l ok) (x : Nat) (c1 : ∀ W, RdAt W g l ok → Calls Tryz.prog 80 #[.pointer (some ⟨g, 0, none⟩), .int .i64 1] W fun e w' => e = .returned (.int .u64 1) ∧ RdAt w' g r1 ok1 ∧ Only g W w')
    (c8 : ∀ W, RdAt W g r1 ok1 → Calls Tryz.prog 80 #[.pointer (some ⟨g, 0, none⟩), .int .i64 8] W fun e w' => e = .returned (.int .u64 (x : Nat)) ∧ RdAt w' g r2 ok2 ∧ Only g W w') :
    Calls Tryz.prog 157 #[.pointer (some ⟨g, 0, none⟩)] w (Got g r2 ok2 1 x ⟨#[]⟩ w) := by
  have F0 := Lib.hid (FW.start h)
  clear h
  go_enter Tryz.func157, Tryz.ntmps157
  go_wp2_with (first | (go_at_call 80; ((with_reducible refine (c1 _ F0.out.rd).mono ?_); rintro e w1 ⟨rfl, hr1, ho1⟩; have F1 := Lib.hid (F0.out.only hr1 ho1))) | (go_at_call 80; ((with_reducible refine (c8 _ F1.out.rd).mono ?_); rintro e w2 ⟨rfl, hr2, ho2⟩; have F2 := Lib.hid (F1.out.only hr2 ho2))) | (go_at_call 146; ((with_reducible refine (number_any x _).mono ?_); rintro e w3 ⟨rfl, hb3⟩; have F3 := Lib.hid (F2.out.below hb3); obtain ⟨m0, m1, m2, n0, n1, n2⟩ := F3.out.cells)))
  exact bodyPost_ret (v := .agg #[.int .i64 1, .int .u64 x, .string ⟨#[]⟩]) (by simp [results, Tryz.results157, go_sem, m0, m1, m2]) rfl ⟨rfl, (F3.out.out _ _ _).1, (F3.out.out _ _ _).2⟩
set_option maxHeartbeats 1000000 in
theorem fields_text (g : Nat) (l r1 r2 : List UInt8) (ok ok1 ok2 : Bool) (w : World) (h : RdAt w g l ok) (S : ByteArray) (c1 : ∀ W, RdAt W g l ok → Calls Tryz.prog 80 #[.pointer (some ⟨g, 0, none⟩), .int .i64 1] W fun e w' => e = .returned (.int .u64 2) ∧ RdAt w' g r1 ok1 ∧ Only g W w')
    (c8 : ∀ W, RdAt W g r1 ok1 → Calls Tryz.prog 151 #[.pointer (some ⟨g, 0, none⟩), .int .i64 40] W fun e w' => e = .returned (.string S) ∧ RdAt w' g r2 ok2 ∧ Only g W w') :
    Calls Tryz.prog 157 #[.pointer (some ⟨g, 0, none⟩)] w (Got g r2 ok2 2 0 S w) := by
  have F0 := Lib.hid (FW.start h)
  clear h
  go_enter Tryz.func157, Tryz.ntmps157
  go_wp2_with (first | (go_at_call 80; ((with_reducible refine (c1 _ F0.out.rd).mono ?_); rintro e w1 ⟨rfl, hr1, ho1⟩; have F1 := Lib.hid (F0.out.only hr1 ho1))) | (go_at_call 151; ((with_reducible refine (c8 _ F1.out.rd).mono ?_); rintro e w2 ⟨rfl, hr2, ho2⟩; have F2 := Lib.hid (F1.out.only hr2 ho2))) | (go_at_call 148; ((with_reducible refine (text_any S _).mono ?_); rintro e w3 ⟨rfl, hb3⟩; have F3 := Lib.hid (F2.out.below hb3); obtain ⟨m0, m1, m2, n0, n1, n2⟩ := F3.out.cells)))
  exact bodyPost_ret (v := .agg #[.int .i64 2, .int .u64 0, .string S]) (by simp [results, Tryz.results157, go_sem, m0, m1, m2]) rfl ⟨rfl, (F3.out.out _ _ _).1, (F3.out.out _ _ _).2⟩
set_option maxHeartbeats 1000000 in
theorem fields_other (g : Nat) (l r1 : List UInt8) (ok ok1 : Bool) (w : World) (h : RdAt w g l ok) (c : Nat) (hc : c < 256) (h1 : c ≠ 1) (h2 : c ≠ 2) (c1 : ∀ W, RdAt W g l ok → Calls Tryz.prog 80 #[.pointer (some ⟨g, 0, none⟩), .int .i64 1] W fun e w' => e = .returned (.int .u64 (c : Nat)) ∧ RdAt w' g r1 ok1 ∧ Only g W w') :
    Calls Tryz.prog 157 #[.pointer (some ⟨g, 0, none⟩)] w (Got g r1 ok1 c 0 ⟨#[]⟩ w) := by
  have F0 := Lib.hid (FW.start h)
  have q1 : ((c : Int) == 1) = false := by simp; omega
  have q2 : ((c : Int) == 2) = false := by simp; omega
  clear h
  go_enter Tryz.func157, Tryz.ntmps157
  go_wp2_with (go_at_call 80; ((with_reducible refine (c1 _ F0.out.rd).mono ?_); rintro e w1 ⟨rfl, hr1, ho1⟩; have F1 := Lib.hid (F0.out.only hr1 ho1); obtain ⟨m0, m1, m2, n0, n1, n2⟩ := F1.out.cells))
  exact bodyPost_ret (v := .agg #[.int .i64 c, .int .u64 0, .string ⟨#[]⟩]) (by simp [results, Tryz.results157, go_sem, m0, m1, m2]) rfl ⟨rfl, (F1.out.out _ _ _).1, (F1.out.out _ _ _).2⟩

theorem rtake1_yes (g : Nat) (l : List UInt8) (w : World) (h : RdAt w g l true) (h1 : 1 ≤ l.length) (c : Nat) (hc : tkC l = c) :
    Calls Tryz.prog 80 #[.pointer (some ⟨g, 0, none⟩), .int .i64 1] w fun e w' => e = .returned (.int .u64 (c : Nat)) ∧ RdAt w' g (l.drop 1) true ∧ Only g w w' := by
  have := take_yes g l 1 w h h1 (by omega)
  rw [show numB (l.take 1) = c from hc] at this
  exact this
theorem rtake8_yes (g : Nat) (l : List UInt8) (w : World) (h : RdAt w g l true) (h8 : 8 ≤ l.length) :
    Calls Tryz.prog 80 #[.pointer (some ⟨g, 0, none⟩), .int .i64 8] w fun e w' => e = .returned (.int .u64 (numB (l.take 8) : Nat)) ∧ RdAt w' g (l.drop 8) true ∧ Only g w w' := take_yes g l 8 w h h8 (by omega)

/-- What the program takes of a value, formed or not. -/
def Fields (g : Nat) (l : List UInt8) (ok : Bool) (w : World) (e : Ending) (w' : World) : Prop :=
  ∃ (k : Int) (b : Nat) (t : ByteArray) (r : List UInt8) (ok' : Bool), Got g r ok' k b t w e w' ∧ b < 18446744073709551616 ∧ t.size ≤ maxLen ∧
    ((ok = true ∧ tkOk l) → (⟨k, b, t.data.toList⟩ : Val) = tkV l ∧ r = l.drop (tkN l) ∧ ok' = true) ∧ (¬ (ok = true ∧ tkOk l) → ok' = false ∨ formedB ⟨k, b, t.data.toList⟩ = false)
theorem vfields_any (g : Nat) (l : List UInt8) (ok : Bool) (w : World) (h : RdAt w g l ok) : Calls Tryz.prog 157 #[.pointer (some ⟨g, 0, none⟩)] w (Fields g l ok w) := by
  by_cases h1 : ok = true ∧ 1 ≤ l.length
  · obtain ⟨rfl, h1⟩ := h1
    have hc256 := tkC_lt l
    by_cases k1 : tkC l = 1
    · have ev : tkV l = ⟨1, numB ((l.drop 1).take 8), []⟩ := by simp [tkV, k1]
      have en : tkN l = 1 + 8 := by simp [tkN, k1]
      by_cases h8 : 8 ≤ (l.drop 1).length
      · refine (fields_num g l (l.drop 1) ((l.drop 1).drop 8) true true true w h _ (fun W hW => rtake1_yes g l W hW h1 1 k1) (fun W hW => rtake8_yes g (l.drop 1) W hW h8)).mono fun e w' hg => ?_
        refine ⟨_, _, _, _, _, hg, num8_lt _, by decide, fun _ => ⟨ev.symm, by rw [en, List.drop_drop], rfl⟩, fun hn => .inr ?_⟩
        cases hf : formedB ⟨1, numB ((l.drop 1).take 8), (⟨#[]⟩ : ByteArray).data.toList⟩
        · rfl
        · exact absurd ⟨rfl, h1, fun _ => h8, fun e => by omega, by rw [ev]; exact hf⟩ hn
      · refine (fields_num g l (l.drop 1) [] true true false w h 0 (fun W hW => rtake1_yes g l W hW h1 1 k1) (fun W hW => take_no g (l.drop 1) true 8 W hW (.inr (.inr (.inr (by omega)))))).mono fun e w' hg => ?_
        exact ⟨_, _, _, _, _, hg, by omega, by decide, fun hy => absurd (hy.2.2.1 k1) h8, fun _ => .inl rfl⟩
    · by_cases k2 : tkC l = 2
      · have ev : tkV l = ⟨2, 0, ((l.drop 1).drop 2).take (textLen (l.drop 1))⟩ := by simp [tkV, k2]
        have en : tkN l = 1 + 2 + textLen (l.drop 1) := by simp [tkN, k2]
        by_cases hT : textOk (l.drop 1) 40
        · refine (fields_text g l (l.drop 1) (((l.drop 1).drop 2).drop (textLen (l.drop 1))) true true true w h ⟨(((l.drop 1).drop 2).take (textLen (l.drop 1))).toArray⟩ (fun W hW => rtake1_yes g l W hW h1 2 k2) (fun W hW => takeText_yes g (l.drop 1) 40 W hW hT)).mono fun e w' hg => ?_
          refine ⟨_, _, _, _, _, hg, by omega, ?_, fun _ => ⟨ev.symm, by rw [en, List.drop_drop, List.drop_drop, Nat.add_assoc], rfl⟩, fun hn => .inr ?_⟩
          · show (((l.drop 1).drop 2).take (textLen (l.drop 1))).toArray.size ≤ maxLen
            rw [List.size_toArray, List.length_take]
            have := textLen_lt (l.drop 1)
            unfold maxLen; omega
          · cases hf : formedB ⟨2, 0, (⟨(((l.drop 1).drop 2).take (textLen (l.drop 1))).toArray⟩ : ByteArray).data.toList⟩
            · rfl
            · exact absurd ⟨rfl, h1, fun e => by omega, fun _ => hT, by rw [ev]; exact hf⟩ hn
        · refine (fields_text g l (l.drop 1) [] true true false w h ⟨#[]⟩ (fun W hW => rtake1_yes g l W hW h1 2 k2) (fun W hW => takeText_no g (l.drop 1) true 40 W hW (fun e => hT e.2))).mono fun e w' hg => ?_
          exact ⟨_, _, _, _, _, hg, by omega, by decide, fun hy => absurd (hy.2.2.2.1 k2) hT, fun _ => .inl rfl⟩
      · have ev : tkV l = ⟨tkC l, 0, []⟩ := by simp [tkV, k1, k2]
        have en : tkN l = 1 := by simp [tkN, k1, k2]
        refine (fields_other g l (l.drop 1) true true w h (tkC l) hc256 k1 k2 (fun W hW => rtake1_yes g l W hW h1 _ rfl)).mono fun e w' hg => ?_
        refine ⟨_, _, _, _, _, hg, by omega, by decide, fun _ => ⟨ev.symm, by rw [en], rfl⟩, fun hn => .inr ?_⟩
        cases hf : formedB ⟨tkC l, 0, (⟨#[]⟩ : ByteArray).data.toList⟩
        · rfl
        · exact absurd ⟨rfl, h1, fun e => absurd e k1, fun e => absurd e k2, by rw [ev]; exact hf⟩ hn
  · have hbad : ok = false ∨ (1 : Int) < 0 ∨ (8 : Int) < 1 ∨ ((l.length : Nat) : Int) < 1 := by
      cases ok
      · exact .inl rfl
      · right; right; right
        have : ¬ 1 ≤ l.length := fun e => h1 ⟨rfl, e⟩
        omega
    refine (fields_other g l [] ok false w h 0 (by omega) (by omega) (by omega) (fun W hW => take_no g l ok 1 W hW hbad)).mono fun e w' hg => ?_
    exact ⟨_, _, _, _, _, hg, by omega, by decide, fun hy => absurd ⟨hy.1, hy.2.1⟩ h1, fun _ => .inl rfl⟩

theorem vfail_any (g : Nat) (l : List UInt8) (ok : Bool) (w : World) (h : RdAt w g l ok) :
    Calls Tryz.prog 158 #[.pointer (some ⟨g, 0, none⟩)] w fun e w' => e = .returned (.tuple #[]) ∧ RdAt w' g [] false ∧ Only g w w' := by
  have c := take_no g l ok (-1) w h (.inr (.inl (by omega)))
  go_enter Tryz.func158, Tryz.ntmps158
  go_wp2_with (go_at_call 80; ((with_reducible refine c.mono ?_); rintro e w1 ⟨rfl, hr1, ho1⟩))
  go_end0
  exact ⟨rfl, hr1, ho1⟩

/-- The reader, the answer's cell and the value's. -/
theorem FW.box {w w1 : World} {g : Nat} {r : List UInt8} {ok : Bool} (h : FW w w1 g r ok) (k : Int) (b : Nat) (t : ByteArray) :
    FW w (w1.alloc (.cells #[.int .i64 k, .int .u64 (b : Nat), .string t] 155)) g r ok ∧ VW (w1.alloc (.cells #[.int .i64 k, .int .u64 (b : Nat), .string t] 155)) w1.heap.size k b t ∧ g ≠ w1.heap.size :=
  ⟨h.below ((Below.refl _ _).alloc (Nat.le_refl _) _), heap_alloc_new _ _, by have := h.1.lt; omega⟩
theorem Tabs.only {W W' : World} {g : Nat} {l : List UInt8} {ok : Bool} (h : Tabs W) (hr : RdAt W g l ok) (ho : Only g W W') : Tabs W' := by
  have key : ∀ {p : Addr} {k : IntKind} {v : Int}, W.cell? p = some (.int k v) → W'.cell? p = some (.int k v) := fun {p k v} hp =>
    (World.cell?_of_block (ho.block p.block (block_lt hp) (fun e => by injection e with e; exact hr.not_int hp e))).trans hp
  exact ⟨fun c hc => key (h.1 c hc), fun i hi => ⟨key (h.2 i hi).1, key (h.2 i hi).2⟩⟩

set_option maxHeartbeats 1000000 in
theorem takeV_yes (g : Nat) (l : List UInt8) (w : World) (h : RdAt w g l true) (hk : tkOk l) (hT : Tabs w) (k : Int) (b : Nat) (t : ByteArray) (hv : (⟨k, b, t.data.toList⟩ : Val) = tkV l) :
    Calls Tryz.prog 152 #[.pointer (some ⟨g, 0, none⟩)] w (Got g (l.drop (tkN l)) true k b t w) := by
  have F0 := Lib.hid (FW.start h)
  have HT := Lib.hid hT
  have HR0 := Lib.hid h
  have cF : ∀ W, RdAt W g l true → Calls Tryz.prog 157 #[.pointer (some ⟨g, 0, none⟩)] W fun e w' => e = .returned (.agg #[.int .i64 k, .int .u64 (b : Nat), .string t]) ∧ b < 18446744073709551616 ∧ t.size ≤ maxLen ∧ RdAt w' g (l.drop (tkN l)) true ∧ Only g W w' := fun W hW => by
    refine (vfields_any g l true W hW).mono ?_
    rintro e w' ⟨k', b', t', r, ok', ⟨he, hr, ho⟩, hb, ht, hy, _⟩
    obtain ⟨e1, rfl, rfl⟩ := hy ⟨rfl, hk⟩
    rw [← hv] at e1
    injection e1 with e1 e2 e3
    subst e1; subst e2
    obtain rfl : t' = t := WideShapes.bytes_inj e3
    exact ⟨he, hb, ht, hr, ho⟩
  have hf : formedB ⟨k, b, t.data.toList⟩ = true := by rw [hv]; exact hk.2.2.2
  have cV : ∀ W, b < 18446744073709551616 → t.size ≤ maxLen → Tabs W → Calls Tryz.prog 135 #[.agg #[.int .i64 k, .int .u64 b, .string t]] W fun e w' => e = .returned (.bool true) ∧ Below W.heap.size W w' := fun W h1 h2 h3 => by
    have := formed_any k b t W h1 h2 h3
    rw [hf] at this; exact this
  clear hf hv hT h hk
  generalize l.drop (tkN l) = r at *
  go_enter Tryz.func152, Tryz.ntmps152
  go_upto_region 2 with (go_at_call 157; ((with_reducible refine (cF _ F0.out.rd).mono ?_); rintro e w1 ⟨rfl, hb, ht, hr1, ho1⟩))
  have T1 : Tabs (w1.alloc (.cells #[.int .i64 k, .int .u64 b, .string t] 155)) := (HT.out.only HR0.out (F0.out.only hr1 ho1).2.1).below ((Below.refl _ _).alloc (Nat.le_refl _) _)
  have P1 := Lib.hid ((F0.out.only hr1 ho1).box k b t)
  clear cF hr1 ho1
  generalize w1.alloc (.cells #[.int .i64 k, .int .u64 b, .string t] 155) = W at *
  generalize w1.heap.size = G at *
  have HT1 := Lib.hid T1
  clear T1
  obtain ⟨o0, o1, o2, _, _, _⟩ := three_cells P1.out.2.1
  go_wp2_with (first | (go_at_call 135; ((with_reducible refine (cV _ hb ht HT1.out).mono ?_); rintro e w2 ⟨rfl, hb2⟩; have F2 := Lib.hid (P1.out.1.below hb2); obtain ⟨m0, m1, m2, n0, n1, n2⟩ := F2.out.cells; obtain ⟨o0, o1, o2, _, _, _⟩ := three_cells (P1.out.2.1.below hb2))) | (go_at_call 85; ((with_reducible refine (ok_any g r true _ F2.out.rd).mono ?_); rintro e w' ⟨rfl, rfl⟩)))
  exact bodyPost_ret (v := .agg #[.int .i64 k, .int .u64 b, .string t]) (by simp [results, Tryz.results152, go_sem, m0, m1, m2]) rfl ⟨rfl, (F2.out.out _ _ _).1, (F2.out.out _ _ _).2⟩

set_option maxHeartbeats 1000000 in
theorem takeV_no (g : Nat) (l : List UInt8) (ok : Bool) (w : World) (h : RdAt w g l ok) (hk : ¬ (ok = true ∧ tkOk l)) (hT : Tabs w) :
    Calls Tryz.prog 152 #[.pointer (some ⟨g, 0, none⟩)] w (Got g [] false 0 0 ⟨#[]⟩ w) := by
  have F0 := Lib.hid (FW.start h)
  have HT := Lib.hid hT
  have HR0 := Lib.hid h
  have cF : ∀ W, RdAt W g l ok → Calls Tryz.prog 157 #[.pointer (some ⟨g, 0, none⟩)] W fun e w' => ∃ (k : Int) (b : Nat) (t : ByteArray) (r : List UInt8) (ok' : Bool), e = .returned (.agg #[.int .i64 k, .int .u64 (b : Nat), .string t]) ∧ b < 18446744073709551616 ∧ t.size ≤ maxLen ∧ (ok' = false ∨ formedB ⟨k, b, t.data.toList⟩ = false) ∧ RdAt w' g r ok' ∧ Only g W w' := fun W hW => by
    refine (vfields_any g l ok W hW).mono ?_
    rintro e w' ⟨k', b', t', r, ok', ⟨he, hr, ho⟩, hb, ht, _, hn⟩
    exact ⟨k', b', t', r, ok', he, hb, ht, hn hk, hr, ho⟩
  clear hT h hk
  go_enter Tryz.func152, Tryz.ntmps152
  go_upto_region 2 with (go_at_call 157; ((with_reducible refine (cF _ F0.out.rd).mono ?_); rintro e w1 ⟨k, b, t, r, ok', rfl, hb, ht, hn, hr1, ho1⟩))
  have T1 : Tabs (w1.alloc (.cells #[.int .i64 k, .int .u64 b, .string t] 155)) := (HT.out.only HR0.out (F0.out.only hr1 ho1).2.1).below ((Below.refl _ _).alloc (Nat.le_refl _) _)
  have P1 := Lib.hid ((F0.out.only hr1 ho1).box k b t)
  clear cF hr1 ho1
  generalize w1.alloc (.cells #[.int .i64 k, .int .u64 b, .string t] 155) = W at *
  generalize w1.heap.size = G at *
  have cV := formed_any k b t W hb ht T1
  clear T1
  obtain ⟨o0, o1, o2, _, _, _⟩ := three_cells P1.out.2.1
  cases hf : formedB ⟨k, b, t.data.toList⟩
  · rw [hf] at cV
    clear hf hn
    go_wp2_with (first | (go_at_call 135; ((with_reducible refine cV.mono ?_); rintro e w2 ⟨rfl, hb2⟩; have F2 := Lib.hid (P1.out.1.below hb2))) | (go_at_call 158; ((with_reducible refine (vfail_any g r ok' _ F2.out.rd).mono ?_); rintro e w3 ⟨rfl, hr3, ho3⟩; have F3 := Lib.hid (F2.out.only hr3 ho3); obtain ⟨m0, m1, m2, n0, n1, n2⟩ := F3.out.cells)) | (go_at_call 85; ((with_reducible refine (ok_any g [] false _ F3.out.rd).mono ?_); rintro e w' ⟨rfl, rfl⟩)))
    exact bodyPost_ret (v := .agg #[.int .i64 0, .int .u64 0, .string ⟨#[]⟩]) (by simp [results, Tryz.results152, go_sem, m0, m1, m2]) rfl ⟨rfl, (F3.out.out _ _ _).1, (F3.out.out _ _ _).2⟩
  · rw [hf] at cV hn
    obtain rfl : ok' = false := by
      rcases hn with e | e
      · exact e
      · cases e
    obtain rfl : r = [] := by
      obtain ⟨_, _, _, _, _, _, _, hz⟩ := P1.out.1.rd
      exact hz rfl
    clear hf hn
    go_wp2_with (first | (go_at_call 135; ((with_reducible refine cV.mono ?_); rintro e w2 ⟨rfl, hb2⟩; have F2 := Lib.hid (P1.out.1.below hb2); obtain ⟨m0, m1, m2, n0, n1, n2⟩ := F2.out.cells)) | (go_at_call 85; ((with_reducible refine (ok_any g [] false _ F2.out.rd).mono ?_); rintro e w' ⟨rfl, rfl⟩)))
    exact bodyPost_ret (v := .agg #[.int .i64 0, .int .u64 0, .string ⟨#[]⟩]) (by simp [results, Tryz.results152, go_sem, m0, m1, m2]) rfl ⟨rfl, (F2.out.out _ _ _).1, (F2.out.out _ _ _).2⟩

theorem takesV : TakesV 152 :=
  ⟨fun g l W h hk hT => takeV_yes g l W h hk hT (tkV l).k (tkV l).b ⟨(tkV l).t.toArray⟩ rfl, fun g l ok W h hk hT => takeV_no g l ok W h hk hT⟩
end Go.Proofs.YtcfmifongbapkaaGreatDoor

/- TxnLies -/
namespace Go.Proofs.YtcfmifongbapkaaGreatDoor

open Go.RowKit

theorem Tryz.rInfo153 : (Tryz.prog.info? 153).map (fun i => (i.zero, i.size, i.bytes)) = some (some (.agg #[.string ⟨#[]⟩, .int .u64 0]), 2, 24) := by kernel_rfl
theorem Tryz.rInfo157 : (Tryz.prog.info? 157).map (fun i => (i.zero, i.size, i.bytes)) = some (some (.agg #[.string ⟨#[]⟩, .int .i64 0, .int .u64 0, .string ⟨#[]⟩]), 4, 48) := by kernel_rfl
theorem RowAt.oneR (W : World) (x : RdM) (t : TypeId) : RowAt (W.alloc (.cells #[.string x.1, .int .u64 ((x.2 : Nat) : Int)] t)) (W.heap.size + 1) (some ⟨W.heap.size, 0, none⟩) 1 2 (readC x) := RowAt.one W #[.string x.1, .int .u64 ((x.2 : Nat) : Int)] t
theorem RowAt.oneW (W : World) (x : WrM) (t : TypeId) : RowAt (W.alloc (.cells #[.string x.key, .int .i64 x.k, .int .u64 ((x.b : Nat) : Int), .string x.t] t)) (W.heap.size + 1) (some ⟨W.heap.size, 0, none⟩) 1 4 (writeC x) := RowAt.one W #[.string x.key, .int .i64 x.k, .int .u64 ((x.b : Nat) : Int), .string x.t] t
/-- A box beside those that lie there, made after them. -/
def BoxG (w W : World) (G : Nat) (cs : Array Value) (t : TypeId) (L : List (Nat × Array Value × TypeId)) : Prop := Boxs w W ((G, cs, t) :: L) ∧ (∀ b ∈ L, b.1 < G) ∧ w.heap.size ≤ G
section

variable {w W W' : World} {G : Nat} {cs : Array Value} {t : TypeId} {L : List (Nat × Array Value × TypeId)}

/-- No cell of it is a text. -/
def NoStr (cs : Array Value) : Prop := ∀ (i : Nat) (z : ByteArray), cs[i]? ≠ some (.string z)
theorem RowAt.set_far {B n k : Nat} {a : Option Addr} {xs : List Value} (h : RowAt W B a n k xs) (hs : n ≠ 0 → ∃ z, xs[0]? = some (.string z)) (hb : BoxC W G cs t) (hn : NoStr cs) (i : Nat) (u : Value) : RowAt (W.setCell ⟨G, i, none⟩ u) B a n k xs := by
  rcases h with ⟨hl, h | ⟨b, off, ha, hb', hc⟩⟩
  · exact ⟨hl, .inl h⟩
  · by_cases h0 : n = 0
    · exact ⟨hl, .inl h0⟩
    · obtain ⟨z, hz⟩ := hs h0
      have h1 := hc 0 _ hz
      have hne : b ≠ G := by
        rintro rfl
        rw [cell_of_row _ _ _ _ _ _ hb] at h1
        exact hn _ _ h1
      exact ⟨hl, .inr ⟨b, off, ha, hb', fun j v hv => (World.cell?_of_block (Below.heap_setCell _ _ _ _ hne)).trans (hc j v hv)⟩⟩
theorem TxAt.set1 {a1 a2 : Option Addr} {n1 n2 : Nat} {L1 : List RdM} {L2 : List WrM} (h : TxAt W a1 n1 a2 n2 L1 L2) (hb : BoxC W G cs t) (hn : NoStr cs) (i : Nat) (u : Value) : TxAt (W.setCell ⟨G, i, none⟩ u) a1 n1 a2 n2 L1 L2 := by
  have e : (W.setCell ⟨G, i, none⟩ u).heap.size = W.heap.size := by simp
  refine ⟨⟨⟨h.lenR, ?_⟩, ⟨h.lenW, ?_⟩⟩, h.okR, h.okW⟩
  · rw [e]
    refine h.rds.2.set_far (fun h0 => ?_) hb hn i u
    have := h.lenR
    match L1 with
    | [] => exact absurd this.symm h0
    | x :: r => exact ⟨x.1, rfl⟩
  · rw [e]
    refine h.wrs.2.set_far (fun h0 => ?_) hb hn i u
    have := h.lenW
    match L2 with
    | [] => exact absurd this.symm h0
    | x :: r => exact ⟨x.key, rfl⟩
theorem TxAt.rows {a1 a2 : Option Addr} {L1 : List RdM} {L2 : List WrM} (h1 : RowAt W W.heap.size a1 L1.length 2 (L1.flatMap readC)) (h2 : RowAt W W.heap.size a2 L2.length 4 (L2.flatMap writeC)) (o1 : ∀ x ∈ L1, RdOk x) (o2 : ∀ x ∈ L2, WrOk x) : TxAt W a1 L1.length a2 L2.length L1 L2 := ⟨⟨⟨rfl, h1⟩, ⟨rfl, h2⟩⟩, o1, o2⟩
end

end Go.Proofs.YtcfmifongbapkaaGreatDoor

/- TxnTake -/
namespace Go.Proofs.YtcfmifongbapkaaGreatDoor

open Go.RowKit

set_option linter.unusedVariables false

theorem okS_any (g : Nat) (st : St) (W : World) (h : RS g st W) : Calls Tryz.prog 85 #[.pointer (some ⟨g, 0, none⟩)] W fun e w' => e = .returned (.bool st.isSome) ∧ W = w' := by
  cases st with
  | none => exact ok_any g [] false W h
  | some l => exact ok_any g l true W h
theorem RS.rd {g : Nat} {st : St} {W : World} (h : RS g st W) : ∃ l ok, RdAt W g l ok := by
  cases st with
  | none => exact ⟨_, _, h⟩
  | some l => exact ⟨_, _, h⟩
abbrev valV (v : Val) : Value := .agg #[.int .i64 v.k, .int .u64 ((v.b : Nat) : Int), .string ⟨v.t.toArray⟩]
abbrev idV (x : IdN) : Value := .agg #[.int .i64 x.1, .int .i64 x.2]
theorem takeVS_any (g : Nat) (st : St) (W : World) (h : RS g st W) (hT : Tabs W) :
    Calls Tryz.prog 152 #[.pointer (some ⟨g, 0, none⟩)] W (Took1 (RS g) g valV valP ⟨0, 0, []⟩ st W) := by
  cases st with
  | none => exact (takesV.2 g [] false W h (fun h => by cases h.1) hT).mono fun e w' ⟨h1, h2, h3⟩ => ⟨⟨0, 0, []⟩, none, h1, h2, h3, .no _ (fun l e => by cases e), fun _ => rfl⟩
  | some l =>
    by_cases hk : tkOk l
    · exact (takesV.1 g l W h hk hT).mono fun e w' ⟨h1, h2, h3⟩ => ⟨tkV l, some (l.drop (tkN l)), h1, h2, h3, .yes (valP_yes hk), fun e => by cases e⟩
    · exact (takesV.2 g l true W h (fun h => hk h.2) hT).mono fun e w' ⟨h1, h2, h3⟩ => ⟨⟨0, 0, []⟩, none, h1, h2, h3, .no _ (fun l' e => by injection e with e; subst e; exact valP_no hk), fun _ => rfl⟩
theorem refTakeVS_any (B g : Nat) (L : List UInt8) (st : St) (W : World) (h : FS B g L st W) :
    Calls Tryz.prog 116 #[.pointer (some ⟨g, 0, none⟩)] W (Took1 (FS B g L) g valV valP ⟨0, 0, []⟩ st W) := by
  obtain ⟨q, h, hq⟩ := h
  cases st with
  | none => exact (refTakeV_no B g L q false W h (fun h => by cases h.1)).mono fun e w' ⟨q', h1, h2, h3⟩ => ⟨⟨0, 0, []⟩, none, h1, ⟨q', h2, fun l e => by cases e⟩, h3, .no _ (fun l e => by cases e), fun _ => rfl⟩
  | some l =>
    obtain rfl := hq l rfl
    by_cases hk : tkOk (L.drop q)
    · exact (refTakeV_yes B g L q W h hk).mono fun e w' ⟨h1, h2, h3⟩ => ⟨tkV (L.drop q), some ((L.drop q).drop (tkN (L.drop q))), h1, ⟨_, h2, fun l e => by injection e with e; rw [← e, List.drop_drop]⟩, h3, .yes (valP_yes hk), fun e => by cases e⟩
    · exact (refTakeV_no B g L q true W h (fun h => hk h.2)).mono fun e w' ⟨q', h1, h2, h3⟩ => ⟨⟨0, 0, []⟩, none, h1, ⟨q', h2, fun l e => by cases e⟩, h3, .no _ (fun l' e => by injection e with e; subst e; exact valP_no hk), fun _ => rfl⟩
theorem val_lt {st st' : St} {v : Val} (h : Res valP st v st') (h0 : st' = none → v = ⟨0, 0, []⟩) : v.b < 18446744073709551616 ∧ v.t.length ≤ 65535 := by
  rcases h with ⟨l, r, rfl, h, rfl⟩ | ⟨_, e⟩
  · by_cases hk : tkOk l
    · rw [valP_yes hk] at h
      injection h with h; injection h with h _
      subst h
      unfold tkV
      split
      · refine ⟨?_, Nat.zero_le _⟩
        have h1 := numB_lt ((l.drop 1).take 8)
        have h2 : ((l.drop 1).take 8).length ≤ 8 := by rw [List.length_take]; omega
        exact Nat.lt_of_lt_of_le h1 (Nat.le_trans (Nat.pow_le_pow_right (by omega) h2) (by decide))
      · split
        · refine ⟨(by show 0 < 18446744073709551616; decide), ?_⟩
          have := textLen_lt (l.drop 1)
          show (((l.drop 1).drop 2).take (textLen (l.drop 1))).length ≤ 65535
          rw [List.length_take]; omega
        · exact ⟨(by show 0 < 18446744073709551616; decide), Nat.zero_le _⟩
    · rw [valP_no hk] at h; cases h
  · rw [h0 e]; exact ⟨by decide, Nat.zero_le _⟩

set_option maxHeartbeats 1000000 in
theorem tfail_any (g : Nat) (st : St) (W : World) (h : RS g st W) :
    Calls Tryz.prog 144 #[.pointer (some ⟨g, 0, none⟩)] W fun e w' => e = .returned (.tuple #[]) ∧ RS g none w' ∧ Only g W w' := by
  obtain ⟨l, ok, hr⟩ := h.rd
  have c := take_no g l ok (-1) W hr (.inr (.inl (by omega)))
  clear hr h
  go_enter Tryz.func144, Tryz.ntmps144
  go_wp2_with (go_at_call 80; ((with_reducible refine c.mono ?_); rintro e w1 ⟨rfl, hr1, ho1⟩))
  go_end0
  exact ⟨rfl, hr1, ho1⟩

theorem res_id {st st1 st2 : St} {x y : Nat} (h1 : Res (numP 1) st x st1) (h2 : Res (numP 4) st1 y st2) : Res idP st ((x : Int), (y : Int)) st2 := by
  unfold idP
  exact Res.bind (x := x) h1 (Res.bind (x := y) h2 (Res.pure _ _))
set_option maxRecDepth 100000 in
set_option maxHeartbeats 2000000 in
theorem tTakeId_any (g : Nat) (st : St) (w : World) (h : RS g st w) :
    Calls Tryz.prog 141 #[.pointer (some ⟨g, 0, none⟩)] w (Took1 (RS g) g idV idQ (0, 0) st w) := by
  have hlt := h.lt
  have H0 := Lib.hid ((RdO.start h hlt).more #[.int .i64 0, .int .i64 0] 26)
  have c1 : ∀ s W, RS g s W → Calls Tryz.prog 80 #[.pointer (some ⟨g, 0, none⟩), .int .i64 1] W (Took1 (RS g) g numV (numP 1) 0 s W) := fun s W h => takeS_any g 1 s W h (by omega)
  have c4 : ∀ s W, RS g s W → Calls Tryz.prog 80 #[.pointer (some ⟨g, 0, none⟩), .int .i64 4] W (Took1 (RS g) g numV (numP 4) 0 s W) := fun s W h => takeS_any g 4 s W h (by omega)
  clear h
  go_enter Tryz.func141, Tryz.ntmps141
  go_upto_region 2 with (go_at_call 80; ((with_reducible refine (c1 _ _ H0.out.rdr).mono ?_); rintro e w1 ⟨x, st1, rfl, hr1, ho1, hR1, hz1⟩; have H1 := Lib.hid (H0.out.only hr1 ho1); have R1 := Lib.hid hR1; have Z1 := Lib.hid hz1; have hx : x < 256 := num_lt hR1 hz1 (by decide); clear hr1 ho1 hR1 hz1))
  have H2 := Lib.hid (H1.out.more #[.int .i64 x, .int .i64 0] 26)
  have hG : w.heap.size < w1.heap.size := (H1.out.get 0 _ _ _ rfl).lt
  clear H0 H1
  generalize w1.alloc (.cells #[.int .i64 x, .int .i64 0] 26) = W2 at *
  generalize w1.heap.size = G at *
  have hgG : g ≠ G := by omega
  go_upto_region 3 with (go_at_call 80; ((with_reducible refine (c4 _ _ H2.out.rdr).mono ?_); rintro e w3 ⟨y, st2, rfl, hr3, ho3, hR3, hz3⟩; have H3 := Lib.hid (H2.out.only hr3 ho3); obtain ⟨x0, x1⟩ := (H3.out.get 0 _ _ _ rfl).two; have f1 := (H3.out.get 0 _ _ _ rfl).frozen 1; have R3 := Lib.hid hR3; have Z3 := Lib.hid hz3; have hy : y < 4294967296 := num_lt hR3 hz3 (by decide); clear hr3 ho3 hR3 hz3))
  have H4 : Hid (RdO (RS g st2) g w (w3.setCell ⟨G, 1, none⟩ (.int .i64 y)) [(G, #[.int .i64 x, .int .i64 y], 26), (w.heap.size, #[.int .i64 0, .int .i64 0], 26)] []) := H3.out.set (by simp; omega) 1 (.int .i64 y)
  have RR : Hid (Res idP st ((x : Int), (y : Int)) st2) := res_id R1.out R3.out
  clear H2 H3 x0 x1 f1 c1 c4 R1 R3 Z1
  generalize w3.setCell ⟨G, 1, none⟩ (.int .i64 y) = W4 at *
  obtain ⟨x0, x1⟩ := (H4.out.get 0 _ _ _ rfl).two
  have cI := tId_any (x : Int) (y : Int)
  cases hf : idB ((x : Int), (y : Int))
  · rw [hf] at cI
    have Q := Lib.hid (RR.out.guard_bad (c := idB) hf (0, 0))
    clear hf RR
    go_wp2_with (first | (go_at_call 117; ((with_reducible refine (cI _).mono ?_); rintro e w5 ⟨rfl, hb5⟩; have H5 := Lib.hid (H4.out.below hb5))) | (go_at_call 144; ((with_reducible refine (tfail_any g _ _ H5.out.rdr).mono ?_); rintro e w6 ⟨rfl, hr6, ho6⟩; have H6 := Lib.hid (H5.out.only hr6 ho6); (clear x0 x1); obtain ⟨x0, x1⟩ := (H6.out.get 0 _ _ _ rfl).two; obtain ⟨z0, z1⟩ := (H6.out.get 1 _ _ _ rfl).two; have f0 := (H6.out.get 1 _ _ _ rfl).frozen 0; have f1 := (H6.out.get 1 _ _ _ rfl).frozen 1)))
    have H7 := H6.out.tail.set (fun _ h => by cases h) 0 (.int .i64 0)
    have H8 := H7.set (fun _ h => by cases h) 1 (.int .i64 0)
    exact bodyPost_ret (v := .agg #[.int .i64 0, .int .i64 0]) (by simp [results, Tryz.results141, go_sem, z0, z1]) rfl ⟨(0, 0), none, rfl, H8.rdr, H8.onl, Q.out, fun _ => rfl⟩
  · rw [hf] at cI
    have hne : st2 ≠ none := fun e => by
      have := Z3.out e
      rw [idB_iff] at hf
      have := hf.2.1
      omega
    have Q := Lib.hid (RR.out.guard_yes (c := idB) hf)
    clear hf RR
    go_wp2_with (go_at_call 117; ((with_reducible refine (cI _).mono ?_); rintro e w5 ⟨rfl, hb5⟩; have H6 := Lib.hid (H4.out.below hb5); (clear x0 x1); obtain ⟨x0, x1⟩ := (H6.out.get 0 _ _ _ rfl).two; obtain ⟨z0, z1⟩ := (H6.out.get 1 _ _ _ rfl).two; have f0 := (H6.out.get 1 _ _ _ rfl).frozen 0; have f1 := (H6.out.get 1 _ _ _ rfl).frozen 1))
    have H7 := H6.out.tail.set (fun _ h => by cases h) 0 (.int .i64 x)
    have H8 := H7.set (fun _ h => by cases h) 1 (.int .i64 y)
    exact bodyPost_ret (v := .agg #[.int .i64 x, .int .i64 y]) (by simp [results, Tryz.results141, go_sem, z0, z1]) rfl ⟨((x : Int), (y : Int)), st2, rfl, H8.rdr, H8.onl, Q.out, fun e => absurd e hne⟩
end Go.Proofs.YtcfmifongbapkaaGreatDoor
