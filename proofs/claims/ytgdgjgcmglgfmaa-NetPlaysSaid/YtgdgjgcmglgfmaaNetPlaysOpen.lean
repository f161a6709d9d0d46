/- A script that came in, as mathematics. No condition. -/
import Derived.Test.YtgdgjgcmglgfmaaNetOpen
import Derived.Test.YtgdgjgcmglgfmaaNetPairs
namespace Go.Proofs.Ytgdgjgcmglgfmaa

open Go.ChangeShapes Go.WideShapes Go.ChangeAt Go.RowKit

set_option linter.unusedVariables false
set_option linter.unusedSimpArgs false

/-- A number of 64 bits. -/
def In64 (x : Int) : Prop := -9223372036854775808 ≤ x ∧ x < 9223372036854775808
theorem in64_of {x : Int} (h : (Lit.int .i64 x).wf = true) : In64 x := by
  simp [Lit.wf, IntKind.min, IntKind.max, IntKind.bits, IntKind.signed] at h
  unfold In64
  omega
def OpW (w : World) (x : OpM) : Prop := BAt w w.heap.size x.a x.n x.l ∧ x.n ≤ maxLen ∧ In64 x.i ∧ In64 x.j
section

variable {H : Type} {enc : TypeId × Value → H} {w : World} {base : Nat} {spare : Nat → Bool} {held : Bool} {r : Reach} {b0 : Nat}

theorem opC_len (x : OpM) : (opC x).length = 6 := rfl
set_option maxRecDepth 100000 in
theorem trod_opw (n : Nat) (cs : List Value) (y : DataW H × List MemPlace) (hl : cs.length = 6) (h : DataW.trod enc Try.prog w base spare held n 34 cs = some y) : ∃ x : OpM, cs = opC x ∧ OpW w x := by
  obtain ⟨c0, r0, rfl, hl0⟩ := cons_of hl
  obtain ⟨c1, r1, rfl, hl1⟩ := cons_of hl0
  obtain ⟨c2, r2, rfl, hl2⟩ := cons_of hl1
  obtain ⟨c3, r3, rfl, hl3⟩ := cons_of hl2
  obtain ⟨c4, r4, rfl, hl4⟩ := cons_of hl3
  obtain ⟨c5, r5, rfl, hl5⟩ := cons_of hl4
  obtain rfl : r5 = [] := List.eq_nil_of_length_eq_zero hl5
  have k3 : Try.prog.cellsOf 3 = 1 := by kernel_rfl
  have k5 : Try.prog.cellsOf 32 = 1 := by kernel_rfl
  have hfi := trod_field Try.underlying34 h
  obtain ⟨m0, u0, g0⟩ := hfi 0 _ rfl
  obtain ⟨m1, u1, g1⟩ := hfi 1 _ rfl
  obtain ⟨m2, u2, g2⟩ := hfi 2 _ rfl
  obtain ⟨m3, u3, g3⟩ := hfi 3 _ rfl
  obtain ⟨m4, u4, g4⟩ := hfi 4 _ rfl
  obtain ⟨m5, u5, g5⟩ := hfi 5 _ rfl
  replace g0 : DataW.trod enc Try.prog w base spare held m0 3 (([c0, c1, c2, c3, c4, c5].drop 0).take (Try.prog.cellsOf 3)) = some u0 := g0
  replace g1 : DataW.trod enc Try.prog w base spare held m1 3 (([c0, c1, c2, c3, c4, c5].drop 1).take (Try.prog.cellsOf 3)) = some u1 := g1
  replace g2 : DataW.trod enc Try.prog w base spare held m2 3 (([c0, c1, c2, c3, c4, c5].drop 2).take (Try.prog.cellsOf 3)) = some u2 := g2
  replace g3 : DataW.trod enc Try.prog w base spare held m3 3 (([c0, c1, c2, c3, c4, c5].drop 3).take (Try.prog.cellsOf 3)) = some u3 := g3
  replace g4 : DataW.trod enc Try.prog w base spare held m4 3 (([c0, c1, c2, c3, c4, c5].drop 4).take (Try.prog.cellsOf 3)) = some u4 := g4
  replace g5 : DataW.trod enc Try.prog w base spare held m5 32 (([c0, c1, c2, c3, c4, c5].drop 5).take (Try.prog.cellsOf 32)) = some u5 := g5
  rw [k3] at g0 g1 g2 g3 g4
  rw [k5] at g5
  obtain ⟨x0, e0, _, _⟩ := DataW.trod_int Try.underlying3 g0
  obtain ⟨x1, e1, _, _⟩ := DataW.trod_int Try.underlying3 g1
  obtain ⟨x2, e2, _, _⟩ := DataW.trod_int Try.underlying3 g2
  obtain ⟨x3, e3, _, w3⟩ := DataW.trod_int Try.underlying3 g3
  obtain ⟨x4, e4, _, w4⟩ := DataW.trod_int Try.underlying3 g4
  simp at e0 e1 e2 e3 e4
  have g5' : DataW.trod enc Try.prog w base spare held m5 32 [c5] = some u5 := g5
  obtain ⟨a, m, c, l, rfl, hl, hm, hc⟩ := trod_bytesf m5 c5 u5 g5'
  exact ⟨⟨x0, x1, x2, x3, x4, a, m, c, l⟩, by rw [e0, e1, e2, e3, e4], hl, Nat.le_trans hm hc, in64_of w3, in64_of w4⟩
set_option maxRecDepth 100000 in
theorem open_ops {v : Value} {d : DataW H} {p : List MemPlace} (hv : Value.okWide Try.prog w r b0 22 v) (h : DataW.Trod enc Try.prog w base spare held 22 v d p) :
    ∃ a n c, ∃ xs : List OpM, v = .slice a n c ∧ xs.length = n ∧ RowAt w w.heap.size a n 6 (xs.flatMap opC) ∧ (∀ x ∈ xs, OpW w x) ∧ n ≤ c ∧ c ≤ maxLen := by
  obtain ⟨a, n, c, rfl⟩ := okWide_slice Try.underlying22 hv
  obtain ⟨fuel, hf⟩ := h
  obtain ⟨a', n', c', e, h1, h2, l, h3, h4, h5⟩ := trod_rowk opC (OpW w) 6 (by omega) opC_len Try.underlying22 (by kernel_rfl) hf (fun n cs y hl hy => trod_opw n cs y hl hy)
  injection e with e1 e2 e3
  subst e1; subst e2; subst e3
  exact ⟨_, _, _, l, rfl, h3, h4, h5, h1, h2⟩
/-- One op of the script. -/
theorem op_cells {a : Option Addr} {n : Nat} {xs : List OpM} (h : RowAt w w.heap.size a n 6 (xs.flatMap opC)) {j : Nat} (hj : j < xs.length) (hn : 0 < n) : ∃ b off, a = some ⟨b, off, none⟩ ∧ b < w.heap.size ∧ w.cell? ⟨b, off + j * 6, none⟩ = some (.int .i64 xs[j].k) ∧ w.cell? ⟨b, off + j * 6 + 1, none⟩ = some (.int .i64 xs[j].f) ∧ w.cell? ⟨b, off + j * 6 + 2, none⟩ = some (.int .i64 xs[j].t) ∧ w.cell? ⟨b, off + j * 6 + 3, none⟩ = some (.int .i64 xs[j].i) ∧ w.cell? ⟨b, off + j * 6 + 4, none⟩ = some (.int .i64 xs[j].j) ∧ w.cell? ⟨b, off + j * 6 + 5, none⟩ = some (.slice xs[j].a xs[j].n xs[j].c) := by
  rcases h.2 with h0 | ⟨b, off, ha, hb, hc⟩
  · omega
  · have hx : ∀ q u, q < 6 → (opC xs[j])[q]? = some u → w.cell? ⟨b, off + j * 6 + q, none⟩ = some u := fun q u hq hu => by
      have h1 := hc (j * 6 + q) u (by rw [flat_get opC 6 opC_len xs j q hj hq]; exact hu)
      rw [← Nat.add_assoc] at h1
      exact h1
    exact ⟨b, off, ha, hb, hx 0 _ (by omega) rfl, hx 1 _ (by omega) rfl, hx 2 _ (by omega) rfl, hx 3 _ (by omega) rfl, hx 4 _ (by omega) rfl, hx 5 _ (by omega) rfl⟩
end

theorem mea_o (m i : Nat) (h1 : wrap64 ((i : Int) + 1) = ((i + 1 : Nat) : Int)) (h2 : i < m) : m - (intOf (Value.int .i64 (wrap64 ((i : Int) + 1)))).toNat < m - (intOf (Value.int .i64 ((i : Nat) : Int))).toNat := by
  rw [h1]
  show m - (i + 1) < m - i
  omega
def FewP (xs : List OpM) (n : Nat) : Prop := n ≤ 200 ∧ ∀ x ∈ xs, x.n ≤ 1000
instance (xs : List OpM) (n : Nat) : Decidable (FewP xs n) := by unfold FewP; exact inferInstance
set_option maxRecDepth 100000 in
set_option maxHeartbeats 4000000 in
theorem few_any (a : Option Addr) (n c : Nat) (xs : List OpM) (W : World) (hl : xs.length = n) (hr : RowAt W W.heap.size a n 6 (xs.flatMap opC)) (hn : n ≤ maxLen) :
    Calls Try.prog 9 #[.slice a n c] W fun e w' => e = .returned (.bool (decide (FewP xs n))) ∧ W = w' := by
  have HR := Lib.hid hr
  have HL := Lib.hid hl
  have HN := Lib.hid hn
  obtain ⟨Z, hZ⟩ : ∃ Z, decide (FewP xs n) = Z := ⟨_, rfl⟩
  rw [hZ]
  have HZ := Lib.hid hZ
  clear hr hl hn hZ
  go_enter Try.func9, Try.ntmps9
  go_wp2
  go_loopw [3] (fun i wr => ∃ j : Nat, i = .int .i64 j ∧ j ≤ n ∧ j ≤ 300 ∧ (∀ i (hi : i < xs.length), i < j → xs[i].n ≤ 1000) ∧ W = wr) (fun i _ => n - (intOf i).toNat)
  case atStart => exact ⟨0, rfl, Nat.zero_le _, by omega, fun i hi h => by omega, rfl⟩
  case round =>
    obtain ⟨j, rfl, hj, hj3, hok, rfl⟩ := hrel
    have OK := Lib.hid hok
    clear hok
    by_cases hlt : j < n
    · by_cases h3 : j < 300
      · obtain ⟨b, off, rfl, hb, y0, y1, y2, y3, y4, y5⟩ := op_cells HR.out (j := j) (by have := HL.out; omega) (by omega)
        have hd1 : decide ((j : Int) < (n : Int)) = true := decide_eq_true (by omega)
        have hd2 : decide ((j : Int) < 300) = true := decide_eq_true (by omega)
        have hin : (j : Int) < (n : Int) := by omega
        have HJ : Hid (j < xs.length) := by have := HL.out; unfold Hid; omega
        have EW : Hid (wrap64 ((j : Int) + 1) = ((j + 1 : Nat) : Int)) := by unfold Hid wrap64; omega
        have BAD : Hid (¬ (xs[j]'HJ.out).n ≤ 1000 → Z = false) := fun hb => by
          rw [← HZ.out]
          exact decide_eq_false fun h => hb (h.2 _ (List.getElem_mem _))
        have GOOD : Hid ((xs[j]'HJ.out).n ≤ 1000 → ∀ i (hi : i < xs.length), i < j + 1 → xs[i].n ≤ 1000) := fun hg i hi h => by
          rcases Nat.lt_or_ge i j with h1 | h1
          · exact OK.out i hi h1
          · have e : i = j := by omega
            subst e; exact hg
        clear y0 y1 y2 y3 y4
        generalize (xs[j]'HJ.out).n = m at *
        generalize (xs[j]'HJ.out).a = ma at *
        generalize (xs[j]'HJ.out).c = mc at *
        by_cases hm : m ≤ 1000
        · have hd3 : decide ((m : Int) > 1000) = false := decide_eq_false (by omega)
          have G := Lib.hid (GOOD.out hm)
          clear GOOD BAD
          go_wp2
          go_roundw
          case rel => exact ⟨j + 1, by go_num, hlt, h3, G.out, trivial⟩
          case measure => simp [intOf]; omega
        · have hd3 : decide ((m : Int) > 1000) = true := decide_eq_true (by omega)
          have G := Lib.hid (BAD.out hm)
          clear GOOD BAD
          go_wp2
          go_ret
          exact ⟨by rw [G.out]; rfl, rfl⟩
      · have hd1 : decide ((j : Int) < (n : Int)) = true := decide_eq_true (by omega)
        have hd2 : decide ((j : Int) < 300) = false := decide_eq_false (by omega)
        have hd4 : decide ((n : Int) ≤ 200) = false := decide_eq_false (by omega)
        have G : Hid (Z = false) := by
          have h1 := HZ.out
          unfold Hid
          rw [← h1]
          exact decide_eq_false fun h => by have := h.1; omega
        go_wp2
        go_ret
        exact ⟨by rw [G.out]; rfl, rfl⟩
    · have hd1 : decide ((j : Int) < (n : Int)) = false := decide_eq_false (by omega)
      have G : Hid (Z = decide ((n : Int) ≤ 200)) := by
        have h1 := HZ.out
        unfold Hid
        rw [← h1]
        by_cases h2 : n ≤ 200
        · rw [decide_eq_true (show (n : Int) ≤ 200 by omega)]
          refine decide_eq_true ⟨h2, fun x hx => ?_⟩
          obtain ⟨i, hi, rfl⟩ := List.getElem_of_mem hx
          exact OK.out i hi (by have := HL.out; omega)
        · rw [decide_eq_false (show ¬ (n : Int) ≤ 200 by omega)]
          exact decide_eq_false fun h => h2 h.1
      go_wp2
      go_ret
      exact ⟨by rw [G.out]; (try simp), rfl⟩
end Go.Proofs.Ytgdgjgcmglgfmaa
