/- A script that came in, as mathematics; the law's few. No condition. -/
import Derived.Test.YtclfgkeepmdmjaaDiskActs

import Derived.Test.YtclfgkeepmdmjaaOpenDeep

import Derived.Test.YtclfgkeepmdmjaaOpenLists

import Derived.Test.YtclfgkeepmdmjaaOpenStruct

import Derived.Test.YtclfgkeepmdmjaaCodeOpen

namespace Go.Proofs.Ytclfgkeepmdmjaa

open Go.ChangeShapes Go.WideShapes Go.ChangeAt Go.RowKit

set_option linter.unusedVariables false
set_option linter.unusedSimpArgs false

/-- An Op: its kind, its number, its bytes. -/
structure DoM where
  k : Int
  n : Int
  a : Option Addr
  m : Nat
  c : Nat
  l : List UInt8
abbrev doC (x : DoM) : List Value := [.int .i64 x.k, .int .i64 x.n, .slice x.a x.m x.c]
/-- A number of 64 bits. -/
def InD (x : Int) : Prop := -9223372036854775808 ≤ x ∧ x < 9223372036854775808
theorem inD_of {x : Int} (h : (Lit.int .i64 x).wf = true) : InD x := by
  simp [Lit.wf, IntKind.min, IntKind.max, IntKind.bits, IntKind.signed] at h
  unfold InD
  omega
def DoW (w : World) (x : DoM) : Prop := BAt w w.heap.size x.a x.m x.l ∧ x.m ≤ maxLen ∧ InD x.n
section

variable {H : Type} {enc : TypeId × Value → H} {w : World} {base : Nat} {spare : Nat → Bool} {held : Bool} {r : Reach} {b0 : Nat}

theorem cons_ofd {α : Type} {n : Nat} {l : List α} (h : l.length = n + 1) : ∃ a r, l = a :: r ∧ r.length = n := by
  cases l with
  | nil => cases h
  | cons a r => exact ⟨a, r, rfl, by simpa using h⟩
theorem u8c_ofd {x : Int} (wx : (Lit.int .u8 x).wf = true) : ∃ c : UInt8, x = (c.toNat : Int) := by
  have bx : 0 ≤ x ∧ x < 256 := by simp [Lit.wf, IntKind.min, IntKind.max, IntKind.bits, IntKind.signed] at wx; omega
  refine ⟨UInt8.ofNat x.toNat, ?_⟩
  have e : (UInt8.ofNat x.toNat).toNat = x.toNat % 256 := UInt8.toNat_ofNat'
  rw [e]; omega
theorem trod_bytesd (n : Nat) (u : Value) (y : DataW H × List MemPlace) (h : DataW.trod enc Try.prog w base spare held n 33 [u] = some y) : ∃ a m c l, u = .slice a m c ∧ BAt w w.heap.size a m l ∧ m ≤ c ∧ c ≤ maxLen := by
  obtain ⟨a, m, c, e, hm, hc, l, hl, hr, _⟩ := trod_row1 (fun z : UInt8 => Value.int .u8 (z.toNat : Int)) (fun _ => True) Try.underlying33 (by kernel_rfl) h (fun k v y hv => by
    obtain ⟨x, e, _, wx⟩ := DataW.trod_int Try.underlying5 hv
    simp at e
    obtain ⟨z, rfl⟩ := u8c_ofd wx
    exact ⟨z, e, trivial⟩)
  refine ⟨a, m, c, l, e, ⟨hl, ?_⟩, hm, hc⟩
  rcases hr.2 with h0 | ⟨b, off, ha, hb, hcell⟩
  · exact .inl h0
  · exact .inr ⟨b, off, ha, hb, fun i hi => hcell i _ (by simp [List.getElem?_eq_getElem hi])⟩
theorem doC_len (x : DoM) : (doC x).length = 3 := rfl
set_option maxRecDepth 100000 in
theorem trod_do (n : Nat) (cs : List Value) (y : DataW H × List MemPlace) (hl : cs.length = 3) (h : DataW.trod enc Try.prog w base spare held n 35 cs = some y) : ∃ x : DoM, cs = doC x ∧ DoW w x := by
  obtain ⟨c0, r0, rfl, hl0⟩ := cons_ofd hl
  obtain ⟨c1, r1, rfl, hl1⟩ := cons_ofd hl0
  obtain ⟨c2, r2, rfl, hl2⟩ := cons_ofd hl1
  obtain rfl : r2 = [] := List.eq_nil_of_length_eq_zero hl2
  have k3 : Try.prog.cellsOf 3 = 1 := by kernel_rfl
  have k5 : Try.prog.cellsOf 33 = 1 := by kernel_rfl
  have hfi := trod_field Try.underlying35 h
  obtain ⟨m0, u0, g0⟩ := hfi 0 _ rfl
  obtain ⟨m1, u1, g1⟩ := hfi 1 _ rfl
  obtain ⟨m2, u2, g2⟩ := hfi 2 _ rfl
  replace g0 : DataW.trod enc Try.prog w base spare held m0 3 (([c0, c1, c2].drop 0).take (Try.prog.cellsOf 3)) = some u0 := g0
  replace g1 : DataW.trod enc Try.prog w base spare held m1 3 (([c0, c1, c2].drop 1).take (Try.prog.cellsOf 3)) = some u1 := g1
  replace g2 : DataW.trod enc Try.prog w base spare held m2 33 (([c0, c1, c2].drop 2).take (Try.prog.cellsOf 33)) = some u2 := g2
  rw [k3] at g0 g1
  rw [k5] at g2
  obtain ⟨x0, e0, _, _⟩ := DataW.trod_int Try.underlying3 g0
  obtain ⟨x1, e1, _, w1⟩ := DataW.trod_int Try.underlying3 g1
  simp at e0 e1
  have g2' : DataW.trod enc Try.prog w base spare held m2 33 [c2] = some u2 := g2
  obtain ⟨a, m, c, l, rfl, hl, hm, hc⟩ := trod_bytesd m2 c2 u2 g2'
  exact ⟨⟨x0, x1, a, m, c, l⟩, by rw [e0, e1], hl, Nat.le_trans hm hc, inD_of w1⟩
set_option maxRecDepth 100000 in
theorem open_does {v : Value} {d : DataW H} {p : List MemPlace} (hv : Value.okWide Try.prog w r b0 22 v) (h : DataW.Trod enc Try.prog w base spare held 22 v d p) :
    ∃ a n c, ∃ xs : List DoM, v = .slice a n c ∧ xs.length = n ∧ RowAt w w.heap.size a n 3 (xs.flatMap doC) ∧ (∀ x ∈ xs, DoW w x) ∧ n ≤ c ∧ c ≤ maxLen := by
  obtain ⟨a, n, c, rfl⟩ := okWide_slice Try.underlying22 hv
  obtain ⟨fuel, hf⟩ := h
  obtain ⟨a', n', c', e, h1, h2, l, h3, h4, h5⟩ := trod_rowk doC (DoW w) 3 (by omega) doC_len Try.underlying22 (by kernel_rfl) hf (fun n cs y hl hy => trod_do n cs y hl hy)
  injection e with e1 e2 e3
  subst e1; subst e2; subst e3
  exact ⟨_, _, _, l, rfl, h3, h4, h5, h1, h2⟩
/-- One op of the script. -/
theorem do_cells {a : Option Addr} {n : Nat} {xs : List DoM} (h : RowAt w w.heap.size a n 3 (xs.flatMap doC)) {j : Nat} (hj : j < xs.length) (hn : 0 < n) : ∃ b off, a = some ⟨b, off, none⟩ ∧ b < w.heap.size ∧ w.cell? ⟨b, off + j * 3, none⟩ = some (.int .i64 xs[j].k) ∧ w.cell? ⟨b, off + j * 3 + 1, none⟩ = some (.int .i64 xs[j].n) ∧ w.cell? ⟨b, off + j * 3 + 2, none⟩ = some (.slice xs[j].a xs[j].m xs[j].c) := by
  rcases h.2 with h0 | ⟨b, off, ha, hb, hc⟩
  · omega
  · have hx : ∀ q u, q < 3 → (doC xs[j])[q]? = some u → w.cell? ⟨b, off + j * 3 + q, none⟩ = some u := fun q u hq hu => by
      have h1 := hc (j * 3 + q) u (by rw [flat_get doC 3 doC_len xs j q hj hq]; exact hu)
      rw [← Nat.add_assoc] at h1
      exact h1
    exact ⟨b, off, ha, hb, hx 0 _ (by omega) rfl, hx 1 _ (by omega) rfl, hx 2 _ (by omega) rfl⟩
end

def FewD (xs : List DoM) (n : Nat) : Prop := n ≤ 100 ∧ ∀ x ∈ xs, x.m ≤ 1000
instance (xs : List DoM) (n : Nat) : Decidable (FewD xs n) := by unfold FewD; exact inferInstance
set_option maxRecDepth 100000 in
set_option maxHeartbeats 4000000 in
theorem few12_any (a : Option Addr) (n c : Nat) (xs : List DoM) (W : World) (hl : xs.length = n) (hr : RowAt W W.heap.size a n 3 (xs.flatMap doC)) (hn : n ≤ maxLen) :
    Calls Try.prog 9 #[.slice a n c] W fun e w' => e = .returned (.bool (decide (FewD xs n))) ∧ W = w' := by
  have HR := Lib.hid hr
  have HL := Lib.hid hl
  have HN := Lib.hid hn
  obtain ⟨Z, hZ⟩ : ∃ Z, decide (FewD xs n) = Z := ⟨_, rfl⟩
  rw [hZ]
  have HZ := Lib.hid hZ
  clear hr hl hn hZ
  go_enter Try.func9, Try.ntmps9
  go_wp2
  go_loopw [3] (fun i wr => ∃ j : Nat, i = .int .i64 j ∧ j ≤ n ∧ j ≤ 200 ∧ (∀ i (hi : i < xs.length), i < j → xs[i].m ≤ 1000) ∧ W = wr) (fun i _ => n - (intOf i).toNat)
  case atStart => exact ⟨0, rfl, Nat.zero_le _, by omega, fun i hi h => by omega, rfl⟩
  case round =>
    obtain ⟨j, rfl, hj, hj3, hok, rfl⟩ := hrel
    have OK := Lib.hid hok
    clear hok
    by_cases hlt : j < n
    · by_cases h3 : j < 200
      · obtain ⟨b, off, rfl, hb, y0, y1, y2⟩ := do_cells HR.out (j := j) (by have := HL.out; omega) (by omega)
        have hd1 : decide ((j : Int) < (n : Int)) = true := decide_eq_true (by omega)
        have hd2 : decide ((j : Int) < 200) = true := decide_eq_true (by omega)
        have hin : (j : Int) < (n : Int) := by omega
        have HJ : Hid (j < xs.length) := by have := HL.out; unfold Hid; omega
        have EW : Hid (wrap64 ((j : Int) + 1) = ((j + 1 : Nat) : Int)) := by unfold Hid wrap64; omega
        have BAD : Hid (¬ (xs[j]'HJ.out).m ≤ 1000 → Z = false) := fun hb => by
          rw [← HZ.out]
          exact decide_eq_false fun h => hb (h.2 _ (List.getElem_mem _))
        have GOOD : Hid ((xs[j]'HJ.out).m ≤ 1000 → ∀ i (hi : i < xs.length), i < j + 1 → xs[i].m ≤ 1000) := fun hg i hi h => by
          rcases Nat.lt_or_ge i j with h1 | h1
          · exact OK.out i hi h1
          · have e : i = j := by omega
            subst e; exact hg
        clear y0 y1
        generalize (xs[j]'HJ.out).m = m at *
        generalize (xs[j]'HJ.out).a = ma at *
        generalize (xs[j]'HJ.out).c = mc at *
        by_cases hm : m ≤ 1000
        · have hd3 : decide ((m : Int) > 1000) = false := decide_eq_false (by omega)
          have G := Lib.hid (GOOD.out hm)
          clear GOOD BAD
          go_wp2
          go_roundw
          case rel => exact ⟨j + 1, by go_num, hlt, h3, G.out, trivial⟩
          case measure => simp [intOf]; omega
        · have hd3 : decide ((m : Int) > 1000) = true := decide_eq_true (by omega)
          have G := Lib.hid (BAD.out hm)
          clear GOOD BAD
          go_wp2
          go_ret
          exact ⟨by rw [G.out]; rfl, rfl⟩
      · have hd1 : decide ((j : Int) < (n : Int)) = true := decide_eq_true (by omega)
        have hd2 : decide ((j : Int) < 200) = false := decide_eq_false (by omega)
        have hd4 : decide ((n : Int) ≤ 100) = false := decide_eq_false (by omega)
        have G : Hid (Z = false) := by
          have h1 := HZ.out
          unfold Hid
          rw [← h1]
          exact decide_eq_false fun h => by have := h.1; omega
        go_wp2
        go_ret
        exact ⟨by rw [G.out]; rfl, rfl⟩
    · have hd1 : decide ((j : Int) < (n : Int)) = false := decide_eq_false (by omega)
      have G : Hid (Z = decide ((n : Int) ≤ 100)) := by
        have h1 := HZ.out
        unfold Hid
        rw [← h1]
        by_cases h2 : n ≤ 100
        · rw [decide_eq_true (show (n : Int) ≤ 100 by omega)]
          refine decide_eq_true ⟨h2, fun x hx => ?_⟩
          obtain ⟨i, hi, rfl⟩ := List.getElem_of_mem hx
          exact OK.out i hi (by have := HL.out; omega)
        · rw [decide_eq_false (show ¬ (n : Int) ≤ 100 by omega)]
          exact decide_eq_false fun h => h2 h.1
      go_wp2
      go_ret
      exact ⟨by rw [G.out]; (try simp), rfl⟩
end Go.Proofs.Ytclfgkeepmdmjaa
