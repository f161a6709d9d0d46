/- What came in, opened: a ballot by value; a list of ballots. No condition. -/
import Derived.Test.YtcmboanepllgjaaOpenStruct

import Derived.Test.YtcmboanepllgjaaCodeOpenRows

import Derived.Test.YtcmboanepllgjaaBallotMost

namespace Go.Proofs.Ytcmboanepllgjaa

open Go.ChangeShapes Go.WideShapes Go.ChangeAt Go.RowKit

theorem u32_of {x : Int} (wx : (Lit.int .u32 x).wf = true) : ∃ n : Nat, x = (n : Int) ∧ n < 4294967296 := by
  have bx : 0 ≤ x ∧ x < 4294967296 := by simp [Lit.wf, IntKind.min, IntKind.max, IntKind.bits, IntKind.signed] at wx; omega
  obtain ⟨x, rfl⟩ := Int.eq_ofNat_of_zero_le bx.1
  exact ⟨x, rfl, by omega⟩
set_option maxRecDepth 100000 in
theorem open_ballot {H : Type} {enc : TypeId × Value → H} {w : World} {base b0 : Nat} {r : Reach} {spare : Nat → Bool} {held : Bool} {v : Value} {d : DataW H} {p : List MemPlace}
    (hv : Value.okWide Try.prog w r b0 24 v) (h : DataW.Trod enc Try.prog w base spare held 24 v d p) :
    ∃ (k : Nat) (n : Int), v = .agg #[.int .u32 (k : Nat), .int .i64 n] ∧ k < 4294967296 := by
  obtain ⟨cs, rfl, hl, hj⟩ := open_struct Try.underlying24 (by kernel_rfl) (by kernel_rfl) hv h
  match cs, hl with
  | [c0, c1], _ =>
    obtain ⟨_, _, h0⟩ := hj 0 _ rfl
    obtain ⟨_, _, h1⟩ := hj 1 _ rfl
    obtain ⟨x, e0, _, wx⟩ := DataW.trod_int Try.underlying22 h0
    obtain ⟨y, e1, _, _⟩ := DataW.trod_int Try.underlying3 h1
    simp at e0 e1
    subst e0; subst e1
    obtain ⟨x, rfl, hx⟩ := u32_of wx
    exact ⟨x, y, rfl, hx⟩
set_option maxRecDepth 100000 in
theorem open_ballots {H : Type} {enc : TypeId × Value → H} {w : World} {base b0 : Nat} {r : Reach} {spare : Nat → Bool} {held : Bool} {v : Value} {d : DataW H} {p : List MemPlace}
    (hv : Value.okWide Try.prog w r b0 37 v) (h : DataW.Trod enc Try.prog w base spare held 37 v d p) : ∃ a n c l, v = .slice a n c ∧ BalsAt w w.heap.size a n l ∧ n ≤ c ∧ c ≤ maxLen := by
  obtain ⟨a, n, c, rfl, h1, h2, hr⟩ := open_rows Try.underlying37 Try.underlying24 (by kernel_rfl) (by kernel_rfl) hv h (by decide)
  rcases hr with rfl | ⟨b, off, rfl, hb, hc⟩
  · exact ⟨_, _, _, [], rfl, BalsAt.nil, h1, h2⟩
  · have hK : ∀ i, ∃ x : Bal, i < n → w.cell? ⟨b, off + i * 2, none⟩ = some (.int .u32 x.1) ∧ w.cell? ⟨b, off + i * 2 + 1, none⟩ = some (.int .i64 x.2) := by
      intro i
      by_cases hi : i < n
      · obtain ⟨u, k, y, hu, ht⟩ := hc i hi 0 _ rfl
        obtain ⟨x, hx, _⟩ := DataW.trod_int Try.underlying22 ht
        simp at hx; subst hx
        obtain ⟨u', k', y', hu', ht'⟩ := hc i hi 1 _ rfl
        obtain ⟨x', hx', _⟩ := DataW.trod_int Try.underlying3 ht'
        simp at hx'; subst hx'
        exact ⟨(x, x'), fun _ => ⟨by simpa using hu, by simpa [Nat.add_assoc] using hu'⟩⟩
      · exact ⟨(0, 0), fun h => absurd h hi⟩
    obtain ⟨X, hX⟩ := Classical.axiomOfChoice hK
    refine ⟨_, _, _, (List.range n).map X, rfl, ⟨by simp, ⟨by rw [flat_len balC 2 balC_len]; simp, .inr ⟨b, off, rfl, hb, fun j u hu => ?_⟩⟩⟩, h1, h2⟩
    have hj : j < n * 2 := by
      rcases Nat.lt_or_ge j (n * 2) with h | h
      · exact h
      · rw [List.getElem?_eq_none (by rw [flat_len balC 2 balC_len]; simpa using h)] at hu; cases hu
    have hq : j / 2 < ((List.range n).map X).length := by simp; omega
    have e := flat_get balC 2 balC_len ((List.range n).map X) (j / 2) (j % 2) hq (by omega)
    have ej : j / 2 * 2 + j % 2 = j := by omega
    rw [ej, hu] at e
    have eX : ((List.range n).map X)[j / 2]'hq = X (j / 2) := by simp
    rw [eX] at e
    obtain ⟨x0, x1⟩ := hX (j / 2) (by omega)
    rcases Nat.mod_two_eq_zero_or_one j with h0 | h0
    · rw [h0] at e
      simp [balC] at e
      have : off + j = off + j / 2 * 2 := by omega
      rw [this, e]; exact x0
    · rw [h0] at e
      simp [balC] at e
      have : off + j = off + j / 2 * 2 + 1 := by omega
      rw [this, e]; exact x1
end Go.Proofs.Ytcmboanepllgjaa
