/- What came in, opened: a slice of slices of bytes. No condition. -/
import Derived.Test.YtclfgkeepmdmjaaOpenArray

import Derived.Test.YtclfgkeepmdmjaaOwnRows

import Derived.Deep.Slices

namespace Go.Proofs.Ytclfgkeepmdmjaa

open Go.ChangeShapes Go.WideShapes Go.ChangeAt Go.RowKit

section

variable {H : Type} {enc : TypeId × Value → H} {P : Program} {w : World} {base : Nat} {spare : Nat → Bool} {held : Bool}

/-- A slice of slices of bytes. -/
theorem open_bytess {r : Reach} {b0 : Nat} {t s e : TypeId} {v : Value} {d : DataW H} {p : List MemPlace} (ht : P.underlying t = some (.slice s)) (hs : P.underlying s = some (.slice e)) (he : P.underlying e = some (.int .u8)) (hcs : P.cellsOf s = 1) (hce : P.cellsOf e = 1)
    (hv : Value.okWide P w r b0 t v) (h : DataW.Trod enc P w base spare held t v d p) :
    ∃ a n c ls, v = .slice a n c ∧ RowsAt w a n ls ∧ n ≤ c ∧ c ≤ maxLen := by
  obtain ⟨a, n, c, rfl⟩ := okWide_slice ht hv
  obtain ⟨fuel, hf⟩ := h
  rcases Deep.open_slice ht hf with ⟨hcs0, _⟩ | ⟨ad, len, cap, m, k, D, Pl, hcs0, hb, hl, hm, hmm, _, hi⟩
  · simp [Value.cells] at hcs0
    obtain ⟨rfl, rfl, rfl⟩ := hcs0
    exact ⟨_, _, _, [], rfl, ⟨rfl, fun i h => by simp at h⟩, Nat.le_refl _, by unfold maxLen; omega⟩
  · simp [Value.cells] at hcs0
    obtain ⟨rfl, rfl, rfl⟩ := hcs0
    have hnm : n ≤ m := by rw [hmm]; split <;> omega
    have key : ∀ i, i < n → ∃ (l : List UInt8) (a' : Option Addr) (m' c' : Nat), w.cell? (ad.add i) = some (.slice a' m' c') ∧ BAt w w.heap.size a' m' l ∧ m' ≤ maxLen := by
      intro i hin
      obtain ⟨cs', hc, htr⟩ := hi i (by omega)
      rw [hcs, Nat.mul_one] at hc
      obtain ⟨_, hcl, hat⟩ := World.cells?_some hc
      have h0 := hat 0 (by omega)
      have hA : (ad.add i).add 0 = ad.add i := by simp [Addr.add]
      rw [hA] at h0
      have hcs' : cs' = [cs'[0]'(by omega)] := by
        match cs', hcl with
        | [x], _ => rfl
      rw [List.getElem?_eq_getElem (by omega)] at h0
      rw [hcs'] at htr
      rcases open_ints hs he hce htr with ⟨h1, _⟩ | ⟨x, l, c', zs, h1, _, hl', hm', hz, _, hcell, hwz⟩
      · injection h1 with h1
        exact ⟨[], none, 0, 0, by rw [h0, h1], BAt.nil, by unfold maxLen; omega⟩
      · injection h1 with h1
        obtain ⟨bs, hb⟩ := bat_in (len := l) (zs := zs) (by rw [hz]; split <;> omega) hcell hwz
        exact ⟨bs, some x, l, c', by rw [h0, h1], hb, by omega⟩
    by_cases h0 : n = 0
    · subst h0
      exact ⟨_, _, _, [], rfl, ⟨rfl, fun i h => by simp at h⟩, hl, hm⟩
    · obtain ⟨b, off, spot⟩ := ad
      have hspot : spot = none := by
        obtain ⟨_, _, _, _, hc0, _⟩ := key 0 (by omega)
        simpa [Addr.add] using World.cell?_spot hc0
      subst hspot
      refine ⟨_, _, _, (List.range n).map fun i => if h : i < n then Classical.choose (key i h) else [], rfl, ⟨by simp, fun i hi => ?_⟩, hl, hm⟩
      have hin : i < n := by simpa using hi
      obtain ⟨a', m', c', h1, h2, h3⟩ := Classical.choose_spec (key i hin)
      rw [add_plain] at h1
      refine ⟨b, off, a', m', c', rfl, h1, ?_, h3⟩
      have e : ((List.range n).map fun i => if h : i < n then Classical.choose (key i h) else [])[i]'hi = Classical.choose (key i hin) := by simp [hin]
      rw [e]; exact h2
end

end Go.Proofs.Ytclfgkeepmdmjaa
