/- What came in, opened: a struct by value, whatever its fields; a list of elements of k cells, also as a field. No condition. -/
import Derived.Test.YtclfgkeepmdmjaaOpenLists

namespace Go.Proofs.Ytclfgkeepmdmjaa

open Go.ChangeShapes Go.WideShapes Go.ChangeAt Go.RowKit

section

variable {H : Type} {enc : TypeId × Value → H} {P : Program} {w : World} {base : Nat} {spare : Nat → Bool} {held : Bool}

/-- A struct by value: its cells, trodden as one. -/
theorem open_agg {r : Reach} {b0 : Nat} {t : TypeId} {fs : Array Field} {v : Value} {d : DataW H} {p : List MemPlace} (ht : P.underlying t = some (.struct fs))
    (hv : Value.okWide P w r b0 t v) (h : DataW.Trod enc P w base spare held t v d p) :
    ∃ cs : List Value, v = .agg ⟨cs⟩ ∧ cs.length = P.cellsOf t ∧ ∃ fuel y, DataW.trod enc P w base spare held fuel t cs = some y := by
  simp only [Value.okWide, ht] at hv
  obtain ⟨cs, rfl, hsz, _⟩ := hv
  obtain ⟨fuel, hf⟩ := h
  obtain ⟨l⟩ := cs
  exact ⟨l, rfl, hsz, fuel, _, hf⟩
/-- A struct's field: its cells. -/
theorem trod_field {t : TypeId} {fs : Array Field} {fuel : Nat} {cs : List Value} {x : DataW H × List MemPlace} (ht : P.underlying t = some (.struct fs)) (h : DataW.trod enc P w base spare held fuel t cs = some x) :
    ∀ (j : Nat) (f : Field), fs[j]? = some f → ∃ (n : Nat) (y : DataW H × List MemPlace), DataW.trod enc P w base spare held n f.type ((cs.drop f.offset).take (P.cellsOf f.type)) = some y := by
  obtain ⟨ys, n, _, _, _, hyl, hg⟩ := DataW.trod_struct ht h
  intro j f hj
  have hjl : j < ys.length := by rw [hyl]; exact (Array.getElem?_eq_some_iff.1 hj).1
  exact ⟨n, ys[j], (hg j f hj).trans (List.getElem?_eq_getElem hjl)⟩
/-- A list of elements of k cells each. -/
theorem trod_rowk {α : Type} (f : α → List Value) (Q : α → Prop) (k : Nat) (hk : 0 < k) (hf : ∀ x, (f x).length = k) {t e : TypeId} {fuel : Nat} {u : Value} {x : DataW H × List MemPlace} (ht : P.underlying t = some (.slice e)) (hc : P.cellsOf e = k) (h : DataW.trod enc P w base spare held fuel t [u] = some x)
    (hE : ∀ (n : Nat) (cs : List Value) (y : DataW H × List MemPlace), cs.length = k → DataW.trod enc P w base spare held n e cs = some y → ∃ z : α, cs = f z ∧ Q z) :
    ∃ a n c, u = .slice a n c ∧ n ≤ c ∧ c ≤ maxLen ∧ ∃ l : List α, l.length = n ∧ RowAt w w.heap.size a n k (l.flatMap f) ∧ ∀ z ∈ l, Q z := by
  rcases Deep.open_slice ht h with ⟨h0, _⟩ | ⟨ad, len, cap, m, n', D, Pl, h0, hb, hl, hm, hmm, _, hi⟩
  · injection h0 with h0
    exact ⟨_, _, _, h0, Nat.le_refl _, by unfold maxLen; omega, [], rfl, RowAt.nil, fun z hz => by cases hz⟩
  · injection h0 with h0
    have hnm : len ≤ m := by rw [hmm]; split <;> omega
    have key : ∀ i, ∃ z : Option α, i < len → ∃ z', z = some z' ∧ (∀ j, j < k → w.cell? ((ad.add (i * k)).add j) = (f z')[j]?) ∧ Q z' := by
      intro i
      by_cases hil : i < len
      · obtain ⟨cs', h1, h2⟩ := hi i (by omega)
        rw [hc] at h1
        obtain ⟨_, hcl, hat⟩ := World.cells?_some h1
        obtain ⟨z, hz, hq⟩ := hE _ _ _ hcl h2
        exact ⟨some z, fun _ => ⟨z, rfl, fun j hj => by rw [hat j hj, hz], hq⟩⟩
      · exact ⟨none, fun h => absurd h hil⟩
    obtain ⟨Z, hZ⟩ := Classical.axiomOfChoice key
    by_cases h00 : len = 0
    · subst h00
      exact ⟨_, _, _, h0, hl, hm, [], rfl, RowAt.nil, fun z hz => by cases hz⟩
    · obtain ⟨b, off, spot⟩ := ad
      obtain ⟨z0, _, hc0, _⟩ := hZ 0 (by omega)
      have hc00 := hc0 0 hk
      rw [List.getElem?_eq_getElem (by rw [hf]; exact hk)] at hc00
      have hspot : spot = none := by simpa [Addr.add] using World.cell?_spot hc00
      subst hspot
      have hbl : b < w.heap.size := by simpa [Addr.add] using block_lt hc00
      have hlen : ((List.range len).filterMap Z).length = len ∧ ∀ i, i < len → ∃ z, ((List.range len).filterMap Z)[i]? = some z ∧ Z i = some z := by
        have : ∀ q, q ≤ len → ((List.range q).filterMap Z).length = q ∧ ∀ i, i < q → ∃ z, ((List.range q).filterMap Z)[i]? = some z ∧ Z i = some z := by
          intro q
          induction q with
          | zero => intro _; exact ⟨rfl, fun i hi => by omega⟩
          | succ q ih =>
            intro hq
            obtain ⟨h1, h2⟩ := ih (by omega)
            obtain ⟨z, hz, _⟩ := hZ q (by omega)
            have e : (List.range (q + 1)).filterMap Z = (List.range q).filterMap Z ++ [z] := by rw [List.range_succ, List.filterMap_append]; simp [hz]
            refine ⟨by rw [e]; simp [h1], fun i hi => ?_⟩
            rw [e]
            by_cases hik : i < q
            · obtain ⟨z', hz', hz''⟩ := h2 i hik
              exact ⟨z', by rw [List.getElem?_append_left (by omega)]; exact hz', hz''⟩
            · obtain rfl : i = q := by omega
              exact ⟨z, by rw [List.getElem?_append_right (by omega)]; simp [h1], hz⟩
        exact this len (Nat.le_refl _)
      refine ⟨_, _, _, h0, hl, hm, (List.range len).filterMap Z, hlen.1, ⟨by rw [flat_len f k hf, hlen.1], .inr ⟨b, off, rfl, hbl, fun j u hu => ?_⟩⟩, fun z hz => ?_⟩
      · have hj : j < len * k := by
          rcases Nat.lt_or_ge j (len * k) with h | h
          · exact h
          · rw [List.getElem?_eq_none (by rw [flat_len f k hf, hlen.1]; exact h)] at hu; cases hu
        have hq : j / k < len := Nat.div_lt_of_lt_mul (by rw [Nat.mul_comm]; exact hj)
        have hr : j % k < k := Nat.mod_lt _ hk
        have ej : j / k * k + j % k = j := by rw [Nat.mul_comm]; exact Nat.div_add_mod j k
        obtain ⟨z, h1, h2⟩ := hlen.2 (j / k) hq
        obtain ⟨z', h3, h4, _⟩ := hZ (j / k) hq
        rw [h2] at h3; injection h3 with h3; subst h3
        have e := flat_get f k hf ((List.range len).filterMap Z) (j / k) (j % k) (by rw [hlen.1]; exact hq) hr
        have ez : ((List.range len).filterMap Z)[j / k]'(by rw [hlen.1]; exact hq) = z := by
          have := List.getElem?_eq_getElem (l := (List.range len).filterMap Z) (i := j / k) (by rw [hlen.1]; exact hq)
          rw [h1] at this; injection this with this; exact this.symm
        rw [ej, hu, ez] at e
        have h5 := h4 (j % k) hr
        rw [add_plain, add_plain, Nat.add_assoc, ej] at h5
        rw [h5, ← e]
      · obtain ⟨i, hi', hz'⟩ := List.mem_filterMap.1 hz
        have hi2 : i < len := by simpa using hi'
        obtain ⟨z', h3, _, h5⟩ := hZ i hi2
        rw [h3] at hz'; injection hz' with hz'; subst hz'
        exact h5
end

end Go.Proofs.Ytclfgkeepmdmjaa
