/- What came in, opened: an array of integers; a byte. No condition. -/
import Derived.Test.YtclfgkeepmdmjaaCodeOpen

namespace Go.Proofs.Ytclfgkeepmdmjaa

open Go.ChangeShapes Go.WideShapes Go.ChangeAt Go.RowKit

theorem u8_of {x : Int} (h : (Lit.int .u8 x).wf = true) : ∃ y : UInt8, x = (y.toNat : Int) := by
  have hr : 0 ≤ x ∧ x < 256 := by simp [Lit.wf, IntKind.min, IntKind.max, IntKind.bits, IntKind.signed] at h; omega
  refine ⟨UInt8.ofNat x.toNat, ?_⟩
  have e2 : (UInt8.ofNat x.toNat).toNat = x.toNat % 256 := UInt8.toNat_ofNat'
  rw [e2]; omega
section

variable {H : Type} {enc : TypeId × Value → H} {P : Program} {w : World} {base : Nat} {spare : Nat → Bool} {held : Bool}

/-- An array of integers. -/
theorem open_array {r : Reach} {b0 n : Nat} {t e : TypeId} {k : IntKind} {v : Value} {d : DataW H} {p : List MemPlace} (ht : P.underlying t = some (.array n e)) (he : P.underlying e = some (.int k)) (hc : P.cellsOf t = n) (hce : P.cellsOf e = 1)
    (hv : Value.okWide P w r b0 t v) (h : DataW.Trod enc P w base spare held t v d p) :
    ∃ xs : List Int, xs.length = n ∧ v = .agg (xs.map (Value.int k)).toArray ∧ ∀ x ∈ xs, (Lit.int k x).wf = true := by
  simp only [Value.okWide, ht] at hv
  obtain ⟨cs, rfl, hsz, _⟩ := hv
  obtain ⟨fuel, hf⟩ := h
  obtain ⟨ys, m, _, _, hl, hn, hi⟩ := DataW.trod_array ht hf
  obtain ⟨l⟩ := cs
  have hsz' : l.length = n := hsz.trans hc
  have hp : ∀ u ∈ l, ∃ x, u = .int k x ∧ (Lit.int k x).wf = true := by
    intro u hu
    obtain ⟨i, hil, rfl⟩ := List.getElem_of_mem hu
    have h1 := hi i (by omega)
    rw [List.getElem?_eq_getElem (by omega), hce, Nat.mul_one] at h1
    have h2 : ((Value.agg ⟨l⟩).cells.toList.drop i).take 1 = [l[i]] := by
      show (l.drop i).take 1 = _
      rw [List.drop_eq_getElem_cons hil]; rfl
    rw [h2] at h1
    obtain ⟨x, ex, _, wx⟩ := DataW.trod_int he h1
    injection ex with ex
    exact ⟨x, ex, wx⟩
  refine ⟨l.map intOf, by simpa using hsz', ?_, ?_⟩
  · congr 1
    show (⟨l⟩ : Array Value) = ⟨_⟩
    congr 1
    rw [List.map_map]
    symm
    have : ∀ u ∈ l, (Value.int k ∘ intOf) u = id u := by
      intro u hu
      obtain ⟨x, rfl, _⟩ := hp u hu
      rfl
    rw [List.map_congr_left this, List.map_id]
  · intro x hx
    obtain ⟨u, hu, rfl⟩ := List.mem_map.1 hx
    obtain ⟨x, rfl, wx⟩ := hp u hu
    exact wx
end

end Go.Proofs.Ytclfgkeepmdmjaa
