/- What a walk is told of a list of numbers that came in, and that it stays so where the world has only drawn from the tape. No conditions beyond those that each theorem names. -/
import Derived.Test.YtbdccfggnbopgaaRefBest
import Derived.Below
namespace Go.Proofs.Ytbdccfggnbopgaa
open Go.RowKit

/-- WHAT THE WALK IS TOLD OF A SLICE OF INTEGERS THAT CAME IN: it is nil; or it leads to a row of 'cap' cells, the numbers 'zs' (the first 'len' are its elements, the rest its spare room), each fitting its kind. -/
def IsRow (k : IntKind) (w : World) (a : Option Addr) (len cap : Nat) (zs : List Int) : Prop :=
  (a = none ∧ len = 0 ∧ cap = 0 ∧ zs = []) ∨
  ∃ x, a = some x ∧ len ≤ cap ∧ cap ≤ maxLen ∧ zs.length = cap ∧ (∀ i, i < zs.length → w.cell? (x.add i) = some (.int k (zs.getD i 0))) ∧ ∀ n ∈ zs, (Lit.int k n).wf = true

theorem IsRow.lies {w : World} {a : Option Addr} {len cap : Nat} {zs : List Int} (h : IsRow .u64 w a len cap zs) : ∃ f, Lies w a len cap f := by
  rcases h with ⟨rfl, rfl, rfl, rfl⟩ | ⟨x, rfl, hl, hm, hz, hcell, hwz⟩
  · exact ⟨fun _ => 0, .inl rfl⟩
  · by_cases h0 : len = 0
    · exact ⟨fun _ => 0, .inl h0⟩
    · obtain ⟨b, off, spot⟩ := x
      have hc := hcell 0 (by omega)
      have hspot : spot = none := by simpa [Addr.add] using World.cell?_spot hc
      subst hspot
      refine ⟨fun i => (zs.getD i 0).toNat, .inr ⟨b, off, rfl, by omega, hl, hm, fun i hi => ?_⟩⟩
      have hi' : i < zs.length := by omega
      have hc := hcell i hi'
      have hw := hwz (zs.getD i 0) (by rw [show zs.getD i 0 = zs[i] by simp [List.getD, hi']]; exact List.getElem_mem hi')
      obtain ⟨n, e, hn⟩ := nat_of hw
      show w.cell? _ = some (Value.int .u64 (((zs.getD i 0).toNat : Nat) : Int)) ∧ (zs.getD i 0).toNat < _
      rw [e] at hc ⊢
      have ha : (⟨b, off, none⟩ : Addr).add i = ⟨b, off + i, none⟩ := by by_cases c : i = 0 <;> simp [Addr.add, c]
      rw [ha] at hc
      exact ⟨by simpa using hc, by simpa using hn⟩

theorem Drawn.lies {w w' : World} (h : Drawn w w') {a : Option Addr} {len cap : Nat} {f : Nat → Nat} (k : Lies w a len cap f) : Lies w' a len cap f := by
  rcases k with k | ⟨b, off, rfl, hl, hlc, hcap, hrow⟩
  · exact .inl k
  · exact .inr ⟨b, off, rfl, hl, hlc, hcap, h.holds hrow⟩
theorem Drawn.trans {a b c : World} (h : Drawn a b) (k : Drawn b c) : Drawn a c := by
  obtain ⟨n, rfl⟩ := k
  exact h.more n
theorem Drawn.below {w w' : World} (h : Drawn w w') (B : Nat) : Below B w w' := by
  obtain ⟨n, rfl⟩ := h
  exact ⟨rfl, rfl, rfl, Nat.le_refl _, fun _ _ => rfl⟩
end Go.Proofs.Ytbdccfggnbopgaa
