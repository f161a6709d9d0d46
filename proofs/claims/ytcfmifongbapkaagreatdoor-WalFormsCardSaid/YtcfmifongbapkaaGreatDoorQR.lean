
/- What came in, opened: an array of two integers; a slice of bytes. No condition. What came in, opened: lists of integers and of texts, also as fields of a struct. No condition. Contracts of config's own small functions: sizes, keys, order, counts and sums. Conditions: the lists lie in memory. -/
import Derived.Test.YtcfmifongbapkaaGreatDoorQC
import Derived.OpenShut
import Derived.ChangeOld
import Derived.ProofKit
import Derived.Test.YtcfmifongbapkaaGreatDoorQF
import Derived.Deep.Slices
import Derived.Test.YtcfmifongbapkaaGreatDoorQE
import Derived.Tactics2
import Derived.Deep.DeepCutAuto
import Derived.Deep.QuietTactic
import Derived.BigQuiet
import Derived.WalkLawsBesides
/- CodeOpen -/
namespace Go.Proofs.YtcfmifongbapkaaGreatDoor

open Go.ChangeShapes Go.WideShapes Go.ChangeAt Go.RowKit

section

variable {H : Type} {enc : TypeId × Value → H} {P : Program} {w : World} {base : Nat} {spare : Nat → Bool} {held : Bool}

/-- A slice of bytes. -/
theorem open_bytes {r : Reach} {b0 : Nat} {t e : TypeId} {v : Value} {d : DataW H} {p : List MemPlace} (ht : P.underlying t = some (.slice e)) (he : P.underlying e = some (.int .u8)) (hce : P.cellsOf e = 1)
    (hv : Value.okWide P w r b0 t v) (h : DataW.Trod enc P w base spare held t v d p) :
    ∃ a n c l, v = .slice a n c ∧ BAt w w.heap.size a n l ∧ n ≤ c ∧ c ≤ maxLen := by
  obtain ⟨a, n, c, rfl⟩ := okWide_slice ht hv
  obtain ⟨fuel, hf⟩ := h
  rcases open_ints ht he hce hf with ⟨hcs, _⟩ | ⟨x, l, c', zs, hcs, _, hl, hm, hz, _, hcell, hwz⟩
  · simp [Value.cells] at hcs
    obtain ⟨rfl, rfl, rfl⟩ := hcs
    exact ⟨_, _, _, [], rfl, BAt.nil, Nat.le_refl _, by unfold maxLen; omega⟩
  · simp [Value.cells] at hcs
    obtain ⟨rfl, rfl, rfl⟩ := hcs
    obtain ⟨bs, hb⟩ := bat_in (len := n) (zs := zs) (by rw [hz]; split <;> omega) hcell hwz
    exact ⟨_, _, _, bs, rfl, hb, hl, hm⟩
end

end Go.Proofs.YtcfmifongbapkaaGreatDoor

/- OpenLists -/
namespace Go.Proofs.YtcfmifongbapkaaGreatDoor

open Go.ChangeShapes Go.WideShapes Go.ChangeAt Go.RowKit

/-- A slice of integers, of texts, reads as the list l. -/
def IntsAt (w : World) (B : Nat) (a : Option Addr) (n : Nat) (l : List Int) : Prop := l.length = n ∧ RowAt w B a n 1 (l.map (Value.int .i64))
def StrsAt (w : World) (B : Nat) (a : Option Addr) (n : Nat) (l : List ByteArray) : Prop := l.length = n ∧ RowAt w B a n 1 (l.map Value.string)
section

variable {w w' : World} {B B' n : Nat} {a : Option Addr}

theorem StrsAt.at_ {l : List ByteArray} (h : StrsAt w B a n l) {i : Nat} (hi : i < l.length) : ∃ b off, a = some ⟨b, off, none⟩ ∧ b < B ∧ w.cell? ⟨b, off + i, none⟩ = some (.string l[i]) := by
  obtain ⟨b, off, ha, hb, hc⟩ := h.2.addr (by have := h.1; omega)
  exact ⟨b, off, ha, hb, hc i _ (by simp [hi])⟩
end

section

variable {H : Type} {enc : TypeId × Value → H} {P : Program} {w : World} {base : Nat} {spare : Nat → Bool} {held : Bool}

theorem trod_row1 {α : Type} (f : α → Value) (Q : α → Prop) {t e : TypeId} {fuel : Nat} {u : Value} {x : DataW H × List MemPlace} (ht : P.underlying t = some (.slice e)) (hc : P.cellsOf e = 1) (h : DataW.trod enc P w base spare held fuel t [u] = some x)
    (hf : ∀ (k : Nat) (v : Value) (y : DataW H × List MemPlace), DataW.trod enc P w base spare held k e [v] = some y → ∃ z : α, v = f z ∧ Q z) :
    ∃ a n c, u = .slice a n c ∧ n ≤ c ∧ c ≤ maxLen ∧ ∃ l : List α, l.length = n ∧ RowAt w w.heap.size a n 1 (l.map f) ∧ ∀ z ∈ l, Q z := by
  rcases Deep.open_slice1 ht hc h with ⟨h0, _⟩ | ⟨ad, len, cap, m, n', V, D, Pl, h0, hb, hl, hm, hmm, _, hi⟩
  · injection h0 with h0
    exact ⟨_, _, _, h0, Nat.le_refl _, by unfold maxLen; omega, [], rfl, RowAt.nil, fun z hz => by cases hz⟩
  · injection h0 with h0
    have hnm : len ≤ m := by rw [hmm]; split <;> omega
    have key : ∀ i, ∃ z : Option α, i < len → ∃ z', z = some z' ∧ w.cell? (ad.add i) = some (f z') ∧ Q z' := by
      intro i
      by_cases hil : i < len
      · obtain ⟨h1, h2⟩ := hi i (by omega)
        obtain ⟨z, hz, hq⟩ := hf _ _ _ h2
        exact ⟨some z, fun _ => ⟨z, rfl, by rw [h1, hz], hq⟩⟩
      · exact ⟨none, fun h => absurd h hil⟩
    obtain ⟨Z, hZ⟩ := Classical.axiomOfChoice key
    by_cases h00 : len = 0
    · subst h00
      exact ⟨_, _, _, h0, hl, hm, [], rfl, RowAt.nil, fun z hz => by cases hz⟩
    · obtain ⟨b, off, spot⟩ := ad
      have hspot : spot = none := by
        obtain ⟨z, _, hc0, _⟩ := hZ 0 (by omega)
        simpa [Addr.add] using World.cell?_spot hc0
      subst hspot
      have hbl : b < w.heap.size := by
        obtain ⟨z, _, hc0, _⟩ := hZ 0 (by omega)
        simpa [Addr.add] using block_lt hc0
      have hlen : ((List.range len).filterMap Z).length = len ∧ ∀ i, i < len → ∃ z, ((List.range len).filterMap Z)[i]? = some z ∧ Z i = some z := by
        have : ∀ k, k ≤ len → ((List.range k).filterMap Z).length = k ∧ ∀ i, i < k → ∃ z, ((List.range k).filterMap Z)[i]? = some z ∧ Z i = some z := by
          intro k
          induction k with
          | zero => intro _; exact ⟨rfl, fun i hi => by omega⟩
          | succ k ih =>
            intro hk
            obtain ⟨h1, h2⟩ := ih (by omega)
            obtain ⟨z, hz, _⟩ := hZ k (by omega)
            have e : (List.range (k + 1)).filterMap Z = (List.range k).filterMap Z ++ [z] := by rw [List.range_succ, List.filterMap_append]; simp [hz]
            refine ⟨by rw [e]; simp [h1], fun i hi => ?_⟩
            rw [e]
            by_cases hik : i < k
            · obtain ⟨z', hz', hz''⟩ := h2 i hik
              exact ⟨z', by rw [List.getElem?_append_left (by omega)]; exact hz', hz''⟩
            · obtain rfl : i = k := by omega
              exact ⟨z, by rw [List.getElem?_append_right (by omega)]; simp [h1], hz⟩
        exact this len (Nat.le_refl _)
      refine ⟨_, _, _, h0, hl, hm, (List.range len).filterMap Z, hlen.1, ⟨by simp [hlen.1], .inr ⟨b, off, rfl, hbl, fun j u hu => ?_⟩⟩, fun z hz => ?_⟩
      · have hj : j < len := by
          rcases Nat.lt_or_ge j len with h | h
          · exact h
          · rw [List.getElem?_eq_none (by simpa [hlen.1] using h)] at hu; cases hu
        obtain ⟨z, h1, h2⟩ := hlen.2 j hj
        obtain ⟨z', h3, h4, _⟩ := hZ j hj
        rw [h2] at h3; injection h3 with h3; subst h3
        rw [List.getElem?_map, h1] at hu
        injection hu with hu
        rw [← hu]
        rw [add_plain] at h4
        exact h4
      · obtain ⟨i, hi', hz'⟩ := List.mem_filterMap.1 hz
        have hi2 : i < len := by simpa using hi'
        obtain ⟨z', h3, _, h5⟩ := hZ i hi2
        rw [h3] at hz'; injection hz' with hz'; subst hz'
        exact h5
end

end Go.Proofs.YtcfmifongbapkaaGreatDoor

/- ConfigProg -/
namespace Go.Proofs.YtcfmifongbapkaaGreatDoor

open Go.RowKit
end Go.Proofs.YtcfmifongbapkaaGreatDoor
