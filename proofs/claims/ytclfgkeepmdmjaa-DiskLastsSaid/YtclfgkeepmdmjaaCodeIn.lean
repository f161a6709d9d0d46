/- What came in as a slice of bytes reads as a list of bytes. No condition. -/
import Derived.Test.YtclfgkeepmdmjaaCodeBytes

namespace Go.Proofs.Ytclfgkeepmdmjaa

open Go.RowKit

theorem block_lt {w : World} {p : Addr} {v : Value} (h : w.cell? p = some v) : p.block < w.heap.size := by
  rcases Nat.lt_or_ge p.block w.heap.size with h1 | h1
  · exact h1
  · exfalso
    unfold World.cell? at h
    rw [Array.getElem?_eq_none h1] at h
    simp at h

theorem bat_in {w : World} {x : Addr} {len : Nat} {zs : List Int} (hl : len ≤ zs.length) (hc : ∀ i, i < zs.length → w.cell? (x.add i) = some (.int .u8 (zs.getD i 0))) (hw : ∀ n ∈ zs, (Lit.int .u8 n).wf = true) :
    ∃ l, BAt w w.heap.size (some x) len l := by
  refine ⟨(zs.take len).map fun n => UInt8.ofNat n.toNat, by simp; omega, ?_⟩
  by_cases h0 : len = 0
  · exact .inl h0
  · obtain ⟨b, off, spot⟩ := x
    have hc0 := hc 0 (by omega)
    have hspot : spot = none := by simpa [Addr.add] using World.cell?_spot hc0
    subst hspot
    refine .inr ⟨b, off, rfl, by simpa [Addr.add] using block_lt hc0, fun i hi => ?_⟩
    have hi' : i < zs.length := by simp at hi; omega
    have h1 := hc i hi'
    rw [add_plain] at h1
    rw [h1]
    have hg : zs.getD i 0 = zs[i] := by simp [List.getD, List.getElem?_eq_getElem hi']
    have hm := hw zs[i] (List.getElem_mem hi')
    have hr : 0 ≤ zs[i] ∧ zs[i] < 256 := by simp [Lit.wf, IntKind.min, IntKind.max, IntKind.bits, IntKind.signed] at hm; omega
    rw [hg]
    have e1 : ((zs.take len).map fun n => UInt8.ofNat n.toNat)[i]'hi = UInt8.ofNat (zs[i]).toNat := by simp
    have e2 : (UInt8.ofNat (zs[i]).toNat).toNat = (zs[i]).toNat % 256 := UInt8.toNat_ofNat'
    rw [e1, e2]
    congr 2
    omega
end Go.Proofs.Ytclfgkeepmdmjaa
