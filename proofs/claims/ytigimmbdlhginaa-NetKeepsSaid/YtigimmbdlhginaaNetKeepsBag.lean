/- The bag of the one link, as numbers of packets: sent, moved, taken. No condition. -/
import Derived.Test.YtigimmbdlhginaaNetKeepsMath

import Derived.Test.YtigimmbdlhginaaNetKeepsLaw

namespace Go.Proofs.Ytigimmbdlhginaa

open Go.RowKit

set_option linter.unusedVariables false
set_option linter.unusedSimpArgs false

/-- The link that the law uses. -/
abbrev lk12 : Lk := (1, 2)
/-- The one bag holds the packets of the numbers o, each below n, each once, and nothing else is there. -/
structure BagO (n : Nat) (bs : Bags) (o : List Nat) : Prop where
  get : getB bs lk12 = o.map pk1
  tot : tot bs = o.length
  left : Lft n o
section

variable {n : Nat} {bs : Bags} {o : List Nat}

theorem BagO.start (n : Nat) : BagO n [] [] := ⟨rfl, rfl, List.nodup_nil, fun x hx => by cases hx⟩
theorem BagO.len (h : BagO n bs o) : (getB bs lk12).length = o.length := by rw [h.get, List.length_map]
theorem BagO.to (h : BagO n bs o) (hg : Good bs) {o' : List Nat} (hl : Lft n o') (l : List Pk) (he : l = o'.map pk1) : BagO n (keepB bs lk12 l) o' := by
  subst he
  refine ⟨by rw [getB_keep, if_pos rfl], ?_, hl⟩
  have h1 := tot_keep hg lk12 (o'.map pk1)
  rw [h.len, List.length_map, h.tot] at h1
  omega
theorem BagO.sent {k : Nat} (h : BagO n bs (List.range k)) (hg : Good bs) (hk : k < n) : BagO n (keepB bs lk12 (getB bs lk12 ++ [pk1 k])) (List.range (k + 1)) :=
  h.to hg ⟨List.nodup_range, fun x hx => by have := List.mem_range.1 hx; omega⟩ _ (by rw [h.get, List.range_succ, List.map_append]; rfl)
theorem BagO.moved (h : BagO n bs o) (hg : Good bs) (a b : Nat) (ha : a < (getB bs lk12).length) : ∃ o', o'.length = o.length ∧ BagO n (keepB bs lk12 (putAt ((getB bs lk12).eraseIdx a) b (getB bs lk12)[a])) o' := by
  have ha' : a < o.length := by rw [h.len] at ha; exact ha
  refine ⟨putAt (o.eraseIdx a) b o[a], (putAt_perm o a b ha').length_eq, h.to hg (h.left.moved a b ha') _ ?_⟩
  have e : (getB bs lk12)[a] = pk1 o[a] := by simp only [h.get, List.getElem_map]
  rw [e, h.get, eraseIdx_map, putAt_map]
theorem BagO.taken (h : BagO n bs o) (hg : Good bs) (a : Nat) : BagO n (keepB bs lk12 ((getB bs lk12).eraseIdx a)) (o.eraseIdx a) :=
  h.to hg (h.left.taken a) _ (by rw [h.get, eraseIdx_map])
theorem BagO.none (h : BagO n bs []) (hg : Good bs) : bs = [] := by
  cases bs with
  | nil => rfl
  | cons x r =>
    have h1 := hg.ne x (List.mem_cons_self ..)
    have h2 := h.tot
    have h3 : 0 < x.2.length := List.length_pos_iff.2 h1
    simp [Go.Proofs.Ytigimmbdlhginaa.tot] at h2
    exact absurd h2.1 h1
end

end Go.Proofs.Ytigimmbdlhginaa
