/- Plain mathematics of layer config: when a configuration is formed, and what is answered of it. No condition. Plain mathematics of layer txn: ids, formed transactions, their groups and cuts, their bytes. No condition. -/
import Derived.Test.YtcfmifongbapkaaGreatDoorQC
import Derived.Test.YtcfmifongbapkaaGreatDoorQD
import Derived.Test.YtcfmifongbapkaaGreatDoorQB
/- ConfigForm -/
namespace Go.Proofs.YtcfmifongbapkaaGreatDoor

/-- The texts' bytes. -/
def txt (Bs : List ByteArray) : List (List UInt8) := Bs.map fun s => s.data.toList
theorem txt_len (Bs : List ByteArray) : (txt Bs).length = Bs.length := by simp [txt]
theorem txt_get (Bs : List ByteArray) (i : Nat) (h : i < Bs.length) : (txt Bs)[i]'(by rw [txt_len]; exact h) = Bs[i].data.toList := by simp [txt]
theorem txt_take (Bs : List ByteArray) (i : Nat) : txt (Bs.take i) = (txt Bs).take i := by simp [txt, List.map_take]
theorem txt_snoc (Bs : List ByteArray) (i : Nat) (h : i < Bs.length) : txt (Bs.take (i + 1)) = txt (Bs.take i) ++ [Bs[i].data.toList] := by
  rw [List.take_succ_eq_append_getElem h]; unfold txt; rw [List.map_append]; rfl

/-- A group's size. -/
def sizeB (z : Int) : Bool := z == 1 || (z == 3 || z == 5)
theorem sizeB_cases {z : Int} (h : sizeB z = true) : z = 1 ∨ z = 3 ∨ z = 5 := by simpa [sizeB] using h
theorem all_bad {α : Type} (p : α → Bool) (l : List α) (k : Nat) (h : k < l.length) (hp : p l[k] = false) : l.all p = false :=
  List.all_eq_false.2 ⟨l[k], List.getElem_mem h, by rw [hp]; simp⟩
theorem all_next {α : Type} (p : α → Bool) (l : List α) (k : Nat) (h : k < l.length) (ht : (l.take k).all p = true) (hp : p l[k] = true) : (l.take (k + 1)).all p = true := by
  rw [List.take_succ_eq_append_getElem h, List.all_append, ht]; simp [hp]
theorem all_done {α : Type} (p : α → Bool) (l : List α) (k : Nat) (h : l.length ≤ k) (ht : (l.take k).all p = true) : l.all p = true := by
  rwa [List.take_of_length_le h] at ht

/-- Each bound is above the one ahead of it. -/
def adjB (L : List (List UInt8)) : Bool := (List.range (L.length - 1)).all fun i => !leB (L[i + 1]?.getD []) (L[i]?.getD [])
theorem adj_bad (L : List (List UInt8)) (k : Nat) (h : k + 1 < L.length) (hp : leB L[k + 1] L[k] = true) : adjB L = false := by
  unfold adjB
  rw [List.all_eq_false]
  refine ⟨k, by simp; omega, ?_⟩
  rw [List.getElem?_eq_getElem h, List.getElem?_eq_getElem (by omega)]
  simp [hp]
theorem adj_all (L : List (List UInt8)) (h : ∀ k (hk : k + 1 < L.length), leB L[k + 1] L[k] = false) : adjB L = true := by
  unfold adjB
  rw [List.all_eq_true]
  intro i hi
  have hi' : i + 1 < L.length := by simp at hi; omega
  rw [List.getElem?_eq_getElem hi', List.getElem?_eq_getElem (by omega)]
  simp [h i hi']
theorem adj_get (L : List (List UInt8)) (h : adjB L = true) (k : Nat) (hk : k + 1 < L.length) : leB L[k + 1] L[k] = false := by
  cases e : leB L[k + 1] L[k]
  · rfl
  · rw [adj_bad L k hk e] at h; cases h
theorem lt_of_leB {a b : List UInt8} (h : leB b a = false) : a < b := by
  rcases Classical.em (a < b) with h' | h'
  · exact h'
  · rw [(leB_iff b a).2 h'] at h; cases h
theorem adj_rises (L : List (List UInt8)) (h : adjB L = true) : risesB L := by
  have key : ∀ j i (hj : j < L.length) (hij : i < j), L[i]'(by omega) < L[j] := by
    intro j
    induction j with
    | zero => intro i _ h; omega
    | succ j ih =>
      intro i hj hij
      have h1 := lt_of_leB (adj_get L h j hj)
      by_cases e : i = j
      · subst e; exact h1
      · exact List.lt_trans (ih i (by omega) (by omega)) h1
  exact List.pairwise_iff_getElem.2 fun i j _ hj hij => key j i hj hij

/-- A configuration is formed. -/
def formedC (R : List Int) (L : List (List UInt8)) : Bool :=
  (decide (1 ≤ R.length) && (decide (R.length ≤ 4) && decide (L.length + 1 = R.length))) && (R.all sizeB && (L.all keyB && adjB L))
theorem formed_len {R : List Int} {L : List (List UInt8)} (h : R.length < 1 ∨ 4 < R.length ∨ L.length + 1 ≠ R.length) : formedC R L = false := by
  unfold formedC
  rw [Bool.and_eq_false_iff]
  left
  rw [Bool.and_eq_false_iff, Bool.and_eq_false_iff, decide_eq_false_iff_not, decide_eq_false_iff_not, decide_eq_false_iff_not]
  omega
theorem formed_parts {R : List Int} {L : List (List UInt8)} (h1 : 1 ≤ R.length) (h2 : R.length ≤ 4) (h3 : L.length + 1 = R.length) : formedC R L = (R.all sizeB && (L.all keyB && adjB L)) := by
  unfold formedC
  rw [decide_eq_true h1, decide_eq_true h2, decide_eq_true h3]; rfl
structure FormedP (R : List Int) (L : List (List UInt8)) : Prop where
  lo : 1 ≤ R.length
  hi : R.length ≤ 4
  len : L.length + 1 = R.length
  sizes : R.all sizeB = true
  keys : L.all keyB = true
  adj : adjB L = true
theorem formed_yes {R : List Int} {L : List (List UInt8)} (h : formedC R L = true) : FormedP R L := by
  unfold formedC at h
  simp only [Bool.and_eq_true, decide_eq_true_eq] at h
  obtain ⟨⟨a, b, c⟩, d, e, f⟩ := h
  exact ⟨a, b, c, d, e, f⟩
theorem FormedP.size {R : List Int} {L : List (List UInt8)} (h : FormedP R L) (z : Int) (hz : z ∈ R) : z = 1 ∨ z = 3 ∨ z = 5 := sizeB_cases (List.all_eq_true.1 h.sizes z hz)
theorem FormedP.rises {R : List Int} {L : List (List UInt8)} (h : FormedP R L) : risesB L := adj_rises L h.adj
theorem FormedP.full {R : List Int} {L : List (List UInt8)} (h : FormedP R L) (b : List UInt8) (hb : b ∈ L) : b ≠ [] := by
  have := List.all_eq_true.1 h.keys b hb
  intro e; subst e; cases this
theorem FormedP.home {R : List Int} {L : List (List UInt8)} (h : FormedP R L) (k : List UInt8) : homeC L k < R.length := by
  have := homeC_le L k; have := h.len; omega

/-- What is answered: a key's group, the groups of keys. -/
def homeI (R : List Int) (L : List (List UInt8)) (k : List UInt8) : Int := if formedC R L then (homeC L k : Nat) else -1
theorem home_of {R : List Int} {L : List (List UInt8)} (h : formedC R L = true) (k : List UInt8) : homeI R L k = (homeC L k : Nat) := by unfold homeI; rw [if_pos h]
def groupsI (R : List Int) (L : List (List UInt8)) (ks : List (List UInt8)) : List Nat := if formedC R L then groupsC R.length (ks.map (homeC L)) else []
theorem groups_le (R : List Int) (L : List (List UInt8)) (ks : List (List UInt8)) : (groupsI R L ks).length ≤ 4 := by
  unfold groupsI
  split
  · rename_i h
    have := groupsC_len R.length (ks.map (homeC L)); have := (formed_yes h).hi; omega
  · simp
/-- All groups up to more than there are. -/
theorem groups_four (R : List Int) (L : List (List UInt8)) (ks : List (List UInt8)) (h : FormedP R L) : groupsC 4 (ks.map (homeC L)) = groupsC R.length (ks.map (homeC L)) := by
  have key : ∀ d, groupsC (R.length + d) (ks.map (homeC L)) = groupsC R.length (ks.map (homeC L)) := by
    intro d
    induction d with
    | zero => rfl
    | succ d ih =>
      rw [← Nat.add_assoc, groupsC_snoc, if_neg, List.append_nil, ih]
      intro hm
      obtain ⟨k, _, hk⟩ := List.mem_map.1 hm
      have := h.home k
      omega
  have := key (4 - R.length)
  have e : R.length + (4 - R.length) = 4 := by have := h.hi; omega
  rwa [e] at this

/-- The replicas as numbers; how many there are, a replica's place, the replica of a place. -/
def natR (R : List Int) : List Nat := R.map Int.toNat
theorem natR_len (R : List Int) : (natR R).length = R.length := by simp [natR]
theorem natR_get (R : List Int) (i : Nat) (h : i < R.length) : (natR R)[i]'(by rw [natR_len]; exact h) = R[i].toNat := by simp [natR]
theorem natR_sum (R : List Int) (h : ∀ z ∈ R, 0 ≤ z ∧ z ≤ 5) : R.sum = ((natR R).sum : Nat) := by
  induction R with
  | nil => rfl
  | cons x r ih =>
    have h1 := h x (by simp)
    have h2 := ih fun z hz => h z (by simp [hz])
    have e : natR (x :: r) = x.toNat :: natR r := rfl
    rw [e, List.sum_cons, List.sum_cons, h2]; omega
theorem natR_take (R : List Int) (k : Nat) : natR (R.take k) = (natR R).take k := by simp [natR, List.map_take]
theorem FormedP.small {R : List Int} {L : List (List UInt8)} (h : FormedP R L) (z : Int) (hz : z ∈ R) : 0 ≤ z ∧ z ≤ 5 := by
  rcases h.size z hz with e | e | e <;> omega
theorem FormedP.sum_le {R : List Int} {L : List (List UInt8)} (h : FormedP R L) : (natR R).sum ≤ 20 := by
  have key : ∀ l : List Nat, (∀ z ∈ l, z ≤ 5) → l.sum ≤ 5 * l.length := by
    intro l
    induction l with
    | nil => intro _; simp
    | cons x r ih => intro hl; have := ih fun z hz => hl z (by simp [hz]); have := hl x (by simp); simp; omega
  have h1 := key (natR R) (fun z hz => by
    obtain ⟨y, hy, rfl⟩ := List.mem_map.1 hz
    have := h.small y hy; omega)
  rw [natR_len] at h1
  have := h.hi; omega
def totalI (R : List Int) (L : List (List UInt8)) : Nat := if formedC R L then (natR R).sum else 0
def optI : Option Nat → Int
  | some p => p
  | none => -1
def pairI : Option (Nat × Nat) → Int × Int
  | some x => (x.1, x.2)
  | none => (-1, -1)
def placeI (R : List Int) (L : List (List UInt8)) (g k : Int) : Int := if formedC R L = true ∧ 0 ≤ g ∧ 0 ≤ k then optI (placeL (natR R) g.toNat k.toNat) else -1
def atI (R : List Int) (L : List (List UInt8)) (p : Int) : Int × Int := if formedC R L = true ∧ 0 ≤ p then pairI (atL (natR R) p.toNat) else (-1, -1)
theorem placeI_not (R : List Int) (L : List (List UInt8)) (g k : Int) (h : formedC R L = false) : placeI R L g k = -1 := by
  unfold placeI; rw [if_neg (by rw [h]; simp)]
theorem placeI_far (R : List Int) (L : List (List UInt8)) (g k : Int) (h : ¬ (0 ≤ g ∧ g < R.length)) : placeI R L g k = -1 := by
  unfold placeI
  split
  · rename_i hh
    rw [placeL_eq, dif_neg (by rw [natR_len]; omega)]; rfl
  · rfl
theorem placeI_off (R : List Int) (L : List (List UInt8)) (g : Nat) (k : Int) (hg : g < R.length) (h : ¬ (0 ≤ k ∧ k < R[g])) : placeI R L g k = -1 := by
  unfold placeI
  split
  · rename_i hh
    have e : ((g : Nat) : Int).toNat = g := by omega
    rw [placeL_eq, dif_pos (by rw [natR_len]; omega), if_neg (by simp only [e]; rw [natR_get R g hg]; omega)]; rfl
  · rfl
theorem placeI_yes (R : List Int) (L : List (List UInt8)) (g k : Nat) (hf : formedC R L = true) (hg : g < R.length) (h : (k : Int) < R[g]) : placeI R L g k = (R.take g).sum + k := by
  have hs := natR_sum (R.take g) (fun z hz => (formed_yes hf).small z (List.mem_of_mem_take hz))
  unfold placeI
  rw [if_pos ⟨hf, by omega, by omega⟩]
  have e : ((g : Nat) : Int).toNat = g := by omega
  have e' : ((k : Nat) : Int).toNat = k := by omega
  rw [placeL_eq, dif_pos (by rw [natR_len]; omega), if_pos (by simp only [e, e']; rw [natR_get R g hg]; omega), e, e', hs, natR_take]
  show (((_ + _ : Nat)) : Int) = _
  omega
theorem atI_none (R : List Int) (L : List (List UInt8)) (p : Int) (h : ¬ (0 ≤ p ∧ p < (totalI R L : Int))) : atI R L p = (-1, -1) := by
  unfold atI
  split
  · rename_i hh
    unfold totalI at h
    rw [if_pos hh.1] at h
    rw [atL_none (natR R) p.toNat (by omega)]; rfl
  · rfl
theorem atI_some (R : List Int) (L : List (List UInt8)) (p : Nat) (hf : formedC R L = true) (x : Nat × Nat) (h : atL (natR R) p = some x) : atI R L p = (((x.1 : Nat) : Int), ((x.2 : Nat) : Int)) := by
  unfold atI
  rw [if_pos ⟨hf, by omega⟩]
  have e : ((p : Nat) : Int).toNat = p := by omega
  rw [e, h]; rfl
/-- One group on. -/
theorem at_step (N : List Nat) (j v x y : Nat) (h : atL (N.drop j) v = some (x, y)) : ∃ hj : j < N.length, (v < N[j] → x = 0 ∧ y = v) ∧ (N[j] ≤ v → ∃ x', x = x' + 1 ∧ atL (N.drop (j + 1)) (v - N[j]) = some (x', y)) := by
  have hj : j < N.length := by
    rcases Nat.lt_or_ge j N.length with h' | h'
    · exact h'
    · rw [List.drop_of_length_le h'] at h; cases h
  refine ⟨hj, fun hv => ?_, fun hv => ?_⟩
  · rw [List.drop_eq_getElem_cons hj, atL, if_pos hv] at h
    injection h with h; injection h with h1 h2; exact ⟨h1.symm, h2.symm⟩
  · rw [List.drop_eq_getElem_cons hj, atL, if_neg (by omega)] at h
    obtain ⟨⟨x', y'⟩, h1, h2⟩ := Option.map_eq_some_iff.1 h
    injection h2 with h2 h3
    exact ⟨x', h2.symm, by rw [h1]; simp at h3; rw [h3]⟩
theorem total_formed {R : List Int} {L : List (List UInt8)} {i : Nat} (h : i < totalI R L) : formedC R L = true := by
  cases hf : formedC R L
  · unfold totalI at h; rw [hf] at h; simp at h
  · rfl
theorem total_sum {R : List Int} {L : List (List UInt8)} (h : formedC R L = true) : totalI R L = (natR R).sum := by unfold totalI; rw [if_pos h]
theorem total_le (R : List Int) (L : List (List UInt8)) : totalI R L ≤ 20 := by
  unfold totalI
  split
  · rename_i h; exact (formed_yes h).sum_le
  · omega
theorem at_place (R : List Int) (L : List (List UInt8)) (i : Nat) (hi : i < totalI R L) (g k : Int) (h : atI R L i = (g, k)) : placeI R L g k = i := by
  have hf := total_formed hi
  rw [total_sum hf] at hi
  obtain ⟨⟨x, y⟩, hx⟩ := (atL_some (natR R) i).2 hi
  rw [atI_some R L i hf _ hx] at h
  injection h with h1 h2
  subst h1; subst h2
  unfold placeI
  rw [if_pos ⟨hf, by omega, by omega⟩]
  have e1 : ((x : Nat) : Int).toNat = x := by omega
  have e2 : ((y : Nat) : Int).toNat = y := by omega
  simp only [e1, e2]
  rw [(atL_iff (natR R) i x y).1 hx]; rfl
theorem place_none (R : List Int) (L : List (List UInt8)) (g k : Int) (h : ∀ i : Nat, i < totalI R L → atI R L i ≠ (g, k)) : placeI R L g k = -1 := by
  unfold placeI
  split
  · rename_i hh
    cases e : placeL (natR R) g.toNat k.toNat with
    | none => rfl
    | some p =>
      exfalso
      have hx := (atL_iff (natR R) p g.toNat k.toNat).2 e
      have hp := (atL_some (natR R) p).1 ⟨_, hx⟩
      rw [← total_sum hh.1] at hp
      refine h p hp ?_
      rw [atI_some R L p hh.1 _ hx]
      have e1 : ((g.toNat : Nat) : Int) = g := by omega
      have e2 : ((k.toNat : Nat) : Int) = k := by omega
      simp only [e1, e2]
  · rfl
/-- The replica counted to. -/
theorem at_hit (R : List Int) (L : List (List UInt8)) (hf : formedC R L = true) (j k : Nat) (hj : j < R.length) (hk : (k : Int) < R[j]) : atI R L ((((natR R).take j).sum + k : Nat) : Int) = ((j : Int), (k : Int)) := by
  refine atI_some R L _ hf (j, k) ((atL_iff (natR R) _ j k).2 ?_)
  rw [placeL_eq, dif_pos (by rw [natR_len]; exact hj), if_pos (by rw [natR_get R j hj]; omega)]
theorem nat_snoc (R : List Int) (j : Nat) (hj : j < R.length) : ((natR R).take (j + 1)).sum = ((natR R).take j).sum + R[j].toNat := by
  rw [List.take_succ_eq_append_getElem (by rw [natR_len]; exact hj), List.sum_append, natR_get R j hj]; simp
theorem nat_le (R : List Int) (h : ∀ z ∈ R, 0 ≤ z ∧ z ≤ 5) (j : Nat) : ((natR R).take j).sum ≤ 5 * j := by
  induction j with
  | zero => simp
  | succ j ih =>
    by_cases hj : j < R.length
    · have := h _ (List.getElem_mem hj)
      rw [nat_snoc R j hj]; omega
    · rw [List.take_of_length_le (by rw [natR_len]; omega)] at ih ⊢; omega
end Go.Proofs.YtcfmifongbapkaaGreatDoor

/- TxnMath -/
namespace Go.Proofs.YtcfmifongbapkaaGreatDoor

/-- Ids: a session and a number. -/
abbrev IdN := Int × Int
def idB (x : IdN) : Bool := (decide (1 ≤ x.1) && decide (x.1 ≤ 8)) && (decide (1 ≤ x.2) && decide (x.2 ≤ 1048576))
theorem idB_iff (x : IdN) : idB x = true ↔ (1 ≤ x.1 ∧ x.1 ≤ 8) ∧ 1 ≤ x.2 ∧ x.2 ≤ 1048576 := by simp [idB]
def lessId (a b : IdN) : Bool := if a.1 = b.1 then decide (a.2 < b.2) else decide (a.1 < b.1)
theorem lessId_iff (a b : IdN) : lessId a b = true ↔ a.1 < b.1 ∨ (a.1 = b.1 ∧ a.2 < b.2) := by
  unfold lessId; split <;> simp <;> omega
theorem lessId_false (a b : IdN) : lessId a b = false ↔ ¬ (a.1 < b.1 ∨ (a.1 = b.1 ∧ a.2 < b.2)) := by rw [← lessId_iff]; simp
theorem lessId_self (a : IdN) : lessId a a = false := by rw [lessId_false]; omega
theorem lessId_asym {a b : IdN} (h : lessId a b = true) : lessId b a = false := by rw [lessId_iff] at h; rw [lessId_false]; omega
theorem lessId_none {a b : IdN} (h : lessId a b = false) (h' : lessId b a = false) : a = b := by
  rw [lessId_false] at h h'; obtain ⟨x, y⟩ := a; obtain ⟨z, u⟩ := b; simp at h h' ⊢; omega
theorem lessId_trans {a b c : IdN} (h : lessId a b = true) (h' : lessId b c = true) : lessId a c = true := by rw [lessId_iff] at *; omega

/-- A transaction: its id, its reads (key, version), its writes (key, value). -/
structure Tx (V : Type) where
  id : IdN
  rs : List (List UInt8 × Nat)
  ws : List (List UInt8 × V)
section

variable {V : Type}

def keysR (t : Tx V) : List (List UInt8) := t.rs.map (·.1)
def keysW (t : Tx V) : List (List UInt8) := t.ws.map (·.1)
/-- A transaction is formed; fv: whether a value is. -/
def formT (fv : V → Bool) (t : Tx V) : Bool :=
  (idB t.id && (decide (t.rs.length ≤ 6) && (decide (t.ws.length ≤ 6) && !(decide (t.rs.length = 0) && decide (t.ws.length = 0))))) &&
    (((keysR t).all keyB && adjB (keysR t)) && (((keysW t).all keyB && t.ws.all fun x => fv x.2) && adjB (keysW t)))
structure FormT (fv : V → Bool) (t : Tx V) : Prop where
  id : idB t.id = true
  rlen : t.rs.length ≤ 6
  wlen : t.ws.length ≤ 6
  some : ¬ (t.rs.length = 0 ∧ t.ws.length = 0)
  rkeys : (keysR t).all keyB = true
  radj : adjB (keysR t) = true
  wkeys : (keysW t).all keyB = true
  vals : (t.ws.all fun x => fv x.2) = true
  wadj : adjB (keysW t) = true
theorem formT_iff (fv : V → Bool) (t : Tx V) : formT fv t = true ↔ FormT fv t := by
  unfold formT
  constructor
  · intro h
    simp only [Bool.and_eq_true, decide_eq_true_eq, Bool.not_eq_true', Bool.and_eq_false_iff, decide_eq_false_iff_not] at h
    obtain ⟨⟨a, b, c, d⟩, ⟨e, f⟩, ⟨g, h⟩, i⟩ := h
    exact ⟨a, b, c, by omega, e, f, g, h, i⟩
  · rintro ⟨a, b, c, d, e, f, g, h, i⟩
    simp only [Bool.and_eq_true, decide_eq_true_eq, Bool.not_eq_true', Bool.and_eq_false_iff, decide_eq_false_iff_not]
    exact ⟨⟨a, b, c, by omega⟩, ⟨e, f⟩, ⟨g, h⟩, i⟩

/-- Those whose keys are the group's. -/
def cutG {α : Type} (L : List (List UInt8)) (g : Int) (l : List (List UInt8 × α)) : List (List UInt8 × α) := l.filter fun x => decide ((homeC L x.1 : Int) = g)
theorem cutG_snoc {α : Type} (L : List (List UInt8)) (g : Int) (l : List (List UInt8 × α)) (x : List UInt8 × α) : cutG L g (l ++ [x]) = cutG L g l ++ (if (homeC L x.1 : Int) = g then [x] else []) := by
  unfold cutG
  rw [List.filter_append]
  by_cases h : (homeC L x.1 : Int) = g <;> simp [h]
theorem cutG_len {α : Type} (L : List (List UInt8)) (g : Int) (l : List (List UInt8 × α)) : (cutG L g l).length ≤ l.length := List.length_filter_le _ _
/-- A list that rises by f, cut by f and put together, is the list. -/
theorem cut_sorted {α : Type} (f : α → Nat) (l : List α) (h : l.Pairwise fun x y => f x ≤ f y) (n : Nat) : l.filter (fun x => decide (f x < n)) ++ l.filter (fun x => decide (f x = n)) = l.filter fun x => decide (f x < n + 1) := by
  induction l with
  | nil => rfl
  | cons x r ih =>
    obtain ⟨hx, hr⟩ := List.pairwise_cons.1 h
    have ih' := ih hr
    simp only [List.filter_cons]
    rcases Nat.lt_trichotomy (f x) n with h1 | h1 | h1
    · rw [if_pos (by simpa using h1), if_neg (by simp; omega), if_pos (by simp; omega), List.cons_append, ih']
    · have e0 : r.filter (fun y => decide (f y < n)) = [] := by
        rw [List.filter_eq_nil_iff]; intro y hy; have := hx y hy; simp; omega
      rw [if_neg (by simp; omega), if_pos (by simpa using h1), if_pos (by simp; omega), e0, List.nil_append]
      rw [e0, List.nil_append] at ih'
      rw [ih']
    · have e0 : r.filter (fun y => decide (f y < n)) = [] := by
        rw [List.filter_eq_nil_iff]; intro y hy; have := hx y hy; simp; omega
      have e1 : r.filter (fun y => decide (f y = n)) = [] := by
        rw [List.filter_eq_nil_iff]; intro y hy; have := hx y hy; simp; omega
      have e2 : r.filter (fun y => decide (f y < n + 1)) = [] := by
        rw [List.filter_eq_nil_iff]; intro y hy; have := hx y hy; simp; omega
      rw [if_neg (by simp; omega), if_neg (by simp; omega), if_neg (by simp; omega), e0, e1, e2]; rfl
theorem cuts_all {α : Type} (f : α → Nat) (l : List α) (h : l.Pairwise fun x y => f x ≤ f y) (n : Nat) : (List.range n).flatMap (fun g => l.filter fun x => decide (f x = g)) = l.filter fun x => decide (f x < n) := by
  induction n with
  | zero => simp
  | succ n ih => rw [List.range_succ, List.flatMap_append, ih, List.flatMap_cons, List.flatMap_nil, List.append_nil, cut_sorted f l h n]
theorem keys_home {α : Type} (L : List (List UInt8)) (l : List (List UInt8 × α)) (h : adjB (l.map (·.1)) = true) : l.Pairwise fun x y => homeC L x.1 ≤ homeC L y.1 := by
  have h1 := adj_rises _ h
  unfold risesB at h1
  rw [List.pairwise_map] at h1
  exact h1.imp fun hxy => homeC_mono L (leB_of_lt hxy)
/-- Each read and write is in just one group's, in order. -/
theorem cutG_all {α : Type} (L : List (List UInt8)) (l : List (List UInt8 × α)) (h : adjB (l.map (·.1)) = true) (n : Nat) (hn : L.length < n) : (List.range n).flatMap (fun g : Nat => cutG L (g : Int) l) = l := by
  have h1 := cuts_all (fun x : List UInt8 × α => homeC L x.1) l (keys_home L l h) n
  have e : (fun g : Nat => cutG L (g : Int) l) = fun g => l.filter fun x => decide (homeC L x.1 = g) := by
    funext g
    unfold cutG
    apply List.filter_congr
    intro x _
    rw [decide_eq_decide]; omega
  rw [e, h1, List.filter_eq_self]
  intro x _
  have := homeC_le L x.1
  simp; omega
/-- The groups that have any. -/
def groupsT (R : List Int) (L : List (List UInt8)) (fv : V → Bool) (t : Tx V) : List Nat := if formT fv t = true ∧ formedC R L = true then groupsC R.length ((keysR t ++ keysW t).map (homeC L)) else []
theorem cutG_any {α : Type} (L : List (List UInt8)) (g : Nat) (l : List (List UInt8 × α)) : 0 < (cutG L (g : Int) l).length ↔ g ∈ (l.map (·.1)).map (homeC L) := by
  rw [List.length_pos_iff_exists_mem]
  constructor
  · rintro ⟨x, hx⟩
    obtain ⟨h1, h2⟩ := List.mem_filter.1 hx
    have h3 := of_decide_eq_true h2
    exact List.mem_map.2 ⟨x.1, List.mem_map.2 ⟨x, h1, rfl⟩, by omega⟩
  · intro h
    obtain ⟨k, hk, h1⟩ := List.mem_map.1 h
    obtain ⟨x, hx, rfl⟩ := List.mem_map.1 hk
    exact ⟨x, List.mem_filter.2 ⟨hx, decide_eq_true (by omega)⟩⟩
theorem groupsT_has (L : List (List UInt8)) (t : Tx V) (g : Nat) : (0 < (cutG L (g : Int) t.rs).length + (cutG L (g : Int) t.ws).length) ↔ g ∈ (keysR t ++ keysW t).map (homeC L) := by
  have h1 := cutG_any L g t.rs
  have h2 := cutG_any L g t.ws
  rw [List.map_append, List.mem_append]
  unfold keysR keysW
  rw [← h1, ← h2]; omega

/-- A transaction's bytes. -/
def readB (x : List UInt8 × Nat) : List UInt8 := textB x.1 ++ putB x.2 8
def writeB (ev : V → List UInt8) (x : List UInt8 × V) : List UInt8 := textB x.1 ++ ev x.2
def idBytes (x : IdN) : List UInt8 := putB x.1.toNat 1 ++ putB x.2.toNat 4
def txnB (ev : V → List UInt8) (t : Tx V) : List UInt8 :=
  idBytes t.id ++ (putB t.rs.length 1 ++ (t.rs.flatMap readB ++ (putB t.ws.length 1 ++ t.ws.flatMap (writeB ev))))
/-- How it is read. -/
def idP : Prs IdN := bindP (numP 1) fun s => bindP (numP 4) fun q => pureP ((s : Int), (q : Int))
noncomputable def readP : Prs (List UInt8 × Nat) := bindP (textP 12) fun k => bindP (numP 8) fun v => pureP (k, v)
noncomputable def writeP (vp : Prs V) : Prs (List UInt8 × V) := bindP (textP 12) fun k => bindP vp fun v => pureP (k, v)
noncomputable def txnP (vp : Prs V) : Prs (Tx V) :=
  bindP idP fun i => bindP (numP 1) fun n => bindP (repP readP n) fun rs => bindP (numP 1) fun m => bindP (repP (writeP vp) m) fun ws => pureP ⟨i, rs, ws⟩
theorem ext_id : ExtP idP := ext_bind (ext_num 1) fun _ => ext_bind (ext_num 4) fun _ => ext_pure _
theorem ext_read : ExtP readP := ext_bind (ext_text 12) fun _ => ext_bind (ext_num 8) fun _ => ext_pure _
theorem ext_write {vp : Prs V} (h : ExtP vp) : ExtP (writeP vp) := ext_bind (ext_text 12) fun _ => ext_bind h fun _ => ext_pure _
theorem ext_txn {vp : Prs V} (h : ExtP vp) : ExtP (txnP vp) :=
  ext_bind ext_id fun _ => ext_bind (ext_num 1) fun _ => ext_bind (ext_rep ext_read _) fun _ => ext_bind (ext_num 1) fun _ => ext_bind (ext_rep (ext_write h) _) fun _ => ext_pure _
theorem back_id (x : IdN) (R : List UInt8) (h : idB x = true) : idP (idBytes x ++ R) = some (x, R) := by
  rw [idB_iff] at h
  unfold idP idBytes
  rw [List.append_assoc, bind_some (back_num _ 1 _ (by omega)), bind_some (back_num _ 4 _ (by omega))]
  have e1 : ((x.1.toNat : Nat) : Int) = x.1 := by omega
  have e2 : ((x.2.toNat : Nat) : Int) = x.2 := by omega
  unfold pureP
  rw [e1, e2]
theorem back_read (x : List UInt8 × Nat) (R : List UInt8) (h : x.1.length ≤ 12 ∧ x.2 < 18446744073709551616) : readP (readB x ++ R) = some (x, R) := by
  unfold readP readB
  rw [List.append_assoc, bind_some (back_text _ _ 12 h.1 (by omega)), bind_some (back_num _ 8 _ (by have := h.2; omega))]; rfl
theorem back_write {vp : Prs V} {ev : V → List UInt8} {good : V → Prop} (hv : ∀ v R, good v → vp (ev v ++ R) = some (v, R)) (x : List UInt8 × V) (R : List UInt8) (h : x.1.length ≤ 12 ∧ good x.2) : writeP vp (writeB ev x ++ R) = some (x, R) := by
  unfold writeP writeB
  rw [List.append_assoc, bind_some (back_text _ _ 12 h.1 (by omega)), bind_some (hv _ _ h.2)]; rfl
theorem key_len {l : List UInt8} (h : keyB l = true) : l.length ≤ 12 := by
  unfold keyB at h
  rw [Bool.and_eq_true, Bool.and_eq_true] at h
  exact of_decide_eq_true h.2.2
/-- What is put is taken. -/
theorem back_txn {vp : Prs V} {ev : V → List UInt8} {fv : V → Bool} {good : V → Prop} (hv : ∀ v R, good v → vp (ev v ++ R) = some (v, R)) (t : Tx V) (R : List UInt8) (hf : FormT fv t) (hr : ∀ x ∈ t.rs, x.2 < 18446744073709551616) (hw : ∀ x ∈ t.ws, good x.2) : txnP vp (txnB ev t ++ R) = some (t, R) := by
  unfold txnP txnB
  have l1 := hf.rlen
  have l2 := hf.wlen
  rw [List.append_assoc, bind_some (back_id _ _ hf.id)]
  rw [List.append_assoc, bind_some (back_num _ 1 _ (by omega))]
  rw [List.append_assoc, bind_some (back_rep readB (fun x => x.1.length ≤ 12 ∧ x.2 < 18446744073709551616) back_read t.rs _ fun x hx => ⟨key_len (List.all_eq_true.1 hf.rkeys x.1 (List.mem_map.2 ⟨x, hx, rfl⟩)), hr x hx⟩)]
  rw [List.append_assoc, bind_some (back_num _ 1 _ (by omega))]
  rw [bind_some (back_rep (writeB ev) (fun x => x.1.length ≤ 12 ∧ good x.2) (back_write hv) t.ws _ fun x hx => ⟨key_len (List.all_eq_true.1 hf.wkeys x.1 (List.mem_map.2 ⟨x, hx, rfl⟩)), hw x hx⟩)]
  rfl
/-- No beginning of its bytes is one's. -/
theorem cut_txn {vp : Prs V} {ev : V → List UInt8} {fv : V → Bool} {good : V → Prop} (he : ExtP vp) (hv : ∀ v R, good v → vp (ev v ++ R) = some (v, R)) (t : Tx V) (hf : FormT fv t) (hr : ∀ x ∈ t.rs, x.2 < 18446744073709551616) (hw : ∀ x ∈ t.ws, good x.2) (k : Nat) (hk : k < (txnB ev t).length) : txnP vp ((txnB ev t).take k) = none := by
  have h := back_txn hv t [] hf hr hw
  rw [List.append_nil] at h
  exact ext_cut (ext_txn he) h k hk
end

end Go.Proofs.YtcfmifongbapkaaGreatDoor
