
/- Plain mathematics of layer config: when a configuration is formed, and what is answered of it. No condition. Plain mathematics of layer txn: ids, formed transactions, their groups and cuts, their bytes. No condition. -/
import Derived.Test.YtcfmifongbapkaaGreatDoorQC
import Derived.Test.YtcfmifongbapkaaGreatDoorQD
import Derived.Test.YtcfmifongbapkaaGreatDoorQB
/- ConfigForm -/
namespace Go.Proofs.YtcfmifongbapkaaGreatDoor

/-- The texts' bytes. -/
def txt (Bs : List ByteArray) : List (List UInt8) := Bs.map fun s => s.data.toList
theorem txt_len (Bs : List ByteArray) : (txt Bs).length = Bs.length := by simp [txt]
theorem txt_get (Bs : List ByteArray) (i : Nat) (h : i < Bs.length) : (txt Bs)[i]'(by rw [txt_len]; exact h) = Bs[i].data.toList := by simp [txt]
/-- A group's size. -/
def sizeB (z : Int) : Bool := z == 1 || (z == 3 || z == 5)
theorem all_bad {α : Type} (p : α → Bool) (l : List α) (k : Nat) (h : k < l.length) (hp : p l[k] = false) : l.all p = false :=
  List.all_eq_false.2 ⟨l[k], List.getElem_mem h, by rw [hp]; simp⟩
theorem all_next {α : Type} (p : α → Bool) (l : List α) (k : Nat) (h : k < l.length) (ht : (l.take k).all p = true) (hp : p l[k] = true) : (l.take (k + 1)).all p = true := by
  rw [List.take_succ_eq_append_getElem h, List.all_append, ht]; simp [hp]
theorem all_done {α : Type} (p : α → Bool) (l : List α) (k : Nat) (h : l.length ≤ k) (ht : (l.take k).all p = true) : l.all p = true := by
  rwa [List.take_of_length_le h] at ht

/-- Each bound is above the one ahead of it. -/
def adjB (L : List (List UInt8)) : Bool := (List.range (L.length - 1)).all fun i => !leB (L[i + 1]?.getD []) (L[i]?.getD [])
theorem adj_bad (L : List (List UInt8)) (k : Nat) (h : k + 1 < L.length) (hp : leB L[k + 1] L[k] = true) : adjB L = false := by
  unfold adjB
  rw [List.all_eq_false]
  refine ⟨k, by simp; omega, ?_⟩
  rw [List.getElem?_eq_getElem h, List.getElem?_eq_getElem (by omega)]
  simp [hp]
theorem adj_all (L : List (List UInt8)) (h : ∀ k (hk : k + 1 < L.length), leB L[k + 1] L[k] = false) : adjB L = true := by
  unfold adjB
  rw [List.all_eq_true]
  intro i hi
  have hi' : i + 1 < L.length := by simp at hi; omega
  rw [List.getElem?_eq_getElem hi', List.getElem?_eq_getElem (by omega)]
  simp [h i hi']
/-- A configuration is formed. -/
def formedC (R : List Int) (L : List (List UInt8)) : Bool :=
  (decide (1 ≤ R.length) && (decide (R.length ≤ 4) && decide (L.length + 1 = R.length))) && (R.all sizeB && (L.all keyB && adjB L))
structure FormedP (R : List Int) (L : List (List UInt8)) : Prop where
  lo : 1 ≤ R.length
  hi : R.length ≤ 4
  len : L.length + 1 = R.length
  sizes : R.all sizeB = true
  keys : L.all keyB = true
  adj : adjB L = true
/-- What is answered: a key's group, the groups of keys. -/
def homeI (R : List Int) (L : List (List UInt8)) (k : List UInt8) : Int := if formedC R L then (homeC L k : Nat) else -1
def groupsI (R : List Int) (L : List (List UInt8)) (ks : List (List UInt8)) : List Nat := if formedC R L then groupsC R.length (ks.map (homeC L)) else []
/-- The replicas as numbers; how many there are, a replica's place, the replica of a place. -/
def natR (R : List Int) : List Nat := R.map Int.toNat
def totalI (R : List Int) (L : List (List UInt8)) : Nat := if formedC R L then (natR R).sum else 0
def optI : Option Nat → Int
  | some p => p
  | none => -1
def pairI : Option (Nat × Nat) → Int × Int
  | some x => (x.1, x.2)
  | none => (-1, -1)
def placeI (R : List Int) (L : List (List UInt8)) (g k : Int) : Int := if formedC R L = true ∧ 0 ≤ g ∧ 0 ≤ k then optI (placeL (natR R) g.toNat k.toNat) else -1
def atI (R : List Int) (L : List (List UInt8)) (p : Int) : Int × Int := if formedC R L = true ∧ 0 ≤ p then pairI (atL (natR R) p.toNat) else (-1, -1)
end Go.Proofs.YtcfmifongbapkaaGreatDoor

/- TxnMath -/
namespace Go.Proofs.YtcfmifongbapkaaGreatDoor

/-- Ids: a session and a number. -/
abbrev IdN := Int × Int
def idB (x : IdN) : Bool := (decide (1 ≤ x.1) && decide (x.1 ≤ 8)) && (decide (1 ≤ x.2) && decide (x.2 ≤ 1048576))
theorem idB_iff (x : IdN) : idB x = true ↔ (1 ≤ x.1 ∧ x.1 ≤ 8) ∧ 1 ≤ x.2 ∧ x.2 ≤ 1048576 := by simp [idB]
def lessId (a b : IdN) : Bool := if a.1 = b.1 then decide (a.2 < b.2) else decide (a.1 < b.1)
/-- A transaction: its id, its reads (key, version), its writes (key, value). -/
structure Tx (V : Type) where
  id : IdN
  rs : List (List UInt8 × Nat)
  ws : List (List UInt8 × V)
section

variable {V : Type}

def keysR (t : Tx V) : List (List UInt8) := t.rs.map (·.1)
def keysW (t : Tx V) : List (List UInt8) := t.ws.map (·.1)
/-- A transaction is formed; fv: whether a value is. -/
def formT (fv : V → Bool) (t : Tx V) : Bool :=
  (idB t.id && (decide (t.rs.length ≤ 6) && (decide (t.ws.length ≤ 6) && !(decide (t.rs.length = 0) && decide (t.ws.length = 0))))) &&
    (((keysR t).all keyB && adjB (keysR t)) && (((keysW t).all keyB && t.ws.all fun x => fv x.2) && adjB (keysW t)))
structure FormT (fv : V → Bool) (t : Tx V) : Prop where
  id : idB t.id = true
  rlen : t.rs.length ≤ 6
  wlen : t.ws.length ≤ 6
  some : ¬ (t.rs.length = 0 ∧ t.ws.length = 0)
  rkeys : (keysR t).all keyB = true
  radj : adjB (keysR t) = true
  wkeys : (keysW t).all keyB = true
  vals : (t.ws.all fun x => fv x.2) = true
  wadj : adjB (keysW t) = true
theorem formT_iff (fv : V → Bool) (t : Tx V) : formT fv t = true ↔ FormT fv t := by
  unfold formT
  constructor
  · intro h
    simp only [Bool.and_eq_true, decide_eq_true_eq, Bool.not_eq_true', Bool.and_eq_false_iff, decide_eq_false_iff_not] at h
    obtain ⟨⟨a, b, c, d⟩, ⟨e, f⟩, ⟨g, h⟩, i⟩ := h
    exact ⟨a, b, c, by omega, e, f, g, h, i⟩
  · rintro ⟨a, b, c, d, e, f, g, h, i⟩
    simp only [Bool.and_eq_true, decide_eq_true_eq, Bool.not_eq_true', Bool.and_eq_false_iff, decide_eq_false_iff_not]
    exact ⟨⟨a, b, c, by omega⟩, ⟨e, f⟩, ⟨g, h⟩, i⟩

/-- Those whose keys are the group's. -/
def cutG {α : Type} (L : List (List UInt8)) (g : Int) (l : List (List UInt8 × α)) : List (List UInt8 × α) := l.filter fun x => decide ((homeC L x.1 : Int) = g)
/-- The groups that have any. -/
def groupsT (R : List Int) (L : List (List UInt8)) (fv : V → Bool) (t : Tx V) : List Nat := if formT fv t = true ∧ formedC R L = true then groupsC R.length ((keysR t ++ keysW t).map (homeC L)) else []
/-- A transaction's bytes. -/
def readB (x : List UInt8 × Nat) : List UInt8 := textB x.1 ++ putB x.2 8
def writeB (ev : V → List UInt8) (x : List UInt8 × V) : List UInt8 := textB x.1 ++ ev x.2
def idBytes (x : IdN) : List UInt8 := putB x.1.toNat 1 ++ putB x.2.toNat 4
def txnB (ev : V → List UInt8) (t : Tx V) : List UInt8 :=
  idBytes t.id ++ (putB t.rs.length 1 ++ (t.rs.flatMap readB ++ (putB t.ws.length 1 ++ t.ws.flatMap (writeB ev))))
/-- How it is read. -/
def idP : Prs IdN := bindP (numP 1) fun s => bindP (numP 4) fun q => pureP ((s : Int), (q : Int))
noncomputable def readP : Prs (List UInt8 × Nat) := bindP (textP 12) fun k => bindP (numP 8) fun v => pureP (k, v)
noncomputable def writeP (vp : Prs V) : Prs (List UInt8 × V) := bindP (textP 12) fun k => bindP vp fun v => pureP (k, v)
noncomputable def txnP (vp : Prs V) : Prs (Tx V) :=
  bindP idP fun i => bindP (numP 1) fun n => bindP (repP readP n) fun rs => bindP (numP 1) fun m => bindP (repP (writeP vp) m) fun ws => pureP ⟨i, rs, ws⟩
theorem back_id (x : IdN) (R : List UInt8) (h : idB x = true) : idP (idBytes x ++ R) = some (x, R) := by
  rw [idB_iff] at h
  unfold idP idBytes
  rw [List.append_assoc, bind_some (back_num _ 1 _ (by omega)), bind_some (back_num _ 4 _ (by omega))]
  have e1 : ((x.1.toNat : Nat) : Int) = x.1 := by omega
  have e2 : ((x.2.toNat : Nat) : Int) = x.2 := by omega
  unfold pureP
  rw [e1, e2]
theorem back_read (x : List UInt8 × Nat) (R : List UInt8) (h : x.1.length ≤ 12 ∧ x.2 < 18446744073709551616) : readP (readB x ++ R) = some (x, R) := by
  unfold readP readB
  rw [List.append_assoc, bind_some (back_text _ _ 12 h.1 (by omega)), bind_some (back_num _ 8 _ (by have := h.2; omega))]; rfl
theorem back_write {vp : Prs V} {ev : V → List UInt8} {good : V → Prop} (hv : ∀ v R, good v → vp (ev v ++ R) = some (v, R)) (x : List UInt8 × V) (R : List UInt8) (h : x.1.length ≤ 12 ∧ good x.2) : writeP vp (writeB ev x ++ R) = some (x, R) := by
  unfold writeP writeB
  rw [List.append_assoc, bind_some (back_text _ _ 12 h.1 (by omega)), bind_some (hv _ _ h.2)]; rfl
theorem key_len {l : List UInt8} (h : keyB l = true) : l.length ≤ 12 := by
  unfold keyB at h
  rw [Bool.and_eq_true, Bool.and_eq_true] at h
  exact of_decide_eq_true h.2.2
end

end Go.Proofs.YtcfmifongbapkaaGreatDoor
