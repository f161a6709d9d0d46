/- Plain mathematics of layer txn: ids, formed transactions, their groups and cuts, their bytes. No condition. -/
import Derived.Test.YtlkgpajpblhkeaaDoorParse

import Derived.Test.YtlkgpajpblhkeaaDoorConfigForm

namespace Go.Proofs.YtlkgpajpblhkeaaDoor

/-- Ids: a session and a number. -/
abbrev IdN := Int × Int
def idB (x : IdN) : Bool := (decide (1 ≤ x.1) && decide (x.1 ≤ 8)) && (decide (1 ≤ x.2) && decide (x.2 ≤ 1048576))
theorem idB_iff (x : IdN) : idB x = true ↔ (1 ≤ x.1 ∧ x.1 ≤ 8) ∧ 1 ≤ x.2 ∧ x.2 ≤ 1048576 := by simp [idB]
def lessId (a b : IdN) : Bool := if a.1 = b.1 then decide (a.2 < b.2) else decide (a.1 < b.1)
theorem lessId_iff (a b : IdN) : lessId a b = true ↔ a.1 < b.1 ∨ (a.1 = b.1 ∧ a.2 < b.2) := by
  unfold lessId; split <;> simp <;> omega
theorem lessId_false (a b : IdN) : lessId a b = false ↔ ¬ (a.1 < b.1 ∨ (a.1 = b.1 ∧ a.2 < b.2)) := by rw [← lessId_iff]; simp
theorem lessId_self (a : IdN) : lessId a a = false := by rw [lessId_false]; omega
theorem lessId_asym {a b : IdN} (h : lessId a b = true) : lessId b a = false := by rw [lessId_iff] at h; rw [lessId_false]; omega
theorem lessId_none {a b : IdN} (h : lessId a b = false) (h' : lessId b a = false) : a = b := by
  rw [lessId_false] at h h'; obtain ⟨x, y⟩ := a; obtain ⟨z, u⟩ := b; simp at h h' ⊢; omega
theorem lessId_trans {a b c : IdN} (h : lessId a b = true) (h' : lessId b c = true) : lessId a c = true := by rw [lessId_iff] at *; omega

/-- A transaction: its id, its reads (key, version), its writes (key, value). -/
structure Tx (V : Type) where
  id : IdN
  rs : List (List UInt8 × Nat)
  ws : List (List UInt8 × V)
section

variable {V : Type}

def keysR (t : Tx V) : List (List UInt8) := t.rs.map (·.1)
def keysW (t : Tx V) : List (List UInt8) := t.ws.map (·.1)
/-- A transaction is formed; fv: whether a value is. -/
def formT (fv : V → Bool) (t : Tx V) : Bool :=
  (idB t.id && (decide (t.rs.length ≤ 6) && (decide (t.ws.length ≤ 6) && !(decide (t.rs.length = 0) && decide (t.ws.length = 0))))) &&
    (((keysR t).all keyB && adjB (keysR t)) && (((keysW t).all keyB && t.ws.all fun x => fv x.2) && adjB (keysW t)))
structure FormT (fv : V → Bool) (t : Tx V) : Prop where
  id : idB t.id = true
  rlen : t.rs.length ≤ 6
  wlen : t.ws.length ≤ 6
  some : ¬ (t.rs.length = 0 ∧ t.ws.length = 0)
  rkeys : (keysR t).all keyB = true
  radj : adjB (keysR t) = true
  wkeys : (keysW t).all keyB = true
  vals : (t.ws.all fun x => fv x.2) = true
  wadj : adjB (keysW t) = true
theorem formT_iff (fv : V → Bool) (t : Tx V) : formT fv t = true ↔ FormT fv t := by
  unfold formT
  constructor
  · intro h
    simp only [Bool.and_eq_true, decide_eq_true_eq, Bool.not_eq_true', Bool.and_eq_false_iff, decide_eq_false_iff_not] at h
    obtain ⟨⟨a, b, c, d⟩, ⟨e, f⟩, ⟨g, h⟩, i⟩ := h
    exact ⟨a, b, c, by omega, e, f, g, h, i⟩
  · rintro ⟨a, b, c, d, e, f, g, h, i⟩
    simp only [Bool.and_eq_true, decide_eq_true_eq, Bool.not_eq_true', Bool.and_eq_false_iff, decide_eq_false_iff_not]
    exact ⟨⟨a, b, c, by omega⟩, ⟨e, f⟩, ⟨g, h⟩, i⟩

/-- Those whose keys are the group's. -/
def cutG {α : Type} (L : List (List UInt8)) (g : Int) (l : List (List UInt8 × α)) : List (List UInt8 × α) := l.filter fun x => decide ((homeC L x.1 : Int) = g)
theorem cutG_snoc {α : Type} (L : List (List UInt8)) (g : Int) (l : List (List UInt8 × α)) (x : List UInt8 × α) : cutG L g (l ++ [x]) = cutG L g l ++ (if (homeC L x.1 : Int) = g then [x] else []) := by
  unfold cutG
  rw [List.filter_append]
  by_cases h : (homeC L x.1 : Int) = g <;> simp [h]
theorem cutG_len {α : Type} (L : List (List UInt8)) (g : Int) (l : List (List UInt8 × α)) : (cutG L g l).length ≤ l.length := List.length_filter_le _ _
/-- A list that rises by f, cut by f and put together, is the list. -/
theorem cut_sorted {α : Type} (f : α → Nat) (l : List α) (h : l.Pairwise fun x y => f x ≤ f y) (n : Nat) : l.filter (fun x => decide (f x < n)) ++ l.filter (fun x => decide (f x = n)) = l.filter fun x => decide (f x < n + 1) := by
  induction l with
  | nil => rfl
  | cons x r ih =>
    obtain ⟨hx, hr⟩ := List.pairwise_cons.1 h
    have ih' := ih hr
    simp only [List.filter_cons]
    rcases Nat.lt_trichotomy (f x) n with h1 | h1 | h1
    · rw [if_pos (by simpa using h1), if_neg (by simp; omega), if_pos (by simp; omega), List.cons_append, ih']
    · have e0 : r.filter (fun y => decide (f y < n)) = [] := by
        rw [List.filter_eq_nil_iff]; intro y hy; have := hx y hy; simp; omega
      rw [if_neg (by simp; omega), if_pos (by simpa using h1), if_pos (by simp; omega), e0, List.nil_append]
      rw [e0, List.nil_append] at ih'
      rw [ih']
    · have e0 : r.filter (fun y => decide (f y < n)) = [] := by
        rw [List.filter_eq_nil_iff]; intro y hy; have := hx y hy; simp; omega
      have e1 : r.filter (fun y => decide (f y = n)) = [] := by
        rw [List.filter_eq_nil_iff]; intro y hy; have := hx y hy; simp; omega
      have e2 : r.filter (fun y => decide (f y < n + 1)) = [] := by
        rw [List.filter_eq_nil_iff]; intro y hy; have := hx y hy; simp; omega
      rw [if_neg (by simp; omega), if_neg (by simp; omega), if_neg (by simp; omega), e0, e1, e2]; rfl
theorem cuts_all {α : Type} (f : α → Nat) (l : List α) (h : l.Pairwise fun x y => f x ≤ f y) (n : Nat) : (List.range n).flatMap (fun g => l.filter fun x => decide (f x = g)) = l.filter fun x => decide (f x < n) := by
  induction n with
  | zero => simp
  | succ n ih => rw [List.range_succ, List.flatMap_append, ih, List.flatMap_cons, List.flatMap_nil, List.append_nil, cut_sorted f l h n]
theorem keys_home {α : Type} (L : List (List UInt8)) (l : List (List UInt8 × α)) (h : adjB (l.map (·.1)) = true) : l.Pairwise fun x y => homeC L x.1 ≤ homeC L y.1 := by
  have h1 := adj_rises _ h
  unfold risesB at h1
  rw [List.pairwise_map] at h1
  exact h1.imp fun hxy => homeC_mono L (leB_of_lt hxy)
/-- Each read and write is in just one group's, in order. -/
theorem cutG_all {α : Type} (L : List (List UInt8)) (l : List (List UInt8 × α)) (h : adjB (l.map (·.1)) = true) (n : Nat) (hn : L.length < n) : (List.range n).flatMap (fun g : Nat => cutG L (g : Int) l) = l := by
  have h1 := cuts_all (fun x : List UInt8 × α => homeC L x.1) l (keys_home L l h) n
  have e : (fun g : Nat => cutG L (g : Int) l) = fun g => l.filter fun x => decide (homeC L x.1 = g) := by
    funext g
    unfold cutG
    apply List.filter_congr
    intro x _
    rw [decide_eq_decide]; omega
  rw [e, h1, List.filter_eq_self]
  intro x _
  have := homeC_le L x.1
  simp; omega
/-- The groups that have any. -/
def groupsT (R : List Int) (L : List (List UInt8)) (fv : V → Bool) (t : Tx V) : List Nat := if formT fv t = true ∧ formedC R L = true then groupsC R.length ((keysR t ++ keysW t).map (homeC L)) else []
theorem cutG_any {α : Type} (L : List (List UInt8)) (g : Nat) (l : List (List UInt8 × α)) : 0 < (cutG L (g : Int) l).length ↔ g ∈ (l.map (·.1)).map (homeC L) := by
  rw [List.length_pos_iff_exists_mem]
  constructor
  · rintro ⟨x, hx⟩
    obtain ⟨h1, h2⟩ := List.mem_filter.1 hx
    have h3 := of_decide_eq_true h2
    exact List.mem_map.2 ⟨x.1, List.mem_map.2 ⟨x, h1, rfl⟩, by omega⟩
  · intro h
    obtain ⟨k, hk, h1⟩ := List.mem_map.1 h
    obtain ⟨x, hx, rfl⟩ := List.mem_map.1 hk
    exact ⟨x, List.mem_filter.2 ⟨hx, decide_eq_true (by omega)⟩⟩
theorem groupsT_has (L : List (List UInt8)) (t : Tx V) (g : Nat) : (0 < (cutG L (g : Int) t.rs).length + (cutG L (g : Int) t.ws).length) ↔ g ∈ (keysR t ++ keysW t).map (homeC L) := by
  have h1 := cutG_any L g t.rs
  have h2 := cutG_any L g t.ws
  rw [List.map_append, List.mem_append]
  unfold keysR keysW
  rw [← h1, ← h2]; omega

/-- A transaction's bytes. -/
def readB (x : List UInt8 × Nat) : List UInt8 := textB x.1 ++ putB x.2 8
def writeB (ev : V → List UInt8) (x : List UInt8 × V) : List UInt8 := textB x.1 ++ ev x.2
def idBytes (x : IdN) : List UInt8 := putB x.1.toNat 1 ++ putB x.2.toNat 4
def txnB (ev : V → List UInt8) (t : Tx V) : List UInt8 :=
  idBytes t.id ++ (putB t.rs.length 1 ++ (t.rs.flatMap readB ++ (putB t.ws.length 1 ++ t.ws.flatMap (writeB ev))))
/-- How it is read. -/
def idP : Prs IdN := bindP (numP 1) fun s => bindP (numP 4) fun q => pureP ((s : Int), (q : Int))
noncomputable def readP : Prs (List UInt8 × Nat) := bindP (textP 12) fun k => bindP (numP 8) fun v => pureP (k, v)
noncomputable def writeP (vp : Prs V) : Prs (List UInt8 × V) := bindP (textP 12) fun k => bindP vp fun v => pureP (k, v)
noncomputable def txnP (vp : Prs V) : Prs (Tx V) :=
  bindP idP fun i => bindP (numP 1) fun n => bindP (repP readP n) fun rs => bindP (numP 1) fun m => bindP (repP (writeP vp) m) fun ws => pureP ⟨i, rs, ws⟩
theorem ext_id : ExtP idP := ext_bind (ext_num 1) fun _ => ext_bind (ext_num 4) fun _ => ext_pure _
theorem ext_read : ExtP readP := ext_bind (ext_text 12) fun _ => ext_bind (ext_num 8) fun _ => ext_pure _
theorem ext_write {vp : Prs V} (h : ExtP vp) : ExtP (writeP vp) := ext_bind (ext_text 12) fun _ => ext_bind h fun _ => ext_pure _
theorem ext_txn {vp : Prs V} (h : ExtP vp) : ExtP (txnP vp) :=
  ext_bind ext_id fun _ => ext_bind (ext_num 1) fun _ => ext_bind (ext_rep ext_read _) fun _ => ext_bind (ext_num 1) fun _ => ext_bind (ext_rep (ext_write h) _) fun _ => ext_pure _
theorem back_id (x : IdN) (R : List UInt8) (h : idB x = true) : idP (idBytes x ++ R) = some (x, R) := by
  rw [idB_iff] at h
  unfold idP idBytes
  rw [List.append_assoc, bind_some (back_num _ 1 _ (by omega)), bind_some (back_num _ 4 _ (by omega))]
  have e1 : ((x.1.toNat : Nat) : Int) = x.1 := by omega
  have e2 : ((x.2.toNat : Nat) : Int) = x.2 := by omega
  unfold pureP
  rw [e1, e2]
theorem back_read (x : List UInt8 × Nat) (R : List UInt8) (h : x.1.length ≤ 12 ∧ x.2 < 18446744073709551616) : readP (readB x ++ R) = some (x, R) := by
  unfold readP readB
  rw [List.append_assoc, bind_some (back_text _ _ 12 h.1 (by omega)), bind_some (back_num _ 8 _ (by have := h.2; omega))]; rfl
theorem back_write {vp : Prs V} {ev : V → List UInt8} {good : V → Prop} (hv : ∀ v R, good v → vp (ev v ++ R) = some (v, R)) (x : List UInt8 × V) (R : List UInt8) (h : x.1.length ≤ 12 ∧ good x.2) : writeP vp (writeB ev x ++ R) = some (x, R) := by
  unfold writeP writeB
  rw [List.append_assoc, bind_some (back_text _ _ 12 h.1 (by omega)), bind_some (hv _ _ h.2)]; rfl
theorem key_len {l : List UInt8} (h : keyB l = true) : l.length ≤ 12 := by
  unfold keyB at h
  rw [Bool.and_eq_true, Bool.and_eq_true] at h
  exact of_decide_eq_true h.2.2
/-- What is put is taken. -/
theorem back_txn {vp : Prs V} {ev : V → List UInt8} {fv : V → Bool} {good : V → Prop} (hv : ∀ v R, good v → vp (ev v ++ R) = some (v, R)) (t : Tx V) (R : List UInt8) (hf : FormT fv t) (hr : ∀ x ∈ t.rs, x.2 < 18446744073709551616) (hw : ∀ x ∈ t.ws, good x.2) : txnP vp (txnB ev t ++ R) = some (t, R) := by
  unfold txnP txnB
  have l1 := hf.rlen
  have l2 := hf.wlen
  rw [List.append_assoc, bind_some (back_id _ _ hf.id)]
  rw [List.append_assoc, bind_some (back_num _ 1 _ (by omega))]
  rw [List.append_assoc, bind_some (back_rep readB (fun x => x.1.length ≤ 12 ∧ x.2 < 18446744073709551616) back_read t.rs _ fun x hx => ⟨key_len (List.all_eq_true.1 hf.rkeys x.1 (List.mem_map.2 ⟨x, hx, rfl⟩)), hr x hx⟩)]
  rw [List.append_assoc, bind_some (back_num _ 1 _ (by omega))]
  rw [bind_some (back_rep (writeB ev) (fun x => x.1.length ≤ 12 ∧ good x.2) (back_write hv) t.ws _ fun x hx => ⟨key_len (List.all_eq_true.1 hf.wkeys x.1 (List.mem_map.2 ⟨x, hx, rfl⟩)), hw x hx⟩)]
  rfl
/-- No beginning of its bytes is one's. -/
theorem cut_txn {vp : Prs V} {ev : V → List UInt8} {fv : V → Bool} {good : V → Prop} (he : ExtP vp) (hv : ∀ v R, good v → vp (ev v ++ R) = some (v, R)) (t : Tx V) (hf : FormT fv t) (hr : ∀ x ∈ t.rs, x.2 < 18446744073709551616) (hw : ∀ x ∈ t.ws, good x.2) (k : Nat) (hk : k < (txnB ev t).length) : txnP vp ((txnB ev t).take k) = none := by
  have h := back_txn hv t [] hf hr hw
  rw [List.append_nil] at h
  exact ext_cut (ext_txn he) h k hk
end

end Go.Proofs.YtlkgpajpblhkeaaDoor
