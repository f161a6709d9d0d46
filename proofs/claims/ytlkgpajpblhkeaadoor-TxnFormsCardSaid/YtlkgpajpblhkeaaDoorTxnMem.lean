/- Words for a transaction in memory, and equality of lists as a Bool. No condition. -/
import Derived.Test.YtlkgpajpblhkeaaDoorTxnIds

import Derived.Test.YtlkgpajpblhkeaaDoorTxnRows

import Derived.Test.YtlkgpajpblhkeaaDoorValueMath

namespace Go.Proofs.YtlkgpajpblhkeaaDoor

open Go.RowKit

/-- Equality as a Bool. -/
noncomputable def eqB {α : Type} (x y : α) : Bool := @decide (x = y) (Classical.propDecidable _)
section

variable {α : Type} {x y : α} {l l' : List α} {k : Nat}

theorem eqB_yes (h : x = y) : eqB x y = true := @decide_eq_true _ (Classical.propDecidable _) h
theorem eqB_no (h : ¬ x = y) : eqB x y = false := @decide_eq_false _ (Classical.propDecidable _) h
theorem eqB_self (x : α) : eqB x x = true := eqB_yes rfl
theorem eqB_of (h : eqB x y = true) : x = y := @of_decide_eq_true _ (Classical.propDecidable _) h
theorem eqB_ne (h : eqB x y = false) : ¬ x = y := @of_decide_eq_false _ (Classical.propDecidable _) h
theorem eq_step (h : l.take k = l'.take k) (h1 : k < l.length) (h2 : k < l'.length) (he : l[k] = l'[k]) : l.take (k + 1) = l'.take (k + 1) := by
  rw [List.take_succ_eq_append_getElem h1, List.take_succ_eq_append_getElem h2, h, he]
theorem eq_bad (h1 : k < l.length) (h2 : k < l'.length) (he : ¬ l[k] = l'[k]) : eqB l l' = false := eqB_no fun e => he (by subst e; rfl)
theorem eq_done (h : l.take k = l'.take k) (h1 : l.length ≤ k) (h2 : l'.length ≤ k) : eqB l l' = true := by
  rw [List.take_of_length_le h1, List.take_of_length_le h2] at h
  exact eqB_yes h
theorem eq_len (h : ¬ l.length = l'.length) : eqB l l' = false := eqB_no fun e => h (by rw [e])
end

/-- What a write in memory holds; the lists of a transaction in memory, as lists of bytes. -/
def valM (x : WrM) : Val := ⟨x.k, x.b, x.t.data.toList⟩
def txR (l : List RdM) : List (List UInt8 × Nat) := l.map fun x => (x.1.data.toList, x.2)
def txW (l : List WrM) : List (List UInt8 × Val) := l.map fun x => (x.key.data.toList, valM x)
def txT (i : IdN) (rs : List RdM) (ws : List WrM) : Tx Val := ⟨i, txR rs, txW ws⟩
def keysM (rs : List RdM) : List ByteArray := rs.map (·.1)
def keysV (ws : List WrM) : List ByteArray := ws.map (·.key)
theorem keysM_txt (i : IdN) (rs : List RdM) (ws : List WrM) : keysR (txT i rs ws) = txt (keysM rs) := by simp [keysR, txT, txR, txt, keysM]
theorem keysV_txt (i : IdN) (rs : List RdM) (ws : List WrM) : keysW (txT i rs ws) = txt (keysV ws) := by simp [keysW, txT, txW, txt, keysV]

/-- What is in the lists is of a size that is. -/
def RdOk (x : RdM) : Prop := x.1.size ≤ maxLen ∧ x.2 < 18446744073709551616
def WrOk (x : WrM) : Prop := x.key.size ≤ maxLen ∧ x.b < 18446744073709551616 ∧ x.t.size ≤ maxLen
/-- A transaction's lists lie in memory. -/
def TxAt (w : World) (a : Option Addr) (n : Nat) (b : Option Addr) (m : Nat) (rs : List RdM) (ws : List WrM) : Prop :=
  (RdsAt w w.heap.size a n rs ∧ WrsAt w w.heap.size b m ws) ∧ (∀ x ∈ rs, RdOk x) ∧ ∀ x ∈ ws, WrOk x
section

variable {w w' : World} {a b : Option Addr} {n m : Nat} {rs : List RdM} {ws : List WrM}

theorem TxAt.later (h : TxAt w a n b m rs ws) (hb : Below w.heap.size w w') : TxAt w' a n b m rs ws := ⟨⟨h.1.1.later hb, h.1.2.later hb⟩, h.2⟩
theorem TxAt.lenR (h : TxAt w a n b m rs ws) : rs.length = n := h.1.1.1
theorem TxAt.lenW (h : TxAt w a n b m rs ws) : ws.length = m := h.1.2.1
theorem TxAt.rds (h : TxAt w a n b m rs ws) : RdsAt w w.heap.size a n rs := h.1.1
theorem TxAt.wrs (h : TxAt w a n b m rs ws) : WrsAt w w.heap.size b m ws := h.1.2
theorem TxAt.okR (h : TxAt w a n b m rs ws) : ∀ x ∈ rs, RdOk x := h.2.1
theorem TxAt.okW (h : TxAt w a n b m rs ws) : ∀ x ∈ ws, WrOk x := h.2.2
theorem TxAt.nil : TxAt w none 0 none 0 [] [] := ⟨⟨RdsAt.nil, WrsAt.nil⟩, (fun _ h => by cases h), (fun _ h => by cases h)⟩
end

/-- A transaction by value. -/
abbrev txV (s q : Int) (a : Option Addr) (n c : Nat) (b : Option Addr) (m d : Nat) : Array Value := #[.int .i64 s, .int .i64 q, .slice a n c, .slice b m d]
theorem BoxC.four {w : World} {g : Nat} {x y z u : Value} {t : TypeId} (h : BoxC w g #[x, y, z, u] t) : w.cell? ⟨g, 0, none⟩ = some x ∧ w.cell? ⟨g, 1, none⟩ = some y ∧ w.cell? ⟨g, 2, none⟩ = some z ∧ w.cell? ⟨g, 3, none⟩ = some u := ⟨h.cell 0 x rfl, h.cell 1 y rfl, h.cell 2 z rfl, h.cell 3 u rfl⟩
end Go.Proofs.YtlkgpajpblhkeaaDoor
