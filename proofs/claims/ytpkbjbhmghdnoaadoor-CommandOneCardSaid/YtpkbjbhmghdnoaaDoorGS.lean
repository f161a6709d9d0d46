/- The walk of the statement TxnBack. Conditions: the transaction's lists lie in memory; the tables of utf8 lie there. Plain mathematics of layer command: the bytes of commands; what is put is taken, no beginning of a command's bytes is one's. No condition. -/
import Derived.Test.YtpkbjbhmghdnoaaDoorGL
import Derived.Test.YtpkbjbhmghdnoaaDoorGO
import Derived.Test.YtpkbjbhmghdnoaaDoorGI
import Derived.Deep.DeepCutAuto
/- TxnBackWalk -/
namespace Go.Proofs.YtpkbjbhmghdnoaaDoor

open Go.RowKit

set_option linter.unusedVariables false

theorem ext_list {α : Type} {p : Prs α} (h : ExtP p) : ExtP (listP p) := ext_bind (ext_num 1) fun _ => ext_rep h _
theorem ext_txnF : ExtP txnF := ext_guard (ext_bind (ext_guard ext_id) fun _ => ext_bind (ext_list ext_read) fun _ => ext_bind (ext_list (ext_write ext_val)) fun _ => ext_pure _)
theorem back_list {α : Type} {p : Prs α} (enc : α → List UInt8) (good : α → Prop) (h : ∀ x R, good x → p (enc x ++ R) = some (x, R)) (xs : List α) (R : List UInt8) (hg : ∀ x ∈ xs, good x) (hn : xs.length < 256) : listP p (putB xs.length 1 ++ (xs.flatMap enc ++ R)) = some (xs, R) := by
  unfold listP
  rw [bind_some (back_num _ 1 _ (by omega))]
  exact back_rep enc good h xs R hg
theorem back_txnF (t : Tx Val) (R : List UInt8) (hf : formT formedB t = true) (hr : ∀ x ∈ t.rs, x.2 < 18446744073709551616) (hw : ∀ x ∈ t.ws, x.2.b < 18446744073709551616) : txnF (txnB bytesV t ++ R) = some (t, R) := by
  have hF := (formT_iff _ _).1 hf
  have l1 := hF.rlen
  have l2 := hF.wlen
  refine guard_yes ?_ hf
  unfold txnQ txnB
  rw [List.append_assoc, bind_some (show idQ _ = some (t.id, _) from guard_yes (back_id _ _ hF.id) hF.id)]
  rw [List.append_assoc, List.append_assoc, bind_some (back_list readB (fun x => x.1.length ≤ 12 ∧ x.2 < 18446744073709551616) back_read t.rs _ (fun x hx => ⟨key_len (List.all_eq_true.1 hF.rkeys x.1 (List.mem_map.2 ⟨x, hx, rfl⟩)), hr x hx⟩) (by omega))]
  rw [List.append_assoc, bind_some (back_list (writeB bytesV) (fun x => x.1.length ≤ 12 ∧ (x.2.b < 18446744073709551616 ∧ formedB x.2 = true)) (back_write back_val) t.ws _ (fun x hx => ⟨key_len (List.all_eq_true.1 hF.wkeys x.1 (List.mem_map.2 ⟨x, hx, rfl⟩)), hw x hx, List.all_eq_true.1 hF.vals x hx⟩) (by omega))]
  rfl
theorem txT_inj {i i' : IdN} {rs rs' : List RdM} {ws ws' : List WrM} (h : txT i rs ws = txT i' rs' ws') : i = i' ∧ rs = rs' ∧ ws = ws' := by
  unfold txT at h
  injection h with h1 h2 h3
  refine ⟨h1, ?_, ?_⟩
  · refine List.map_inj_right (fun x y e => ?_) |>.1 h2
    obtain ⟨⟨⟨xa⟩⟩, xb⟩ := x
    obtain ⟨⟨⟨ya⟩⟩, yb⟩ := y
    injection e with e1 e2
    simp only at e1 e2
    subst e1; subst e2; rfl
  · refine List.map_inj_right (fun x y e => ?_) |>.1 h3
    obtain ⟨⟨⟨xa⟩⟩, xk, xb, ⟨⟨xt⟩⟩⟩ := x
    obtain ⟨⟨⟨ya⟩⟩, yk, yb, ⟨⟨yt⟩⟩⟩ := y
    injection e with e1 e2
    injection e2 with e2 e3 e4
    simp only at e1 e2 e3 e4
    subst e1; subst e2; subst e3; subst e4; rfl
theorem txnB_len (t : Tx Val) (h : formT formedB t = true) : 5 ≤ (txnB bytesV t).length := by
  unfold txnB; rw [List.length_append, idBytes_len]; omega

theorem flat_le {α : Type} (f : α → List UInt8) (B : Nat) (h : ∀ x, (f x).length ≤ B) (xs : List α) : (xs.flatMap f).length ≤ xs.length * B := by
  induction xs with
  | nil => simp
  | cons x r ih => rw [List.flatMap_cons, List.length_append, List.length_cons, Nat.succ_mul]; have := h x; omega
theorem txnB_max (t : Tx Val) (h : formT formedB t = true) : (txnB bytesV t).length ≤ 1179727 := by
  have hF := (formT_iff _ _).1 h
  have l1 := hF.rlen
  have l2 := hF.wlen
  have h1 := flat_le readB 65545 (fun x => by unfold readB; rw [List.length_append, putB_len]; have := textB_le x.1; omega) t.rs
  have h2 := flat_le (writeB bytesV) 131075 (fun x => by unfold writeB; rw [List.length_append]; have := textB_le x.1; have := bytesV_len x.2; omega) t.ws
  have h3 : t.rs.length * 65545 ≤ 6 * 65545 := Nat.mul_le_mul_right _ l1
  have h4 : t.ws.length * 131075 ≤ 6 * 131075 := Nat.mul_le_mul_right _ l2
  unfold txnB
  rw [List.length_append, List.length_append, List.length_append, List.length_append, idBytes_len, putB_len, putB_len]
  omega

end Go.Proofs.YtpkbjbhmghdnoaaDoor

/- CommandMath -/
namespace Go.Proofs.YtpkbjbhmghdnoaaDoor

set_option linter.unusedVariables false

/-- Its bytes. -/
def yesN (y : Bool) : Nat := if y then 1 else 0
noncomputable def cmB (c : Cm) : List UInt8 := putB c.k.toNat 1 ++ (if c.k = 1 then txnB bytesV c.t else if c.k = 2 then idBytes c.id ++ (putB c.g.toNat 1 ++ putB c.st 8) else if c.k = 3 then idBytes c.id ++ (putB c.g.toNat 1 ++ putB (yesN c.y) 1) else [])
/-- How it is read. -/
def failP {α : Type} : Prs α := fun _ => none
noncomputable def cmTail (k : Nat) : Prs Cm :=
  if k = 1 then bindP txnF fun t => pureP ⟨1, t, (0, 0), 0, 0, false⟩
  else if k = 2 then bindP idQ fun i => bindP (numP 1) fun g => bindP (numP 8) fun s => pureP ⟨2, zeroT, i, (g : Int), s, false⟩
  else if k = 3 then bindP idQ fun i => bindP (numP 1) fun g => bindP (numP 1) fun y => if y ≤ 1 then pureP ⟨3, zeroT, i, (g : Int), 0, decide (y = 1)⟩ else failP
  else pureP ⟨(k : Int), zeroT, (0, 0), 0, 0, false⟩
noncomputable def cmP : Prs Cm := bindP (numP 1) cmTail
noncomputable def cmF : Prs Cm := guardP formCm cmP
theorem ext_fail {α : Type} : ExtP (failP : Prs α) := fun l x r s h => by cases h
theorem ext_idQ : ExtP idQ := ext_guard ext_id
theorem ext_tail (k : Nat) : ExtP (cmTail k) := by
  unfold cmTail
  split
  · exact ext_bind ext_txnF fun _ => ext_pure _
  · split
    · exact ext_bind ext_idQ fun _ => ext_bind (ext_num 1) fun _ => ext_bind (ext_num 8) fun _ => ext_pure _
    · split
      · refine ext_bind ext_idQ fun _ => ext_bind (ext_num 1) fun _ => ext_bind (ext_num 1) fun y => ?_
        split
        · exact ext_pure _
        · exact ext_fail
      · exact ext_pure _
theorem ext_cmF : ExtP cmF := ext_guard (ext_bind (ext_num 1) ext_tail)
/-- What is put is taken. -/
theorem back_cm (c : Cm) (R : List UInt8) (hf : formCm c = true) (ho : CmOk c) : cmF (cmB c ++ R) = some (c, R) := by
  refine guard_yes ?_ hf
  unfold cmP
  rcases form_kinds hf with e | ⟨h1, e⟩ | ⟨⟨h1, h2, h3, h4, h5⟩, e⟩ | ⟨⟨h1, h2, h3⟩, e⟩
  · rw [e]; show bindP (numP 1) cmTail (putB 0 1 ++ [] ++ R) = _
    rw [List.append_nil, bind_some (back_num 0 1 R (by decide))]; rfl
  · generalize c.t = t at *
    subst e
    show bindP (numP 1) cmTail (putB 1 1 ++ txnB bytesV t ++ R) = _
    rw [List.append_assoc, bind_some (back_num 1 1 _ (by decide))]
    show bindP txnF _ _ = _
    rw [bind_some (back_txnF t R h1 ho.1 ho.2.1)]; rfl
  · generalize c.id = i at *
    generalize c.g = g at *
    generalize c.st = s at *
    subst e
    show bindP (numP 1) cmTail (putB 2 1 ++ (idBytes i ++ (putB g.toNat 1 ++ putB s 8)) ++ R) = _
    rw [List.append_assoc, bind_some (back_num 2 1 _ (by decide))]
    show bindP idQ _ _ = _
    rw [List.append_assoc, bind_some (show idQ _ = some (i, _) from guard_yes (back_id _ _ h1) h1), List.append_assoc, bind_some (back_num _ 1 _ (by omega)), bind_some (back_num _ 8 _ (by omega))]
    have eg : ((g.toNat : Nat) : Int) = g := by omega
    unfold pureP
    rw [eg]
  · generalize c.id = i at *
    generalize c.g = g at *
    generalize c.y = y at *
    subst e
    show bindP (numP 1) cmTail (putB 3 1 ++ (idBytes i ++ (putB g.toNat 1 ++ putB (yesN y) 1)) ++ R) = _
    rw [List.append_assoc, bind_some (back_num 3 1 _ (by decide))]
    show bindP idQ _ _ = _
    have hy : yesN y < 256 := by cases y <;> decide
    rw [List.append_assoc, bind_some (show idQ _ = some (i, _) from guard_yes (back_id _ _ h1) h1), List.append_assoc, bind_some (back_num _ 1 _ (by omega)), bind_some (back_num _ 1 _ (by omega))]
    have eg : ((g.toNat : Nat) : Int) = g := by omega
    have hy1 : yesN y ≤ 1 := by cases y <;> decide
    rw [if_pos hy1]
    unfold pureP
    rw [eg]
    have e2 : decide (yesN y = 1) = y := by cases y <;> rfl
    rw [e2]
/-- No beginning of its bytes is one's. -/
theorem cut_cm (c : Cm) (hf : formCm c = true) (ho : CmOk c) (j : Nat) (hj : j < (cmB c).length) : cmF ((cmB c).take j) = none := by
  have h := back_cm c [] hf ho
  rw [List.append_nil] at h
  exact ext_cut ext_cmF h j hj
/-- Two are alike just if their bytes are. -/
theorem cmB_inj {a b : Cm} (ha : formCm a = true) (hb : formCm b = true) (oa : CmOk a) (ob : CmOk b) (h : cmB a = cmB b) : a = b := by
  have h1 := back_cm a [] ha oa
  have h2 := back_cm b [] hb ob
  rw [h, h2] at h1
  injection h1 with h1; injection h1 with h1 _
  exact h1.symm
theorem cmB_pos (c : Cm) : 0 < (cmB c).length := by unfold cmB; rw [List.length_append, putB_len]; omega
theorem cmB_apart {a b : Cm} (ha : formCm a = true) (hb : formCm b = true) (oa : CmOk a) (ob : CmOk b) (hl : (cmB a).length < (cmB b).length) : (cmB b).take (cmB a).length ≠ cmB a := by
  intro h
  have h1 := cut_cm b hb ob _ hl
  have h2 := back_cm a [] ha oa
  rw [List.append_nil, ← h, h1] at h2
  cases h2
theorem cmB_max (c : Cm) (hf : formCm c = true) : (cmB c).length ≤ 1179728 := by
  rcases form_kinds hf with e | ⟨h1, e⟩ | ⟨_, e⟩ | ⟨_, e⟩
  · rw [e]; decide
  · generalize c.t = t at *
    subst e
    show (putB 1 1 ++ txnB bytesV t).length ≤ _
    have := txnB_max t h1
    rw [List.length_append, putB_len]; omega
  · rw [e]; show (putB 2 1 ++ (idBytes c.id ++ (putB c.g.toNat 1 ++ putB c.st 8))).length ≤ _
    simp [idBytes_len, putB_len]
  · rw [e]; show (putB 3 1 ++ (idBytes c.id ++ (putB c.g.toNat 1 ++ putB (yesN c.y) 1))).length ≤ _
    simp [idBytes_len, putB_len]
/-- Commands in a row: their bytes, and where the first i end. -/
noncomputable def cmsB (l : List Cm) : List UInt8 := l.flatMap cmB
noncomputable def endC (l : List Cm) (i : Nat) : Nat := (cmsB (l.take i)).length
theorem endC_zero (l : List Cm) : endC l 0 = 0 := rfl
theorem endC_next (l : List Cm) (i : Nat) (h : i < l.length) : endC l (i + 1) = endC l i + (cmB l[i]).length := by
  unfold endC cmsB; rw [List.take_succ_eq_append_getElem h, List.flatMap_append, List.length_append]; simp
theorem cms_drop (l : List Cm) (i : Nat) (h : i < l.length) : (cmsB l).drop (endC l i) = cmB l[i] ++ (cmsB l).drop (endC l (i + 1)) := by
  have e1 : cmsB l = cmsB (l.take i) ++ cmsB (l.drop i) := by unfold cmsB; rw [← List.flatMap_append, List.take_append_drop]
  have e2 : cmsB (l.drop i) = cmB l[i] ++ cmsB (l.drop (i + 1)) := by unfold cmsB; rw [List.drop_eq_getElem_cons h, List.flatMap_cons]
  have e3 : cmsB l = cmsB (l.take (i + 1)) ++ cmsB (l.drop (i + 1)) := by unfold cmsB; rw [← List.flatMap_append, List.take_append_drop]
  have e4 : (cmsB l).drop (endC l i) = cmsB (l.drop i) := by rw [e1]; exact drop_app _ _ _ rfl
  have e5 : (cmsB l).drop (endC l (i + 1)) = cmsB (l.drop (i + 1)) := by rw [e3]; exact drop_app _ _ _ rfl
  rw [e4, e5, e2]
/-- What is read of bytes that are cut off at t, behind i commands. -/
theorem cms_yes (l : List Cm) (i t : Nat) (h : i < l.length) (hf : formCm l[i] = true) (ho : CmOk l[i]) (ht : endC l (i + 1) ≤ t) : cmF (((cmsB l).take t).drop (endC l i)) = some (l[i], ((cmsB l).take t).drop (endC l (i + 1))) := by
  have hn := endC_next l i h
  rw [List.drop_take, cms_drop l i h, List.take_append]
  have e1 : (cmB l[i]).take (t - endC l i) = cmB l[i] := List.take_of_length_le (by omega)
  rw [e1, back_cm _ _ hf ho, List.drop_take]
  congr 2
  congr 1
  omega
theorem cms_no (l : List Cm) (i t : Nat) (h : i < l.length) (hf : formCm l[i] = true) (ho : CmOk l[i]) (ht : t < endC l (i + 1)) (h0 : endC l i ≤ t) : cmF (((cmsB l).take t).drop (endC l i)) = none := by
  have hn := endC_next l i h
  rw [List.drop_take, cms_drop l i h, List.take_append_of_le_length (by omega)]
  exact cut_cm _ hf ho _ (by omega)
end Go.Proofs.YtpkbjbhmghdnoaaDoor
