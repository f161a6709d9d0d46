/- Plain mathematics of layer ballot: the order of ballots, the last one of many, the next one, a ballot's bytes. No condition. Plain mathematics of layer message: formed messages, their labels, their bytes; what is put is taken, and what is taken was put. No condition. Plain mathematics of layer frame: the sum of bytes, and that it tells up to four bytes side by side. No condition. -/
import Derived.Test.YtcfmifongbapkaaGreatDoorQA
import Derived.Test.YtcfmifongbapkaaGreatDoorQL
import Derived.Tactics
/- BallotMath -/
namespace Go.Proofs.YtcfmifongbapkaaGreatDoor

/-- A ballot: its round and its node. -/
abbrev Bal := Int × Int
/-- Whether a lies ahead of b. -/
def lessB (a b : Bal) : Bool := if a.1 = b.1 then decide (a.2 < b.2) else decide (a.1 < b.1)
def formB (n : Int) : Bool := decide (0 ≤ n) && decide (n < 5)
theorem less_iff (a b : Bal) : lessB a b = true ↔ a.1 < b.1 ∨ (a.1 = b.1 ∧ a.2 < b.2) := by
  unfold lessB; split <;> simp <;> omega
theorem less_false (a b : Bal) : lessB a b = false ↔ ¬ (a.1 < b.1 ∨ (a.1 = b.1 ∧ a.2 < b.2)) := by rw [← less_iff]; simp
theorem less_self (a : Bal) : lessB a a = false := by rw [less_false]; omega
theorem less_asym {a b : Bal} (h : lessB a b = true) : lessB b a = false := by rw [less_iff] at h; rw [less_false]; omega
theorem less_none {a b : Bal} (h : lessB a b = false) (h' : lessB b a = false) : a = b := by
  rw [less_false] at h h'; obtain ⟨x, y⟩ := a; obtain ⟨z, u⟩ := b; simp at h h' ⊢; omega
theorem less_trans {a b c : Bal} (h : lessB a b = true) (h' : lessB b c = true) : lessB a c = true := by rw [less_iff] at *; omega
theorem less_not_trans {a b c : Bal} (h : lessB b a = false) (h' : lessB c b = false) : lessB c a = false := by rw [less_false] at *; omega

/-- The greater of two; the greatest of many, from a first one on. -/
def most2 (m b : Bal) : Bal := if lessB m b then b else m
def mostF (x : Bal) (l : List Bal) : Bal := l.foldl most2 x
def mostB : List Bal → Bal
  | [] => (0, 0)
  | x :: l => mostF x l
theorem most2_left (m b : Bal) : lessB (most2 m b) m = false := by
  unfold most2; cases h : lessB m b
  · exact less_self m
  · exact less_asym h
theorem most2_right (m b : Bal) : lessB (most2 m b) b = false := by
  unfold most2; cases h : lessB m b
  · exact h
  · exact less_self b
theorem mostF_ge (x : Bal) (l : List Bal) : lessB (mostF x l) x = false ∧ ∀ y ∈ l, lessB (mostF x l) y = false := by
  induction l generalizing x with
  | nil => exact ⟨less_self x, fun y hy => by cases hy⟩
  | cons b r ih =>
    obtain ⟨h1, h2⟩ := ih (most2 x b)
    refine ⟨less_not_trans (most2_left x b) h1, fun y hy => ?_⟩
    rcases List.mem_cons.1 hy with rfl | hy
    · exact less_not_trans (most2_right x y) h1
    · exact h2 y hy
theorem mostF_mem (x : Bal) (l : List Bal) : mostF x l = x ∨ mostF x l ∈ l := by
  induction l generalizing x with
  | nil => exact .inl rfl
  | cons b r ih =>
    rcases ih (most2 x b) with h | h
    · have h' : mostF x (b :: r) = most2 x b := h
      rw [h']; unfold most2; cases lessB x b
      · exact .inl rfl
      · exact .inr (List.mem_cons_self ..)
    · exact .inr (List.mem_cons_of_mem _ h)
theorem mostB_ge (l : List Bal) : ∀ y ∈ l, lessB (mostB l) y = false := by
  cases l with
  | nil => intro y hy; cases hy
  | cons x r =>
    intro y hy
    rcases List.mem_cons.1 hy with rfl | hy
    · exact (mostF_ge y r).1
    · exact (mostF_ge x r).2 y hy
theorem mostB_mem (l : List Bal) (h : l ≠ []) : mostB l ∈ l := by
  cases l with
  | nil => exact absurd rfl h
  | cons x r =>
    rcases mostF_mem x r with h | h
    · show mostF x r ∈ _; rw [h]; exact List.mem_cons_self ..
    · exact List.mem_cons_of_mem _ h
/-- One of the list that lies ahead of none is the greatest. -/
theorem mostB_is {l : List Bal} {x : Bal} (hx : x ∈ l) (h : ∀ y ∈ l, lessB x y = false) : mostB l = x :=
  less_none (mostB_ge l x hx) (h _ (mostB_mem l (List.ne_nil_of_mem hx)))
theorem mostF_snoc (x : Bal) (l : List Bal) (b : Bal) : mostF x (l ++ [b]) = most2 (mostF x l) b := by simp [mostF]

/-- What is next for node m: the ballot, and the error. -/
def nextB (a : Bal) (m : Int) : Bal × Int := if formB m then (if a.1 = 4294967295 then ((0, 0), 7) else ((a.1 + 1, m), 0)) else ((0, 0), 1)

/-- A ballot's bytes. -/
def balB (r : Nat) (n : Int) : List UInt8 := putB r 4 ++ [UInt8.ofNat (n % 256).toNat]
theorem balB_len (r : Nat) (n : Int) : (balB r n).length = 5 := by simp [balB, putB_len]
/-- The ballot that is next in bytes, and whether there is one. -/
def tkR (l : List UInt8) : Nat := numB (l.take 4)
def tkNode (l : List UInt8) : Nat := numB ((l.drop 4).take 1)
def balOk (l : List UInt8) : Prop := 5 ≤ l.length ∧ tkNode l < 5
theorem tkR_lt (l : List UInt8) : tkR l < 4294967296 := by
  have h := numB_lt (l.take 4)
  have h2 : 256 ^ (l.take 4).length ≤ 256 ^ 4 := Nat.pow_le_pow_right (by omega) (by simp; omega)
  unfold tkR; omega
theorem tkNode_lt (l : List UInt8) : tkNode l < 256 := by
  have h := numB_lt ((l.drop 4).take 1)
  have h2 : 256 ^ ((l.drop 4).take 1).length ≤ 256 ^ 1 := Nat.pow_le_pow_right (by omega) (by simp; omega)
  unfold tkNode; omega
theorem bal_back (r : Nat) (n : Int) (hr : r < 4294967296) (h0 : 0 ≤ n) (h5 : n < 5) : tkR (balB r n) = r ∧ (tkNode (balB r n) : Int) = n ∧ balOk (balB r n) ∧ (balB r n).drop 5 = [] := by
  have e1 : (balB r n).take 4 = putB r 4 := take_app _ _ 4 (putB_len r 4)
  have e2 : (balB r n).drop 4 = [UInt8.ofNat (n % 256).toNat] := drop_app _ _ 4 (putB_len r 4)
  have e3 : tkNode (balB r n) = n.toNat := by
    have h8 : (UInt8.ofNat (n % 256).toNat).toNat = (n % 256).toNat % 256 := UInt8.toNat_ofNat'
    unfold tkNode; rw [e2]; show numB [_] = _
    rw [numB_cons, numB_nil, h8]; simp; omega
  refine ⟨?_, by rw [e3]; omega, ⟨by rw [balB_len]; omega, by rw [e3]; omega⟩, List.drop_of_length_le (by rw [balB_len]; omega)⟩
  unfold tkR; rw [e1, numB_put]; omega
end Go.Proofs.YtcfmifongbapkaaGreatDoor

/- MessageMath -/
namespace Go.Proofs.YtcfmifongbapkaaGreatDoor

set_option linter.unusedVariables false

/-- A part that is read only if it is used. -/
def optP {α : Type} (c : Bool) (p : Prs α) (z : α) : Prs α := if c then p else pureP z
def onB (c : Bool) (l : List UInt8) : List UInt8 := if c then l else []
section

variable {α : Type} {p : Prs α} {z x : α} {c : Bool} {R : List UInt8} {enc : α → List UInt8}

theorem ext_opt (h : ExtP p) : ExtP (optP c p z) := by
  unfold optP
  cases c
  · exact ext_pure z
  · exact h
theorem back_opt (h : c = true → p (enc x ++ R) = some (x, R)) (hz : c = false → x = z) : optP c p z (onB c (enc x) ++ R) = some (x, R) := by
  cases c
  · rw [hz rfl]; rfl
  · exact h rfl
theorem snd_opt (h : SndP p enc) : ∀ l x r, optP c p z l = some (x, r) → l = onB c (enc x) ++ r := by
  intro l x r e
  cases c
  · have e' : some (z, l) = some (x, r) := e
    cases e'; rfl
  · exact h l x r e
end

/-- A number as an integer; a yes; a ballot; bytes with their length ahead of them. -/
def numI (k : Nat) : Prs Int := bindP (numP k) fun n => pureP (n : Int)
theorem ext_numI (k : Nat) : ExtP (numI k) := ext_bind (ext_num k) fun _ => ext_pure _
theorem back_numI (x : Int) (k : Nat) (R : List UInt8) (h0 : 0 ≤ x) (h : x.toNat < 256 ^ k) : numI k (putB x.toNat k ++ R) = some (x, R) := by
  unfold numI
  rw [bind_some (back_num _ k _ h)]
  unfold pureP
  rw [Int.toNat_of_nonneg h0]
theorem snd_numI (k : Nat) : SndP (numI k) fun x : Int => putB x.toNat k := by
  intro l x r h
  obtain ⟨n, m, e1, e2⟩ := bind_inv h
  injection e2 with e2; injection e2 with e3 e4
  subst e3; subst e4
  exact snd_num k _ _ _ e1
theorem ext_yes : ExtP yesP := by
  refine ext_bind (ext_num 1) fun y => ?_
  split
  · exact ext_pure _
  · exact ext_fail
theorem back_yes (x : Bool) (R : List UInt8) : yesP (putB (yesN x) 1 ++ R) = some (x, R) := by
  unfold yesP
  rw [bind_some (back_num _ 1 _ (by cases x <;> decide))]
  cases x <;> rfl
theorem snd_yes : SndP yesP fun x => putB (yesN x) 1 := by
  intro l x r h
  obtain ⟨y, m, e1, e2⟩ := bind_inv h
  split at e2
  · rename_i hy
    injection e2 with e2; injection e2 with e3 e4
    subst e3; subst e4
    rw [snd_num 1 _ _ _ e1]
    show _ = putB (yesN (decide (y = 1))) 1 ++ _
    rw [yesN_of hy]
  · cases e2
def balBytes (b : Bal) : List UInt8 := putB b.1.toNat 4 ++ putB b.2.toNat 1
theorem balBytes_len (b : Bal) : (balBytes b).length = 5 := by unfold balBytes; rw [List.length_append, putB_len, putB_len]
def balQ : Prs Bal := guardP (fun b => formB b.2) (bindP (numI 4) fun r => bindP (numI 1) fun n => pureP (r, n))
theorem ext_bal : ExtP balQ := ext_guard (ext_bind (ext_numI 4) fun _ => ext_bind (ext_numI 1) fun _ => ext_pure _)
theorem back_bal (b : Bal) (R : List UInt8) (h : formB b.2 = true) (h0 : 0 ≤ b.1) (h1 : b.1 < 4294967296) : balQ (balBytes b ++ R) = some (b, R) := by
  have hn : 0 ≤ b.2 ∧ b.2 < 5 := by simpa [formB] using h
  refine guard_yes ?_ h
  unfold balBytes
  rw [List.append_assoc, bind_some (back_numI _ 4 _ h0 (by omega)), bind_some (back_numI _ 1 _ hn.1 (by omega))]; rfl
theorem snd_bal : SndP balQ balBytes := by
  refine snd_guard fun l x r h => ?_
  obtain ⟨a, m, e1, e2⟩ := bind_inv h
  obtain ⟨b, m2, e3, e4⟩ := bind_inv e2
  injection e4 with e4; injection e4 with e5 e6
  subst e5; subst e6
  rw [snd_numI 4 _ _ _ e1, snd_numI 1 _ _ _ e3]
  unfold balBytes
  rw [List.append_assoc]
def cutP (n : Nat) : Prs (List UInt8) := fun l => if n ≤ l.length then some (l.take n, l.drop n) else none
def dataP : Prs (List UInt8) := bindP (numP 4) cutP
def dataB (d : List UInt8) : List UInt8 := putB d.length 4 ++ d
theorem ext_cutP (n : Nat) : ExtP (cutP n) := by
  intro l x r s h
  unfold cutP at *
  split at h
  · rename_i hn
    injection h with h; injection h with h1 h2
    rw [if_pos (by rw [List.length_append]; omega), List.take_append_of_le_length hn, List.drop_append_of_le_length hn, h1, h2]
  · cases h
theorem ext_data : ExtP dataP := ext_bind (ext_num 4) ext_cutP
theorem back_data (d R : List UInt8) (h : d.length < 256 ^ 4) : dataP (dataB d ++ R) = some (d, R) := by
  unfold dataP dataB
  rw [List.append_assoc, bind_some (back_num _ 4 _ h)]
  unfold cutP
  rw [if_pos (by rw [List.length_append]; omega), take_app _ _ _ rfl, drop_app _ _ _ rfl]
theorem snd_data : SndP dataP dataB := by
  intro l x r h
  obtain ⟨n, m, e1, e2⟩ := bind_inv h
  unfold cutP at e2
  split at e2
  · rename_i hn
    injection e2 with e2; injection e2 with e3 e4
    have hx : x.length = n := by rw [← e3, List.length_take]; omega
    rw [snd_num 4 _ _ _ e1]
    unfold dataB
    show putB n 4 ++ m = _
    rw [hx, ← e3, ← e4, List.append_assoc, List.take_append_drop]
  · cases e2

/-- Which kind uses what. -/
def uBal (k : Int) : Bool := decide (1 ≤ k) && decide (k ≤ 5)
def uSlot (k : Int) : Bool := decide (k = 2) || ((decide (4 ≤ k) && decide (k ≤ 7)) || decide (k = 15))
def uHas (k : Int) : Bool := decide (k = 2)
def uCmd (k : Int) : Bool := decide (k = 4) || decide (k = 6)
def uTxn (k : Int) : Bool := decide (k = 8)
def uId (k : Int) : Bool := decide (9 ≤ k) && decide (k ≤ 11)
def uGrp (k : Int) : Bool := (decide (9 ≤ k) && decide (k ≤ 11)) || decide (k = 13)
def uStp (k : Int) : Bool := decide (k = 9) || (decide (11 ≤ k) && decide (k ≤ 13))
def uYes (k : Int) : Bool := decide (k = 10) || decide (k = 11)
def uNum (k : Int) : Bool := decide (12 ≤ k) && decide (k ≤ 14)
def uKey (k : Int) : Bool := decide (k = 12) || decide (k = 13)
def uVal (k : Int) : Bool := decide (k = 13)
def uDat (k : Int) : Bool := decide (k = 15)
/-- A message. -/
structure Mg where
  k : Int
  ba : Bal
  sl : Int
  has : Bool
  vo : Bal
  cm : Cm
  tx : Tx Val
  id : IdN
  g : Int
  st : Nat
  y : Bool
  nu : Int
  key : List UInt8
  ver : Nat
  val : Val
  err : Int
  data : List UInt8
def zeroCB (c : Cm) : Bool := decide (c.k = 0) && (zeroTB c.t && restB c)
theorem zeroCB_iff (c : Cm) : zeroCB c = true ↔ c = zeroC := by
  constructor
  · intro h
    unfold zeroCB at h
    rw [Bool.and_eq_true, Bool.and_eq_true] at h
    have h0 : c.k = 0 := of_decide_eq_true h.1
    obtain ⟨h1, h2, h3, h4⟩ := rest_eq h.2.2
    have h5 := (zeroTB_iff _).1 h.2.1
    obtain ⟨k, t, i, g, s, y⟩ := c
    simp only at h0 h1 h2 h3 h4 h5
    rw [h0, h1, h2, h3, h4, h5]; rfl
  · rintro rfl; rfl
/-- It is formed. -/
structure FormMg (m : Mg) : Prop where
  kind : 1 ≤ m.k ∧ m.k ≤ 15
  ba : uBal m.k = true → formB m.ba.2 = true
  ba0 : uBal m.k = false → m.ba = (0, 0)
  sl : 0 ≤ m.sl ∧ m.sl ≤ 1000000 ∧ (uSlot m.k = false → m.sl = 0)
  has0 : uHas m.k = false → m.has = false
  vo : m.has = true → formB m.vo.2 = true
  vo0 : m.has = false → m.vo = (0, 0)
  cm : (m.has || uCmd m.k) = true → formCm m.cm = true
  cm0 : (m.has || uCmd m.k) = false → m.cm = zeroC
  tx : uTxn m.k = true → formT formedB m.tx = true
  tx0 : uTxn m.k = false → m.tx = zeroT
  id : uId m.k = true → idB m.id = true
  id0 : uId m.k = false → m.id = (0, 0)
  g : 0 ≤ m.g ∧ m.g < 4 ∧ (uGrp m.k = false → m.g = 0)
  st0 : uStp m.k = false → m.st = 0
  y0 : uYes m.k = false → m.y = false
  nu : 0 ≤ m.nu ∧ m.nu ≤ 2147483647 ∧ (uNum m.k = false → m.nu = 0)
  key : uKey m.k = true → keyB m.key = true ∨ (m.k = 13 ∧ m.key = [])
  key0 : uKey m.k = false → m.key = []
  val : (uVal m.k = false → m.ver = 0 ∧ m.val = ⟨0, 0, []⟩ ∧ m.err = 0) ∧ formedB m.val = true ∧ 0 ≤ m.err ∧ m.err ≤ 11
  data : m.data.length ≤ 59900 ∧ (uDat m.k = false → m.data = [])
noncomputable def formMg (m : Mg) : Bool := @decide (FormMg m) (Classical.propDecidable _)
theorem formMg_iff (m : Mg) : formMg m = true ↔ FormMg m := ⟨fun h => @of_decide_eq_true _ (Classical.propDecidable _) h, fun h => @decide_eq_true _ (Classical.propDecidable _) h⟩
def labelMg (m : Mg) : IdN := if m.k = 8 then m.tx.id else if 9 ≤ m.k ∧ m.k ≤ 11 then m.id else if m.k = 2 ∨ m.k = 4 ∨ m.k = 6 then labelCm m.cm else (0, 0)
/-- Its numbers are of a size that is. -/
structure MgOk (m : Mg) : Prop where
  ba : 0 ≤ m.ba.1 ∧ m.ba.1 < 4294967296
  vo : 0 ≤ m.vo.1 ∧ m.vo.1 < 4294967296
  cm : CmOk m.cm
  tx : (∀ x ∈ m.tx.rs, x.2 < 18446744073709551616) ∧ ∀ x ∈ m.tx.ws, x.2.b < 18446744073709551616
  st : m.st < 18446744073709551616
  ver : m.ver < 18446744073709551616
  val : m.val.b < 18446744073709551616
/-- Its bytes; how it is read. -/
noncomputable def mgB (m : Mg) : List UInt8 := putB m.k.toNat 1 ++ (onB (uBal m.k) ((balBytes) m.ba) ++ (onB (uSlot m.k) ((fun x : Int => putB x.toNat 4) m.sl) ++ (onB (uHas m.k) ((fun x => putB (yesN x) 1) m.has) ++ (onB (m.has) ((balBytes) m.vo) ++ (onB ((m.has || uCmd m.k)) ((cmB) m.cm) ++ (onB (uTxn m.k) ((txnB bytesV) m.tx) ++ (onB (uId m.k) ((idBytes) m.id) ++ (onB (uGrp m.k) ((fun x : Int => putB x.toNat 1) m.g) ++ (onB (uStp m.k) ((fun x => putB x 8) m.st) ++ (onB (uYes m.k) ((fun x => putB (yesN x) 1) m.y) ++ (onB (uNum m.k) ((fun x : Int => putB x.toNat 4) m.nu) ++ (onB (uKey m.k) ((textB) m.key) ++ (onB (uVal m.k) ((fun x => putB x 8) m.ver) ++ (onB (uVal m.k) ((bytesV) m.val) ++ (onB (uVal m.k) ((fun x : Int => putB x.toNat 1) m.err) ++ (onB (uDat m.k) ((dataB) m.data)))))))))))))))))
noncomputable def mgP : Prs Mg := bindP (numI 1) fun k => bindP (optP (uBal k) (balQ) ((0, 0))) fun ba => bindP (optP (uSlot k) (numI 4) (0)) fun sl => bindP (optP (uHas k) (yesP) (false)) fun has => bindP (optP (has) (balQ) ((0, 0))) fun vo => bindP (optP ((has || uCmd k)) (cmF) (zeroC)) fun cm => bindP (optP (uTxn k) (txnF) (zeroT)) fun tx => bindP (optP (uId k) (idQ) ((0, 0))) fun id => bindP (optP (uGrp k) (numI 1) (0)) fun g => bindP (optP (uStp k) (numP 8) (0)) fun st => bindP (optP (uYes k) (yesP) (false)) fun y => bindP (optP (uNum k) (numI 4) (0)) fun nu => bindP (optP (uKey k) (textP 12) ([])) fun key => bindP (optP (uVal k) (numP 8) (0)) fun ver => bindP (optP (uVal k) (valP) (⟨0, 0, []⟩)) fun val => bindP (optP (uVal k) (numI 1) (0)) fun err => bindP (optP (uDat k) (dataP) ([])) fun data => pureP (⟨k, ba, sl, has, vo, cm, tx, id, g, st, y, nu, key, ver, val, err, data⟩ : Mg)
noncomputable def mgF : Prs Mg := guardP formMg mgP
theorem ext_mgF : ExtP mgF := ext_guard (ext_bind (ext_numI 1) fun _ => ext_bind (ext_opt (ext_bal)) fun _ => ext_bind (ext_opt (ext_numI 4)) fun _ => ext_bind (ext_opt (ext_yes)) fun _ => ext_bind (ext_opt (ext_bal)) fun _ => ext_bind (ext_opt (ext_cmF)) fun _ => ext_bind (ext_opt (ext_txnF)) fun _ => ext_bind (ext_opt (ext_idQ)) fun _ => ext_bind (ext_opt (ext_numI 1)) fun _ => ext_bind (ext_opt (ext_num 8)) fun _ => ext_bind (ext_opt (ext_yes)) fun _ => ext_bind (ext_opt (ext_numI 4)) fun _ => ext_bind (ext_opt (ext_text 12)) fun _ => ext_bind (ext_opt (ext_num 8)) fun _ => ext_bind (ext_opt (ext_val)) fun _ => ext_bind (ext_opt (ext_numI 1)) fun _ => ext_bind (ext_opt (ext_data)) fun _ => ext_pure _)
/-- What is taken was put. -/
theorem snd_mgP : SndP mgP mgB := by
  intro l x r h
  obtain ⟨k, m0, e, h0⟩ := bind_inv h
  have s := snd_numI 1 _ _ _ e
  obtain ⟨ba, m1, e0, h1⟩ := bind_inv h0
  have s0 := snd_opt (snd_bal) _ _ _ e0
  obtain ⟨sl, m2, e1, h2⟩ := bind_inv h1
  have s1 := snd_opt (snd_numI 4) _ _ _ e1
  obtain ⟨has, m3, e2, h3⟩ := bind_inv h2
  have s2 := snd_opt (snd_yes) _ _ _ e2
  obtain ⟨vo, m4, e3, h4⟩ := bind_inv h3
  have s3 := snd_opt (snd_bal) _ _ _ e3
  obtain ⟨cm, m5, e4, h5⟩ := bind_inv h4
  have s4 := snd_opt (snd_cm) _ _ _ e4
  obtain ⟨tx, m6, e5, h6⟩ := bind_inv h5
  have s5 := snd_opt (snd_txn) _ _ _ e5
  obtain ⟨id, m7, e6, h7⟩ := bind_inv h6
  have s6 := snd_opt (snd_id) _ _ _ e6
  obtain ⟨g, m8, e7, h8⟩ := bind_inv h7
  have s7 := snd_opt (snd_numI 1) _ _ _ e7
  obtain ⟨st, m9, e8, h9⟩ := bind_inv h8
  have s8 := snd_opt (snd_num 8) _ _ _ e8
  obtain ⟨y, m10, e9, h10⟩ := bind_inv h9
  have s9 := snd_opt (snd_yes) _ _ _ e9
  obtain ⟨nu, m11, e10, h11⟩ := bind_inv h10
  have s10 := snd_opt (snd_numI 4) _ _ _ e10
  obtain ⟨key, m12, e11, h12⟩ := bind_inv h11
  have s11 := snd_opt (snd_text 12 (by omega)) _ _ _ e11
  obtain ⟨ver, m13, e12, h13⟩ := bind_inv h12
  have s12 := snd_opt (snd_num 8) _ _ _ e12
  obtain ⟨val, m14, e13, h14⟩ := bind_inv h13
  have s13 := snd_opt (snd_val) _ _ _ e13
  obtain ⟨err, m15, e14, h15⟩ := bind_inv h14
  have s14 := snd_opt (snd_numI 1) _ _ _ e14
  obtain ⟨data, m16, e15, h16⟩ := bind_inv h15
  have s15 := snd_opt (snd_data) _ _ _ e15
  injection h16 with h16; injection h16 with g1 g2
  subst g1; subst g2
  rw [s, s0, s1, s2, s3, s4, s5, s6, s7, s8, s9, s10, s11, s12, s13, s14, s15]
  unfold mgB
  simp only [List.append_assoc]
theorem snd_mg : SndP mgF mgB := snd_guard snd_mgP
/-- What is put is taken. -/
theorem back_mg (m : Mg) (R : List UInt8) (hf : FormMg m) (o : MgOk m) : mgF (mgB m ++ R) = some (m, R) := by
  refine guard_yes ?_ ((formMg_iff m).2 hf)
  obtain ⟨gk, g0, z0, g1, z2, g3, z3, g4, z4, g5, z5, g6, z6, g7, z8, z9, g10, gkey, z11, g13, g14⟩ := hf
  have g11 : uKey m.k = true → m.key.length ≤ 12 := fun hu => by
    rcases gkey hu with h | h
    · exact key_len h
    · rw [h.2]; exact Nat.zero_le _
  have b : ∀ R, numI 1 (putB m.k.toNat 1 ++ R) = some (m.k, R) := fun R => back_numI _ 1 _ (by omega) (by omega)
  have b0 : ∀ R, optP (uBal m.k) (balQ) ((0, 0)) (onB (uBal m.k) ((balBytes) m.ba) ++ R) = some (m.ba, R) := fun R => back_opt (enc := balBytes) (fun hu => back_bal _ _ (g0 hu) o.ba.1 o.ba.2) (fun hu => z0 hu)
  have b1 : ∀ R, optP (uSlot m.k) (numI 4) (0) (onB (uSlot m.k) ((fun x : Int => putB x.toNat 4) m.sl) ++ R) = some (m.sl, R) := fun R => back_opt (enc := fun x : Int => putB x.toNat 4) (fun hu => back_numI _ 4 _ g1.1 (by have := g1.2.1; omega)) (fun hu => g1.2.2 hu)
  have b2 : ∀ R, optP (uHas m.k) (yesP) (false) (onB (uHas m.k) ((fun x => putB (yesN x) 1) m.has) ++ R) = some (m.has, R) := fun R => back_opt (enc := fun x => putB (yesN x) 1) (fun hu => back_yes _ _) (fun hu => z2 hu)
  have b3 : ∀ R, optP (m.has) (balQ) ((0, 0)) (onB (m.has) ((balBytes) m.vo) ++ R) = some (m.vo, R) := fun R => back_opt (enc := balBytes) (fun hu => back_bal _ _ (g3 hu) o.vo.1 o.vo.2) (fun hu => z3 hu)
  have b4 : ∀ R, optP ((m.has || uCmd m.k)) (cmF) (zeroC) (onB ((m.has || uCmd m.k)) ((cmB) m.cm) ++ R) = some (m.cm, R) := fun R => back_opt (enc := cmB) (fun hu => back_cm _ _ (g4 hu) o.cm) (fun hu => z4 hu)
  have b5 : ∀ R, optP (uTxn m.k) (txnF) (zeroT) (onB (uTxn m.k) ((txnB bytesV) m.tx) ++ R) = some (m.tx, R) := fun R => back_opt (enc := txnB bytesV) (fun hu => back_txnF _ _ (g5 hu) o.tx.1 o.tx.2) (fun hu => z5 hu)
  have b6 : ∀ R, optP (uId m.k) (idQ) ((0, 0)) (onB (uId m.k) ((idBytes) m.id) ++ R) = some (m.id, R) := fun R => back_opt (enc := idBytes) (fun hu => show idQ _ = some (_, _) from guard_yes (back_id _ _ (g6 hu)) (g6 hu)) (fun hu => z6 hu)
  have b7 : ∀ R, optP (uGrp m.k) (numI 1) (0) (onB (uGrp m.k) ((fun x : Int => putB x.toNat 1) m.g) ++ R) = some (m.g, R) := fun R => back_opt (enc := fun x : Int => putB x.toNat 1) (fun hu => back_numI _ 1 _ g7.1 (by have := g7.2.1; omega)) (fun hu => g7.2.2 hu)
  have b8 : ∀ R, optP (uStp m.k) (numP 8) (0) (onB (uStp m.k) ((fun x => putB x 8) m.st) ++ R) = some (m.st, R) := fun R => back_opt (enc := fun x => putB x 8) (fun hu => back_num _ 8 _ (by have := o.st; omega)) (fun hu => z8 hu)
  have b9 : ∀ R, optP (uYes m.k) (yesP) (false) (onB (uYes m.k) ((fun x => putB (yesN x) 1) m.y) ++ R) = some (m.y, R) := fun R => back_opt (enc := fun x => putB (yesN x) 1) (fun hu => back_yes _ _) (fun hu => z9 hu)
  have b10 : ∀ R, optP (uNum m.k) (numI 4) (0) (onB (uNum m.k) ((fun x : Int => putB x.toNat 4) m.nu) ++ R) = some (m.nu, R) := fun R => back_opt (enc := fun x : Int => putB x.toNat 4) (fun hu => back_numI _ 4 _ g10.1 (by have := g10.2.1; omega)) (fun hu => g10.2.2 hu)
  have b11 : ∀ R, optP (uKey m.k) (textP 12) ([]) (onB (uKey m.k) ((textB) m.key) ++ R) = some (m.key, R) := fun R => back_opt (enc := textB) (fun hu => back_text _ _ 12 (g11 hu) (by omega)) (fun hu => z11 hu)
  have b12 : ∀ R, optP (uVal m.k) (numP 8) (0) (onB (uVal m.k) ((fun x => putB x 8) m.ver) ++ R) = some (m.ver, R) := fun R => back_opt (enc := fun x => putB x 8) (fun hu => back_num _ 8 _ (by have := o.ver; omega)) (fun hu => (g13.1 hu).1)
  have b13 : ∀ R, optP (uVal m.k) (valP) (⟨0, 0, []⟩) (onB (uVal m.k) ((bytesV) m.val) ++ R) = some (m.val, R) := fun R => back_opt (enc := bytesV) (fun hu => back_val _ _ ⟨o.val, g13.2.1⟩) (fun hu => (g13.1 hu).2.1)
  have b14 : ∀ R, optP (uVal m.k) (numI 1) (0) (onB (uVal m.k) ((fun x : Int => putB x.toNat 1) m.err) ++ R) = some (m.err, R) := fun R => back_opt (enc := fun x : Int => putB x.toNat 1) (fun hu => back_numI _ 1 _ g13.2.2.1 (by have := g13.2.2.2; omega)) (fun hu => (g13.1 hu).2.2)
  have b15 : ∀ R, optP (uDat m.k) (dataP) ([]) (onB (uDat m.k) ((dataB) m.data) ++ R) = some (m.data, R) := fun R => back_opt (enc := dataB) (fun hu => back_data _ _ (by have := g14.1; omega)) (fun hu => g14.2 hu)
  unfold mgP mgB
  simp only [List.append_assoc]
  rw [bind_some (b _), bind_some (b0 _), bind_some (b1 _), bind_some (b2 _), bind_some (b3 _), bind_some (b4 _), bind_some (b5 _), bind_some (b6 _), bind_some (b7 _), bind_some (b8 _), bind_some (b9 _), bind_some (b10 _), bind_some (b11 _), bind_some (b12 _), bind_some (b13 _), bind_some (b14 _), bind_some (b15 _)]
  rfl
theorem cut_mg (m : Mg) (hf : FormMg m) (o : MgOk m) (j : Nat) (hj : j < (mgB m).length) : mgF ((mgB m).take j) = none := by
  have h := back_mg m [] hf o
  rw [List.append_nil] at h
  exact ext_cut ext_mgF h j hj
theorem mgB_pos (m : Mg) : 0 < (mgB m).length := by unfold mgB; rw [List.length_append, putB_len]; omega
/-- Bytes are a formed message's just if they are read as it, to their end. -/
theorem read_mg (l : List UInt8) (m : Mg) (h : mgF l = some (m, [])) : FormMg m ∧ mgB m = l :=
  ⟨(formMg_iff m).1 (guard_good h), by rw [snd_mg l m [] h, List.append_nil]⟩
end Go.Proofs.YtcfmifongbapkaaGreatDoor

/- FrameMath -/
namespace Go.Proofs.YtcfmifongbapkaaGreatDoor

/-- One bit of the sum. -/
def crcStep (s : Nat) : Nat := if s % 2 = 1 then s / 2 ^^^ 3988292384 else s / 2
def crcN : Nat → Nat → Nat
  | 0, s => s
  | k + 1, s => crcN k (crcStep s)
def crcByte (s : Nat) (b : UInt8) : Nat := crcN 8 (s ^^^ b.toNat)
def crcAll (s : Nat) (l : List UInt8) : Nat := l.foldl crcByte s
/-- The sum of bytes. -/
def sumB (l : List UInt8) : Nat := 4294967295 - crcAll 4294967295 l

theorem crcStep_lt (s : Nat) (h : s < 2 ^ 32) : crcStep s < 2 ^ 32 := by
  unfold crcStep
  split
  · exact Nat.xor_lt_two_pow (by omega) (by decide)
  · omega
theorem crcN_lt (k s : Nat) (h : s < 2 ^ 32) : crcN k s < 2 ^ 32 := by
  induction k generalizing s with
  | zero => exact h
  | succ k ih => exact ih _ (crcStep_lt s h)
theorem crcByte_lt (s : Nat) (b : UInt8) (h : s < 2 ^ 32) : crcByte s b < 2 ^ 32 :=
  crcN_lt 8 _ (Nat.xor_lt_two_pow h (by have := b.toNat_lt; omega))
theorem crcAll_lt (s : Nat) (l : List UInt8) (h : s < 2 ^ 32) : crcAll s l < 2 ^ 32 := by
  induction l generalizing s with
  | nil => exact h
  | cons b r ih => exact ih _ (crcByte_lt s b h)
theorem crcAll_snoc (s : Nat) (l : List UInt8) (b : UInt8) : crcAll s (l ++ [b]) = crcByte (crcAll s l) b := by simp [crcAll]
theorem crcAll_app (s : Nat) (l m : List UInt8) : crcAll s (l ++ m) = crcAll (crcAll s l) m := by simp [crcAll]
theorem sumB_lt (l : List UInt8) : sumB l < 2 ^ 32 := by unfold sumB; omega

theorem xor_mod2 (a b : Nat) : (a ^^^ b) % 2 = (a + b) % 2 := by
  have h := Nat.testBit_xor a b 0
  simp only [Nat.testBit_zero] at h
  have ha := Nat.mod_two_eq_zero_or_one a
  have hb := Nat.mod_two_eq_zero_or_one b
  have hx := Nat.mod_two_eq_zero_or_one (a ^^^ b)
  rcases ha with ha | ha <;> rcases hb with hb | hb <;> rcases hx with hx | hx <;> simp [ha, hb, hx] at h <;> omega
theorem xor_div2 (a b : Nat) : (a ^^^ b) / 2 = a / 2 ^^^ b / 2 := by
  apply Nat.eq_of_testBit_eq
  intro i
  rw [Nat.testBit_xor, Nat.testBit_div_two, Nat.testBit_div_two, Nat.testBit_div_two, Nat.testBit_xor]
theorem crcStep_xor (a b : Nat) : crcStep (a ^^^ b) = crcStep a ^^^ crcStep b := by
  have h := xor_mod2 a b
  unfold crcStep
  rw [h, xor_div2]
  have ha := Nat.mod_two_eq_zero_or_one a
  have hb := Nat.mod_two_eq_zero_or_one b
  rcases ha with ha | ha <;> rcases hb with hb | hb
  · rw [if_neg (by omega), if_neg (by omega), if_neg (by omega)]
  · rw [if_pos (by omega), if_neg (by omega), if_pos (by omega), Nat.xor_assoc]
  · rw [if_pos (by omega), if_pos (by omega), if_neg (by omega), Nat.xor_assoc, Nat.xor_assoc, Nat.xor_comm (b / 2)]
  · rw [if_neg (by omega), if_pos (by omega), if_pos (by omega)]
    rw [Nat.xor_assoc (a / 2), Nat.xor_comm (b / 2) 3988292384, ← Nat.xor_assoc 3988292384, Nat.xor_self, Nat.zero_xor]
theorem crcN_xor (k a b : Nat) : crcN k (a ^^^ b) = crcN k a ^^^ crcN k b := by
  induction k generalizing a b with
  | zero => rfl
  | succ k ih => rw [crcN, crcN, crcN, crcStep_xor, ih]
/-- If no polynomial was laid over at the top, the step was a shift. -/
theorem crcStep_back (x : Nat) (hx : x < 2 ^ 32) (h : crcStep x < 2 ^ 31) : x = 2 * crcStep x := by
  unfold crcStep at *
  by_cases hp : x % 2 = 1
  · rw [if_pos hp] at h
    exfalso
    have h1 : (x / 2 ^^^ 3988292384).testBit 31 = true := by
      rw [Nat.testBit_xor, Nat.testBit_lt_two_pow (by omega)]
      decide
    have h2 := Nat.testBit_lt_two_pow h
    rw [h1] at h2
    cases h2
  · rw [if_neg hp]; omega
theorem crcN_back (k x : Nat) (hk : k ≤ 32) (hx : x < 2 ^ 32) (h : crcN k x < 2 ^ (32 - k)) : x = 2 ^ k * crcN k x := by
  induction k generalizing x with
  | zero => simp [crcN]
  | succ k ih =>
    rw [crcN] at h ⊢
    have e : 32 - k = (32 - (k + 1)) + 1 := by omega
    have h1 : crcN k (crcStep x) < 2 ^ (32 - k) := by
      rw [e, Nat.pow_succ]; omega
    have h2 := ih (crcStep x) (by omega) (crcStep_lt x hx) h1
    have h3 : crcStep x < 2 ^ 31 := by
      have h4 : 2 ^ k * crcN k (crcStep x) < 2 ^ k * 2 ^ (32 - (k + 1)) := Nat.mul_lt_mul_of_pos_left h (Nat.pow_pos (by omega))
      rw [← Nat.pow_add] at h4
      have e2 : k + (32 - (k + 1)) = 31 := by omega
      rw [e2] at h4
      omega
    have h5 := crcStep_back x hx h3
    rw [Nat.pow_succ, Nat.mul_comm (2 ^ k) 2, Nat.mul_assoc, ← h2]
    exact h5

theorem xor_zero_eq {a b : Nat} (h : a ^^^ b = 0) : a = b := by
  have : a ^^^ b ^^^ b = b := by rw [h, Nat.zero_xor]
  rwa [Nat.xor_assoc, Nat.xor_self, Nat.xor_zero] at this
theorem crcN_inj (k a b : Nat) (hk : k ≤ 32) (ha : a < 2 ^ 32) (hb : b < 2 ^ 32) (h : crcN k a = crcN k b) : a = b := by
  have hx : crcN k (a ^^^ b) = 0 := by rw [crcN_xor, h, Nat.xor_self]
  have := crcN_back k (a ^^^ b) hk (Nat.xor_lt_two_pow ha hb) (by rw [hx]; exact Nat.pow_pos (by omega))
  rw [hx, Nat.mul_zero] at this
  exact xor_zero_eq this
theorem crcByte_inj (a b : Nat) (c : UInt8) (ha : a < 2 ^ 32) (hb : b < 2 ^ 32) (h : crcByte a c = crcByte b c) : a = b := by
  have hc : c.toNat < 2 ^ 32 := by have := c.toNat_lt; omega
  have := crcN_inj 8 _ _ (by omega) (Nat.xor_lt_two_pow ha hc) (Nat.xor_lt_two_pow hb hc) h
  have h2 : a ^^^ c.toNat ^^^ c.toNat = b ^^^ c.toNat ^^^ c.toNat := by rw [this]
  rwa [Nat.xor_assoc, Nat.xor_assoc, Nat.xor_self, Nat.xor_zero, Nat.xor_zero] at h2
theorem crcAll_inj (l : List UInt8) (a b : Nat) (ha : a < 2 ^ 32) (hb : b < 2 ^ 32) (h : crcAll a l = crcAll b l) : a = b := by
  induction l generalizing a b with
  | nil => exact h
  | cons c r ih => exact crcByte_inj a b c ha hb (ih _ _ (crcByte_lt a c ha) (crcByte_lt b c hb) h)

/-- Bytes laid over bytes. -/
def xorB : List UInt8 → List UInt8 → List UInt8
  | a :: x, b :: y => (a ^^^ b) :: xorB x y
  | _, _ => []
theorem crcAll_xor (l m : List UInt8) (a b : Nat) (h : l.length = m.length) : crcAll (a ^^^ b) (xorB l m) = crcAll a l ^^^ crcAll b m := by
  induction l generalizing m a b with
  | nil => cases m with
    | nil => rfl
    | cons => simp at h
  | cons c r ih => cases m with
    | nil => simp at h
    | cons d t =>
      have e : crcByte (a ^^^ b) (c ^^^ d) = crcByte a c ^^^ crcByte b d := by
        unfold crcByte
        rw [← crcN_xor, UInt8.toNat_xor]
        congr 1
        rw [Nat.xor_assoc, Nat.xor_assoc, ← Nat.xor_assoc b, Nat.xor_comm b c.toNat, Nat.xor_assoc c.toNat]
      show crcAll (crcByte (a ^^^ b) (c ^^^ d)) (xorB r t) = _
      rw [e, ih t _ _ (by simpa using h)]; rfl
/-- The number in bytes, the least significant first. -/
def lendB : List UInt8 → Nat
  | [] => 0
  | b :: r => 256 * lendB r + b.toNat
theorem lendB_lt (l : List UInt8) : lendB l < 256 ^ l.length := by
  induction l with
  | nil => simp [lendB]
  | cons b r ih => have := b.toNat_lt; rw [lendB, List.length_cons, Nat.pow_succ]; omega
theorem crc_zero (d : List UInt8) (D : Nat) (hD : D < 2 ^ 32) (hd : d.length ≤ 4) (h : crcAll D d = 0) : D = lendB d := by
  induction d generalizing D with
  | nil => exact h
  | cons b r ih =>
    have hb := b.toNat_lt
    have h1 := ih (crcByte D b) (crcByte_lt D b hD) (by simp at hd; omega) h
    have h2 := lendB_lt r
    have h3 : 256 ^ r.length ≤ 256 ^ 3 := Nat.pow_le_pow_right (by omega) (by simp at hd; omega)
    have h4 : crcN 8 (D ^^^ b.toNat) < 2 ^ (32 - 8) := by
      show crcByte D b < 2 ^ 24
      rw [h1]; omega
    have h5 := crcN_back 8 _ (by omega) (Nat.xor_lt_two_pow hD (by omega)) h4
    have h6 : crcN 8 (D ^^^ b.toNat) = lendB r := h1
    rw [h6] at h5
    have h7 : D = (2 ^ 8 * lendB r) ^^^ b.toNat := by
      rw [← h5, Nat.xor_assoc, Nat.xor_self, Nat.xor_zero]
    have h8 : (2 ^ 8 * lendB r) ^^^ b.toNat = 2 ^ 8 * lendB r + b.toNat := by
      apply Nat.eq_of_testBit_eq
      intro i
      rw [Nat.testBit_xor, Nat.testBit_two_pow_mul_add _ (by omega), Nat.testBit_two_pow_mul]
      by_cases hi : i < 8
      · have : ¬ 8 ≤ i := by omega
        simp [hi, this]
      · have h9 : b.toNat.testBit i = false := Nat.testBit_lt_two_pow (Nat.lt_of_lt_of_le (show b.toNat < 2 ^ 8 by omega) (Nat.pow_le_pow_right (by omega) (by omega)))
        have : 8 ≤ i := by omega
        simp [hi, this, h9]
    rw [h7, h8, lendB]
theorem xorB_zero (l m : List UInt8) (h : l.length = m.length) (hz : lendB (xorB l m) = 0) : l = m := by
  induction l generalizing m with
  | nil => cases m with
    | nil => rfl
    | cons => simp at h
  | cons c r ih => cases m with
    | nil => simp at h
    | cons d t =>
      simp only [xorB, lendB] at hz
      have h1 : lendB (xorB r t) = 0 := by omega
      have h2 : (c ^^^ d).toNat = 0 := by omega
      rw [UInt8.toNat_xor] at h2
      have h3 : c = d := UInt8.toNat_inj.1 (xor_zero_eq h2)
      rw [h3, ih t (by simpa using h) h1]
theorem xorB_len (l m : List UInt8) (h : l.length = m.length) : (xorB l m).length = l.length := by
  induction l generalizing m with
  | nil => cases m <;> simp [xorB]
  | cons c r ih => cases m with
    | nil => simp at h
    | cons d t => simp [xorB]; exact ih t (by simpa using h)
/-- A body of which up to four bytes side by side were turned has another sum. -/
theorem sum_turned (p m m' q : List UInt8) (hl : m.length = m'.length) (h4 : m.length ≤ 4) (h : sumB (p ++ (m ++ q)) = sumB (p ++ (m' ++ q))) : m = m' := by
  have e0 : (4294967295 : Nat) < 2 ^ 32 := by omega
  have b1 := crcAll_lt 4294967295 (p ++ (m ++ q)) e0
  have b2 := crcAll_lt 4294967295 (p ++ (m' ++ q)) e0
  have h1 : crcAll 4294967295 (p ++ (m ++ q)) = crcAll 4294967295 (p ++ (m' ++ q)) := by unfold sumB at h; omega
  have hs := crcAll_lt 4294967295 p e0
  rw [crcAll_app, crcAll_app, crcAll_app, crcAll_app] at h1
  have h2 := crcAll_inj q _ _ (crcAll_lt _ m hs) (crcAll_lt _ m' hs) h1
  have h3 := crcAll_xor m m' (crcAll 4294967295 p) (crcAll 4294967295 p) hl
  rw [h2, Nat.xor_self, Nat.xor_self] at h3
  have h5 := crc_zero _ 0 (by omega) (by rw [xorB_len _ _ hl]; exact h4) h3
  exact xorB_zero m m' hl h5.symm
/-- To turn all bits is to take from the greatest. -/
theorem all_turned (s : Nat) (h : s < 2 ^ 32) : s ^^^ 4294967295 = 4294967295 - s := by
  have e : 4294967295 - s = 2 ^ 32 - (s + 1) := by omega
  rw [e]
  apply Nat.eq_of_testBit_eq
  intro i
  rw [Nat.testBit_xor, Nat.testBit_two_pow_sub_succ h]
  have h2 : (4294967295 : Nat).testBit i = decide (i < 32) := by
    rw [show (4294967295 : Nat) = 2 ^ 32 - 1 by omega, Nat.testBit_two_pow_sub_one]
  rw [h2]
  by_cases hi : i < 32
  · simp [hi]
  · have := Nat.testBit_lt_two_pow (Nat.lt_of_lt_of_le h (Nat.pow_le_pow_right (by omega) (show 32 ≤ i by omega)))
    simp [hi, this]
end Go.Proofs.YtcfmifongbapkaaGreatDoor
