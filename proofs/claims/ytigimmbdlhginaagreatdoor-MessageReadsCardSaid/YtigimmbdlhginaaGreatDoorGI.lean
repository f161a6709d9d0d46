/- Words for a transaction in memory, and equality of lists as a Bool. No condition. Plain mathematics of layer command: formed commands, their labels. Contracts of slices.Equal of reads and of writes. Conditions: the lists lie in memory, and are no longer than a million. Contracts of txn.Same, of the document's own, and of the statements' awake. Words for a command in memory; whether two are alike, and formed. Contracts of the document's Same and Few of transactions. Conditions: the lists lie in memory, and are no longer than a million (Same). Contracts of command.Same, Label, named, formedSource, of the document's Same, Label, Few, and of the statements' few. Conditions: the commands' lists lie in memory, and are no longer than a million (Same). Plain mathematics of keys that rise, and of formed transactions in memory. -/
import Derived.Test.YtigimmbdlhginaaGreatDoorGC
import Derived.Test.YtigimmbdlhginaaGreatDoorGB
import Derived.Test.YtigimmbdlhginaaGreatDoorGF
import Derived.Laws.StructEq
import Derived.WalkLawsBesides
namespace Go.Proofs.YtigimmbdlhginaaGreatDoor
set_option maxRecDepth 100000
set_option maxHeartbeats 2000000
open Go.RowKit
open Go.Lib (hid)
/-- Equality as a Bool. -/
noncomputable def eqB {α : Type} (x y : α) : Bool:=@decide (x = y) (Classical.propDecidable _)
section
variable {α : Type} {x y : α} {l l' : List α} {k : Nat}
theorem eqB_yes (h : x = y) : eqB x y = true:=@decide_eq_true _ (Classical.propDecidable _) h
theorem eqB_no (h : ¬ x = y) : eqB x y = false:=@decide_eq_false _ (Classical.propDecidable _) h
theorem eqB_self (x : α) : eqB x x = true:=eqB_yes rfl
theorem eqB_of (h : eqB x y = true) : x = y:=@of_decide_eq_true _ (Classical.propDecidable _) h
theorem eq_step (h : l.take k = l'.take k) (h1 : k < l.length) (h2 : k < l'.length) (he : l[k] = l'[k]) : l.take (k + 1) = l'.take (k + 1):=by
 rw [List.take_succ_eq_append_getElem h1,List.take_succ_eq_append_getElem h2,h,he]
theorem eq_bad (h1 : k < l.length) (h2 : k < l'.length) (he : ¬ l[k] = l'[k]) : eqB l l' = false:=eqB_no fun e=>he (by subst e;rfl)
theorem eq_done (h : l.take k = l'.take k) (h1 : l.length≤k) (h2 : l'.length≤k) : eqB l l' = true:=by
 rw [List.take_of_length_le h1,List.take_of_length_le h2] at h
 exact eqB_yes h
theorem eq_len (h : ¬ l.length = l'.length) : eqB l l' = false:=eqB_no fun e=>h (by rw [e])
end
/-- What a write in memory holds; the lists of a transaction in memory, as lists of bytes. -/
def valM (x : WrM) : Val:=⟨x.k,x.b,x.t.data.toList⟩
def txR (l : List RdM) : List (List UInt8×Nat):=l.map fun x=>(x.1.data.toList,x.2)
def txW (l : List WrM) : List (List UInt8×Val):=l.map fun x=>(x.key.data.toList,valM x)
def txT (i : IdN) (rs : List RdM) (ws : List WrM) : Tx Val:=⟨i,txR rs,txW ws⟩
def keysM (rs : List RdM) : List ByteArray:=rs.map (·.1)
def keysV (ws : List WrM) : List ByteArray:=ws.map (·.key)
theorem keysM_txt (i : IdN) (rs : List RdM) (ws : List WrM) : keysR (txT i rs ws) = txt (keysM rs):=by simp [keysR,txT,txR,txt,keysM]
theorem keysV_txt (i : IdN) (rs : List RdM) (ws : List WrM) : keysW (txT i rs ws) = txt (keysV ws):=by simp [keysW,txT,txW,txt,keysV]
/-- What is in the lists is of a size that is. -/
def RdOk (x : RdM) : Prop:=x.1.size≤maxLen∧x.2 < 18446744073709551616
def WrOk (x : WrM) : Prop:=x.key.size≤maxLen∧x.b < 18446744073709551616∧x.t.size≤maxLen
/-- A transaction's lists lie in memory. -/
def TxAt (w : World) (a : Option Addr) (n : Nat) (b : Option Addr) (m : Nat) (rs : List RdM) (ws : List WrM) : Prop :=
 (RdsAt w w.heap.size a n rs∧WrsAt w w.heap.size b m ws)∧(∀ x ∈ rs,RdOk x)∧∀ x ∈ ws,WrOk x
section
variable {w w' : World} {a b : Option Addr} {n m : Nat} {rs : List RdM} {ws : List WrM}
theorem TxAt.later (h : TxAt w a n b m rs ws) (hb : Below w.heap.size w w') : TxAt w' a n b m rs ws:=⟨⟨h.1.1.later hb,h.1.2.later hb⟩,h.2⟩
theorem TxAt.lenR (h : TxAt w a n b m rs ws) : rs.length = n:=h.1.1.1
theorem TxAt.lenW (h : TxAt w a n b m rs ws) : ws.length = m:=h.1.2.1
theorem TxAt.rds (h : TxAt w a n b m rs ws) : RdsAt w w.heap.size a n rs:=h.1.1
theorem TxAt.wrs (h : TxAt w a n b m rs ws) : WrsAt w w.heap.size b m ws:=h.1.2
theorem TxAt.okR (h : TxAt w a n b m rs ws) : ∀ x ∈ rs,RdOk x:=h.2.1
theorem TxAt.okW (h : TxAt w a n b m rs ws) : ∀ x ∈ ws,WrOk x:=h.2.2
theorem TxAt.nil : TxAt w none 0 none 0 [] []:=⟨⟨RdsAt.nil,WrsAt.nil⟩,(fun _ h=>by cases h),(fun _ h=>by cases h)⟩
end
/-- A transaction by value. -/
abbrev txV (s q : Int) (a : Option Addr) (n c : Nat) (b : Option Addr) (m d : Nat) : Array Value:=#[.int .i64 s,.int .i64 q,.slice a n c,.slice b m d]
theorem BoxC.four {w : World} {g : Nat} {x y z u : Value} {t : TypeId} (h : BoxC w g #[x,y,z,u] t) : w.cell? ⟨g,0,none⟩ = some x∧w.cell? ⟨g,1,none⟩ = some y∧w.cell? ⟨g,2,none⟩ = some z∧w.cell? ⟨g,3,none⟩ = some u:=⟨h.cell 0 x rfl,h.cell 1 y rfl,h.cell 2 z rfl,h.cell 3 u rfl⟩
set_option linter.unusedVariables false
/-- A command: its kind, transaction, id, group, stamp, and whether it is a yes. -/
structure Cm where
 k : Int
 t : Tx Val
 id : IdN
 g : Int
 st : Nat
 y : Bool
def zeroT : Tx Val:=⟨(0,0),[],[]⟩
def zeroC : Cm:=⟨0,zeroT,(0,0),0,0,false⟩
def zeroTB (t : Tx Val) : Bool:=decide (t.id = (0,0)) && (decide (t.rs.length = 0) && decide (t.ws.length = 0))
theorem zeroTB_iff (t : Tx Val) : zeroTB t = true↔t = zeroT:=by
 unfold zeroTB zeroT
 constructor
 ·intro h
  rw [Bool.and_eq_true,Bool.and_eq_true] at h
  obtain ⟨i,rs,ws⟩:=t
  have h1:=of_decide_eq_true h.1
  have h2:=List.eq_nil_of_length_eq_zero (of_decide_eq_true h.2.1)
  have h3:=List.eq_nil_of_length_eq_zero (of_decide_eq_true h.2.2)
  simp only at h1 h2 h3
  rw [h1,h2,h3]
 ·rintro rfl;rfl
/-- What it is about is an id and a group. -/
def aboutB (c : Cm) : Bool:=zeroTB c.t && (idB c.id && (decide (0≤c.g) && decide (c.g < 4)))
def restB (c : Cm) : Bool:=(decide (c.id = (0,0)) && decide (c.g = 0)) && (decide (c.st = 0) && !c.y)
def formCm (c : Cm) : Bool :=
 if c.k = 0 then zeroTB c.t && restB c
 else if c.k = 1 then formT formedB c.t && restB c
 else if c.k = 2 then aboutB c && (!c.y && (decide (0 < c.st) && decide (c.st≤9223372036854775807)))
 else if c.k = 3 then aboutB c && decide (c.st = 0)
 else false
def labelCm (c : Cm) : IdN:=if c.k = 1 then c.t.id else if c.k = 2∨c.k = 3 then c.id else (0,0)
/-- What is in it is of a size that is. -/
def CmOk (c : Cm) : Prop:=(∀ x ∈ c.t.rs,x.2 < 18446744073709551616)∧(∀ x ∈ c.t.ws,x.2.b < 18446744073709551616)∧c.st < 18446744073709551616
theorem rest_eq {c : Cm} (h : restB c = true) : c.id = (0,0)∧c.g = 0∧c.st = 0∧c.y = false:=by
 unfold restB at h
 rw [Bool.and_eq_true,Bool.and_eq_true,Bool.and_eq_true] at h
 exact ⟨of_decide_eq_true h.1.1,of_decide_eq_true h.1.2,of_decide_eq_true h.2.1,by simpa using h.2.2⟩
theorem about_eq {c : Cm} (h : aboutB c = true) : c.t = zeroT∧idB c.id = true∧0≤c.g∧c.g < 4:=by
 unfold aboutB at h
 rw [Bool.and_eq_true,Bool.and_eq_true,Bool.and_eq_true] at h
 exact ⟨(zeroTB_iff _).1 h.1,h.2.1,of_decide_eq_true h.2.2.1,of_decide_eq_true h.2.2.2⟩
/-- The four kinds of formed commands. -/
theorem form_kinds {c : Cm} (h : formCm c = true) : c = zeroC∨(formT formedB c.t = true∧c = ⟨1,c.t,(0,0),0,0,false⟩)∨((idB c.id = true∧0≤c.g∧c.g < 4∧0 < c.st∧c.st≤9223372036854775807)∧c = ⟨2,zeroT,c.id,c.g,c.st,false⟩)∨((idB c.id = true∧0≤c.g∧c.g < 4)∧c = ⟨3,zeroT,c.id,c.g,0,c.y⟩):=by
 obtain ⟨k,t,i,g,s,y⟩:=c
 unfold formCm at h
 simp only at h
 split at h
 ·rename_i hk
  rw [Bool.and_eq_true] at h
  obtain ⟨h1,h2,h3,h4⟩:=rest_eq h.2
  simp only at h1 h2 h3 h4
  exact .inl (by rw [hk,(zeroTB_iff _).1 h.1,h1,h2,h3,h4];rfl)
 ·split at h
  ·rename_i hk
   rw [Bool.and_eq_true] at h
   obtain ⟨h1,h2,h3,h4⟩:=rest_eq h.2
   simp only at h1 h2 h3 h4
   exact .inr (.inl ⟨h.1,by rw [hk,h1,h2,h3,h4]⟩)
  ·split at h
   ·rename_i hk
    rw [Bool.and_eq_true,Bool.and_eq_true,Bool.and_eq_true] at h
    obtain ⟨h1,h2,h3,h4⟩:=about_eq h.1
    simp only at h1 h2 h3 h4
    have h5 : y = false:=by simpa using h.2.1
    exact .inr (.inr (.inl ⟨⟨h2,h3,h4,of_decide_eq_true h.2.2.1,of_decide_eq_true h.2.2.2⟩,by rw [hk,h1,h5]⟩))
   ·split at h
    ·rename_i hk
     rw [Bool.and_eq_true] at h
     obtain ⟨h1,h2,h3,h4⟩:=about_eq h.1
     simp only at h1 h2 h3 h4
     have h5 : s = 0:=of_decide_eq_true h.2
     exact .inr (.inr (.inr ⟨⟨h2,h3,h4⟩,by rw [hk,h1,h5]⟩))
    ·cases h
theorem bytes_ne {x y : ByteArray} (h : ¬ x = y) : (x.toList == y.toList) = false:=by
 rw [beq_eq_false_iff_ne]
 intro e
 rw [ByteArray.toList_eq,ByteArray.toList_eq] at e
 obtain ⟨⟨x⟩⟩:=x
 obtain ⟨⟨y⟩⟩:=y
 exact h (by rw [show x = y from e])
theorem rd_cases (x y : RdM) : x = y∨(¬ x = y∧(x.1.toList == y.1.toList) = false)∨(¬ x = y∧(x.1.toList == y.1.toList) = true∧((x.2 : Int) == (y.2 : Int)) = false):=by
 obtain ⟨x1,x2⟩:=x
 obtain ⟨y1,y2⟩:=y
 by_cases h1 : x1 = y1
 ·subst h1
  by_cases h2 : x2 = y2
  ·subst h2;exact .inl rfl
  ·exact .inr (.inr ⟨fun e=>h2 (by injection e),by simp,by simp;omega⟩)
 ·refine .inr (.inl ⟨fun e=>h1 (by injection e),?_⟩)
  exact bytes_ne h1
theorem wr_cases (x y : WrM) : x = y∨(¬ x = y∧(x.key.toList == y.key.toList) = false)∨(¬ x = y∧(x.key.toList == y.key.toList) = true∧(x.k == y.k) = false)∨(¬ x = y∧(x.key.toList == y.key.toList) = true∧(x.k == y.k) = true∧((x.b : Int) == (y.b : Int)) = false)∨(¬ x = y∧(x.key.toList == y.key.toList) = true∧(x.k == y.k) = true∧((x.b : Int) == (y.b : Int)) = true∧(x.t.toList == y.t.toList) = false):=by
 obtain ⟨x1,x2,x3,x4⟩:=x
 obtain ⟨y1,y2,y3,y4⟩:=y
 by_cases h1 : x1 = y1
 ·subst h1
  by_cases h2 : x2 = y2
  ·subst h2
   by_cases h3 : x3 = y3
   ·subst h3
    by_cases h4 : x4 = y4
    ·subst h4;exact .inl rfl
    ·refine .inr (.inr (.inr (.inr ⟨fun e=>h4 (by injection e),by simp,by simp,by simp,?_⟩)))
     exact bytes_ne h4
   ·exact .inr (.inr (.inr (.inl ⟨fun e=>h3 (by injection e),by simp,by simp,by simp;omega⟩)))
  ·exact .inr (.inr (.inl ⟨fun e=>h2 (by injection e),by simp,by simpa using h2⟩))
 ·refine .inr (.inl ⟨fun e=>h1 (by injection e),?_⟩)
  exact bytes_ne h1
theorem eqR_any (a a' : Option Addr) (n n' c c' B B' : Nat) (l l' : List RdM) (w : World) (h : RdsAt w B a n l) (h' : RdsAt w B' a' n' l') (hn : n≤1000000) :
  Calls Tryz.prog 103 #[.slice a n c,.slice a' n' c'] w (Says w (eqB l l')):=by
 have hl:=h.1
 have hl':=h'.1
 by_cases hnn : n = n'
 ·subst hnn
  have HA:=hid h
  have HB:=hid h'
  clear h h'
  go_enter Tryz.func103,Tryz.ntmps103
  go_wp2
  go_loopw [13] (fun i wr => ∃ k q : Nat,k≤n∧i = .int .i64 k∧wr = w.drewN q∧l.take k = l'.take k) (fun i _=>n - (intOf i).toNat)
  case atStart=>exact ⟨0,0,Nat.zero_le _,rfl,rfl,rfl⟩
  case round =>
   obtain ⟨k,q,hk,rfl,rfl,ht⟩:=hrel
   by_cases hlt : k < n
   ·have hk1 : k < l.length:=by omega
    have hk2 : k < l'.length:=by omega
    have HG : l[k] = l'[k]→Hid (l.take (k + 1) = l'.take (k + 1)):=fun e=>eq_step ht hk1 hk2 e
    have HN : ¬ l[k] = l'[k]→Hid (eqB l l' = false):=fun e=>eq_bad hk1 hk2 e
    obtain ⟨b,off,rfl,_,x0,x1⟩:=HA.out.at_ (i:=k) (by omega)
    obtain ⟨b',off',rfl,_,y0,y1⟩:=HB.out.at_ (i:=k) (by omega)
    clear ht
    generalize l[k] = x at *
    generalize l'[k] = y at *
    have i1 : (k : Int) < (n : Int):=by omega
    rcases rd_cases x y with rfl | ⟨hne,q1⟩ | ⟨hne,q1,q2⟩
    ·have Q:=HG rfl
     clear HG HN
     go_upto_region 6 with (fail)
     go_quiet (fail)
     go_wp2
     go_roundw
     case rel=>exact ⟨k + 1,_,by omega,by go_num,rfl,Q.out⟩
     case measure=>simp [intOf];omega
    ·have Q:=HN hne
     clear HG HN
     go_upto_region 6 with (fail)
     go_quiet (fail)
     go_wp2
     go_ret
     exact ⟨by rw [Q.out];rfl,below_drewN _ (below_drewN _ (Below.refl _ _))⟩
    ·have Q:=HN hne
     clear HG HN
     go_upto_region 6 with (fail)
     go_quiet (fail)
     go_wp2
     go_ret
     exact ⟨by rw [Q.out];rfl,below_drewN _ (below_drewN _ (Below.refl _ _))⟩
   ·have Q:=hid (eq_done ht (by omega) (by omega))
    clear ht
    go_wp2
    go_ret
    exact ⟨by rw [Q.out];rfl,below_drewN _ (Below.refl _ _)⟩
 ·have Q:=hid (eq_len (l:=l) (l':=l') (by omega))
  have q1 : ((n : Int) != (n' : Int)) = true:=by simp;omega
  clear h h'
  go_enter Tryz.func103,Tryz.ntmps103
  go_wp2
  go_ret
  exact ⟨by rw [Q.out];rfl,Below.refl _ _⟩
theorem eqW_any (a a' : Option Addr) (n n' c c' B B' : Nat) (l l' : List WrM) (w : World) (h : WrsAt w B a n l) (h' : WrsAt w B' a' n' l') (hn : n≤1000000) :
  Calls Tryz.prog 104 #[.slice a n c,.slice a' n' c'] w (Says w (eqB l l')):=by
 have hl:=h.1
 have hl':=h'.1
 by_cases hnn : n = n'
 ·subst hnn
  have HA:=hid h
  have HB:=hid h'
  clear h h'
  go_enter Tryz.func104,Tryz.ntmps104
  go_wp2
  go_loopw [13] (fun i wr => ∃ k q : Nat,k≤n∧i = .int .i64 k∧wr = w.drewN q∧l.take k = l'.take k) (fun i _=>n - (intOf i).toNat)
  case atStart=>exact ⟨0,0,Nat.zero_le _,rfl,rfl,rfl⟩
  case round =>
   obtain ⟨k,q,hk,rfl,rfl,ht⟩:=hrel
   by_cases hlt : k < n
   ·have hk1 : k < l.length:=by omega
    have hk2 : k < l'.length:=by omega
    have HG : l[k] = l'[k]→Hid (l.take (k + 1) = l'.take (k + 1)):=fun e=>eq_step ht hk1 hk2 e
    have HN : ¬ l[k] = l'[k]→Hid (eqB l l' = false):=fun e=>eq_bad hk1 hk2 e
    obtain ⟨b,off,rfl,_,x0,x1,x2,x3⟩:=HA.out.at_ (i:=k) (by omega)
    obtain ⟨b',off',rfl,_,y0,y1,y2,y3⟩:=HB.out.at_ (i:=k) (by omega)
    clear ht
    generalize l[k] = x at *
    generalize l'[k] = y at *
    have i1 : (k : Int) < (n : Int):=by omega
    rcases wr_cases x y with rfl | ⟨hne,q1⟩ | ⟨hne,q1,q2⟩ | ⟨hne,q1,q2,q3⟩ | ⟨hne,q1,q2,q3,q4⟩
    ·have Q:=HG rfl
     clear HG HN
     go_upto_region 6 with (fail)
     go_quiet (fail)
     go_wp2
     go_roundw
     case rel=>exact ⟨k + 1,_,by omega,by go_num,rfl,Q.out⟩
     case measure=>simp [intOf];omega
    ·have Q:=HN hne
     clear HG HN
     go_upto_region 6 with (fail)
     go_quiet (fail)
     go_wp2
     go_ret
     exact ⟨by rw [Q.out];rfl,below_drewN _ (below_drewN _ (Below.refl _ _))⟩
    ·have Q:=HN hne
     clear HG HN
     go_upto_region 6 with (fail)
     go_quiet (fail)
     go_wp2
     go_ret
     exact ⟨by rw [Q.out];rfl,below_drewN _ (below_drewN _ (Below.refl _ _))⟩
    ·have Q:=HN hne
     clear HG HN
     go_upto_region 6 with (fail)
     go_quiet (fail)
     go_wp2
     go_ret
     exact ⟨by rw [Q.out];rfl,below_drewN _ (below_drewN _ (Below.refl _ _))⟩
    ·have Q:=HN hne
     clear HG HN
     go_upto_region 6 with (fail)
     go_quiet (fail)
     go_wp2
     go_ret
     exact ⟨by rw [Q.out];rfl,below_drewN _ (below_drewN _ (Below.refl _ _))⟩
   ·have Q:=hid (eq_done ht (by omega) (by omega))
    clear ht
    go_wp2
    go_ret
    exact ⟨by rw [Q.out];rfl,below_drewN _ (Below.refl _ _)⟩
 ·have Q:=hid (eq_len (l:=l) (l':=l') (by omega))
  have q1 : ((n : Int) != (n' : Int)) = true:=by simp;omega
  clear h h'
  go_enter Tryz.func104,Tryz.ntmps104
  go_wp2
  go_ret
  exact ⟨by rw [Q.out];rfl,Below.refl _ _⟩
/-- Whether two transactions in memory are alike. -/
noncomputable def sameM (x y : IdN) (rs rs' : List RdM) (ws ws' : List WrM) : Bool:=eqB x y && (eqB rs rs' && eqB ws ws')
theorem sameM_self (x : IdN) (rs : List RdM) (ws : List WrM) : sameM x x rs rs ws ws = true:=by unfold sameM;rw [eqB_self,eqB_self,eqB_self];rfl
theorem id_cases (s q s' q' : Int) : (eqB (s,q) (s',q') = true∧(s == s') = true∧(q == q') = true)∨(eqB (s,q) (s',q') = false∧(s == s') = false)∨(eqB (s,q) (s',q') = false∧(s == s') = true∧(q == q') = false):=by
 by_cases h1 : s = s'
 ·by_cases h2 : q = q'
  ·exact .inl ⟨eqB_yes (by rw [h1,h2]),by simpa using h1,by simpa using h2⟩
  ·exact .inr (.inr ⟨eqB_no (fun e=>h2 (by injection e)),by simpa using h1,by simpa using h2⟩)
 ·exact .inr (.inl ⟨eqB_no (fun e=>h1 (by injection e)),by simpa using h1⟩)
theorem tSame_any (s q : Int) (a : Option Addr) (n c : Nat) (b : Option Addr) (m d : Nat) (rs : List RdM) (ws : List WrM) (s' q' : Int) (a' : Option Addr) (n' c' : Nat) (b' : Option Addr) (m' d' : Nat) (rs' : List RdM) (ws' : List WrM) (w : World)
  (h : TxAt w a n b m rs ws) (h' : TxAt w a' n' b' m' rs' ws') (hn : n≤1000000) (hm : m≤1000000) :
  Calls Tryz.prog 96 #[.agg (txV s q a n c b m d),.agg (txV s' q' a' n' c' b' m' d')] w (Says w (sameM (s,q) (s',q') rs rs' ws ws')):=by
 have H0:=hid (((Boxs.start w).more (txV s q a n c b m d) 32).more (txV s' q' a' n' c' b' m' d') 32)
 have hs : (w.alloc (.cells (txV s q a n c b m d) 32)).heap.size = w.heap.size + 1:=by simp
 rw [hs] at H0
 have c1:=eqR_any a a' n n' c c' _ _ rs rs' _ (h.later H0.out.bel).rds (h'.later H0.out.bel).rds hn
 have HT:=hid h
 have HT':=hid h'
 have c2:=fun W (hW : Below w.heap.size w W)=>eqW_any b b' m m' d d' _ _ ws ws' W (HT.out.later hW).wrs (HT'.out.later hW).wrs hm
 obtain ⟨x0,x1,x2,x3⟩:=(H0.g 1 rfl).four
 obtain ⟨y0,y1,y2,y3⟩:=(H0.g 0 rfl).four
 clear h h'
 unfold sameM
 rcases id_cases s q s' q' with ⟨e,q1,q2⟩ | ⟨e,q1⟩ | ⟨e,q1,q2⟩
 ·rw [e]
  cases hR : eqB rs rs'
  ·rw [hR] at c1
   clear hR c2
   go_enter Tryz.func96,Tryz.ntmps96
   go_wp2_with (go_at_call 103;((with_reducible refine c1.mono ?_);rintro e w1 ⟨rfl,hb1⟩;have H1:=hid (H0.out.below hb1)))
   go_ret
   exact ⟨rfl,H1.out.bel⟩
  ·rw [hR] at c1
   clear hR
   go_enter Tryz.func96,Tryz.ntmps96
   go_wp2_with (first | (go_at_call 103;((with_reducible refine c1.mono ?_);rintro e w1 ⟨rfl,hb1⟩;have H1:=hid (H0.out.below hb1);(clear x0 x1 x2 x3 y0 y1 y2 y3);obtain ⟨x0,x1,x2,x3⟩:=(H1.g 1 rfl).four;obtain ⟨y0,y1,y2,y3⟩:=(H1.g 0 rfl).four)) | (go_at_call 104;((with_reducible refine (c2 _ H1.out.bel).mono ?_);rintro e w2 ⟨rfl,hb2⟩;have H2:=hid (H1.out.below hb2))))
   go_ret
   exact ⟨rfl,H2.out.bel⟩
 ·rw [e]
  clear c1 c2
  go_enter Tryz.func96,Tryz.ntmps96
  go_wp2
  go_ret
  exact ⟨rfl,H0.out.bel⟩
 ·rw [e]
  clear c1 c2
  go_enter Tryz.func96,Tryz.ntmps96
  go_wp2
  go_ret
  exact ⟨rfl,H0.out.bel⟩
theorem BoxC.ten {w : World} {g : Nat} {c0 c1 c2 c3 c4 c5 c6 c7 c8 c9 : Value} {t : TypeId} (h : BoxC w g #[c0,c1,c2,c3,c4,c5,c6,c7,c8,c9] t) : w.cell? ⟨g,0,none⟩ = some c0∧w.cell? ⟨g,1,none⟩ = some c1∧w.cell? ⟨g,2,none⟩ = some c2∧w.cell? ⟨g,3,none⟩ = some c3∧w.cell? ⟨g,4,none⟩ = some c4∧w.cell? ⟨g,5,none⟩ = some c5∧w.cell? ⟨g,6,none⟩ = some c6∧w.cell? ⟨g,7,none⟩ = some c7∧w.cell? ⟨g,8,none⟩ = some c8∧w.cell? ⟨g,9,none⟩ = some c9 :=
 ⟨h.cell 0 c0 rfl,h.cell 1 c1 rfl,h.cell 2 c2 rfl,h.cell 3 c3 rfl,h.cell 4 c4 rfl,h.cell 5 c5 rfl,h.cell 6 c6 rfl,h.cell 7 c7 rfl,h.cell 8 c8 rfl,h.cell 9 c9 rfl⟩
/-- A command by value: its kind, its transaction (id, reads, writes), its id, group, stamp, and whether it is a yes. -/
structure CmM where
 k : Int
 s : Int
 q : Int
 a : Option Addr
 n : Nat
 c : Nat
 b : Option Addr
 m : Nat
 d : Nat
 i : Int
 j : Int
 g : Int
 st : Nat
 y : Bool
abbrev cmV (x : CmM) : Array Value:=#[.int .i64 x.k,.int .i64 x.s,.int .i64 x.q,.slice x.a x.n x.c,.slice x.b x.m x.d,.int .i64 x.i,.int .i64 x.j,.int .i64 x.g,.int .u64 ((x.st : Nat) : Int),.bool x.y]
abbrev zeroM : CmM:=⟨0,0,0,none,0,0,none,0,0,0,0,0,0,false⟩
abbrev zeroV : Array Value:=#[.int .i64 0,.int .i64 0,.int .i64 0,.slice none 0 0,.slice none 0 0,.int .i64 0,.int .i64 0,.int .i64 0,.int .u64 0,.bool false]
abbrev idA (x : IdN) : Value:=.agg #[.int .i64 x.1,.int .i64 x.2]
/-- Its transaction's lists lie in memory, and its stamp is one of 64 bits. -/
def CmAt (w : World) (x : CmM) (rs : List RdM) (ws : List WrM) : Prop:=TxAt w x.a x.n x.b x.m rs ws∧x.st < 18446744073709551616
section
variable {w w' : World} {x : CmM} {rs : List RdM} {ws : List WrM}
theorem CmAt.tx (h : CmAt w x rs ws) : TxAt w x.a x.n x.b x.m rs ws:=h.1
theorem CmAt.st (h : CmAt w x rs ws) : x.st < 18446744073709551616:=h.2
theorem CmAt.later (h : CmAt w x rs ws) (hb : Below w.heap.size w w') : CmAt w' x rs ws:=⟨h.1.later hb,h.2⟩
theorem CmAt.zero : CmAt w zeroM [] []:=⟨TxAt.nil,by show 0 < 18446744073709551616;decide⟩
end
def cmT (x : CmM) (rs : List RdM) (ws : List WrM) : Cm:=⟨x.k,txT (x.s,x.q) rs ws,(x.i,x.j),x.g,x.st,x.y⟩
/-- Whether two commands in memory are alike. -/
noncomputable def sameC (x y : CmM) (rs rs' : List RdM) (ws ws' : List WrM) : Bool :=
 (x.k == y.k) && (sameM (x.s,x.q) (y.s,y.q) rs rs' ws ws' && (eqB (x.i,x.j) (y.i,y.j) && ((x.g == y.g) && ((((x.st : Nat) : Int) == ((y.st : Nat) : Int)) && (x.y == y.y)))))
theorem sameC_doc (x y : CmM) (rs rs' : List RdM) (ws ws' : List WrM) : sameC x y rs rs' ws ws' = ((x.k == y.k) && (eqB (x.i,x.j) (y.i,y.j) && ((x.g == y.g) && ((((x.st : Nat) : Int) == ((y.st : Nat) : Int)) && ((x.y == y.y) && sameM (x.s,x.q) (y.s,y.q) rs rs' ws ws'))))):=by
 unfold sameC
 generalize sameM (x.s,x.q) (y.s,y.q) rs rs' ws ws' = B
 generalize eqB (x.i,x.j) (y.i,y.j) = B1
 generalize (x.k == y.k) = B2
 generalize (x.g == y.g) = B3
 generalize (((x.st : Nat) : Int) == ((y.st : Nat) : Int)) = B4
 generalize (x.y == y.y) = B5
 cases B <;> cases B1 <;> cases B2 <;> cases B3 <;> cases B4 <;> cases B5 <;> rfl
theorem sameM_of {i i' : IdN} {rs rs' : List RdM} {ws ws' : List WrM} (h : sameM i i' rs rs' ws ws' = true) : i = i'∧rs = rs'∧ws = ws':=by
 unfold sameM at h
 rw [Bool.and_eq_true,Bool.and_eq_true] at h
 exact ⟨eqB_of h.1,eqB_of h.2.1,eqB_of h.2.2⟩
/-- Alike in memory just if they are the same commands. -/
theorem txT_eq {i i' : IdN} {rs rs' : List RdM} {ws ws' : List WrM} (h : txT i rs ws = txT i' rs' ws') : i = i'∧rs = rs'∧ws = ws':=by
 unfold txT at h
 injection h with h1 h2 h3
 refine ⟨h1,?_,?_⟩
 ·refine List.map_inj_right (f:=fun x : RdM=>(x.1.data.toList,x.2)) (fun x y e=>?_) |>.1 h2
  injection e with e1 e2
  exact Prod.ext (ByteArray.ext (Array.toList_inj.1 e1)) e2
 ·refine List.map_inj_right (f:=fun x : WrM=>(x.key.data.toList,valM x)) (fun x y e=>?_) |>.1 h3
  injection e with e1 e2
  unfold valM at e2
  injection e2 with e3 e4 e5
  obtain ⟨xk,xa,xb,xt⟩:=x
  obtain ⟨yk,ya,yb,yt⟩:=y
  simp only at e1 e3 e4 e5
  have h1 : xk = yk:=ByteArray.ext (Array.toList_inj.1 e1)
  have h2 : xt = yt:=ByteArray.ext (Array.toList_inj.1 e5)
  rw [h1,h2,e3,e4]
theorem sameC_iff (x y : CmM) (rs rs' : List RdM) (ws ws' : List WrM) : sameC x y rs rs' ws ws' = true↔cmT x rs ws = cmT y rs' ws':=by
 constructor
 ·intro h
  unfold sameC at h
  simp only [Bool.and_eq_true,beq_iff_eq] at h
  obtain ⟨h1,h2,h3,h4,h5,h6⟩:=h
  obtain ⟨i1,i2,i3⟩:=sameM_of h2
  have i4:=eqB_of h3
  have i5 : x.st = y.st:=by omega
  unfold cmT
  rw [h1,i1,i2,i3,i4,h4,i5,h6]
 ·intro h
  unfold cmT at h
  injection h with h1 h2 h3 h4 h5 h6
  obtain ⟨i1,i2,i3⟩:=txT_eq h2
  unfold sameC sameM
  rw [eqB_yes i1,eqB_yes i2,eqB_yes i3,eqB_yes h3,h1,h4,h5,h6];simp
theorem eqB_dec {α : Type} [DecidableEq α] (x y : α) : eqB x y = decide (x = y):=by
 by_cases h : x = y
 ·rw [eqB_yes h,decide_eq_true h]
 ·rw [eqB_no h,decide_eq_false h]
theorem eqB_nil {α : Type} (l : List α) : eqB l [] = decide (l.length = 0):=by
 cases l with
 | nil=>rw [eqB_self];rfl
 | cons a r=>rw [eqB_no (by simp)];simp
theorem sameM_zero (i : IdN) (rs : List RdM) (ws : List WrM) : sameM i (0,0) rs [] ws [] = zeroTB (txT i rs ws):=by
 unfold sameM zeroTB txT txR txW
 rw [eqB_dec,eqB_nil,eqB_nil];simp
/-- What a command's kind names of it. -/
def namedM (x : CmM) : CmM :=
 if x.k = 1 then ⟨1,x.s,x.q,x.a,x.n,x.c,x.b,x.m,x.d,0,0,0,0,false⟩
 else if x.k = 2 then ⟨2,0,0,none,0,0,none,0,0,x.i,x.j,x.g,x.st,false⟩
 else if x.k = 3 then ⟨3,0,0,none,0,0,none,0,0,x.i,x.j,x.g,0,x.y⟩
 else zeroM
def namedL {α : Type} (x : CmM) (l : List α) : List α:=if x.k = 1 then l else []
theorem named_at {w : World} {x : CmM} {rs : List RdM} {ws : List WrM} (h : CmAt w x rs ws) : CmAt w (namedM x) (namedL x rs) (namedL x ws):=by
 unfold namedM namedL
 split
 ·exact ⟨h.1,by show 0 < 18446744073709551616;decide⟩
 ·split
  ·exact ⟨TxAt.nil,h.2⟩
  ·split
   ·exact ⟨TxAt.nil,by show 0 < 18446744073709551616;decide⟩
   ·exact CmAt.zero
/-- A command and what its kind names of it are alike. -/
noncomputable def cleanB (x : CmM) (rs : List RdM) (ws : List WrM) : Bool:=sameC x (namedM x) rs (namedL x rs) ws (namedL x ws)
def srcB (x : CmM) : Bool:=idB (x.i,x.j) && (decide (0≤x.g) && decide (x.g < 4))
def labelM (x : CmM) : IdN:=if x.k = 1 then (x.s,x.q) else if x.k = 2∨x.k = 3 then (x.i,x.j) else (0,0)
section
variable {x : CmM} {rs : List RdM} {ws : List WrM}
theorem form_clean (h : cleanB x rs ws = false) : formCm (cmT x rs ws) = false:=by
 unfold cleanB namedM namedL at h
 unfold formCm cmT aboutB restB
 by_cases h0 : x.k = 0
 ·rw [if_neg (by omega),if_neg (by omega),if_neg (by omega),if_neg (by omega),if_neg (by omega)] at h
  unfold sameC at h
  rw [sameM_zero,eqB_dec] at h
  simp only [h0,if_true]
  generalize zeroTB (txT (x.s,x.q) rs ws) = B at h ⊢
  revert h
  cases x.y <;> cases B <;> simp [h0] <;> omega
 ·by_cases h1 : x.k = 1
  ·rw [if_pos h1,if_pos h1,if_pos h1] at h
   unfold sameC at h
   rw [sameM_self,eqB_dec] at h
   simp only [h1,if_true]
   rw [if_neg (by omega)]
   revert h
   generalize formT formedB (txT (x.s,x.q) rs ws) = B
   cases x.y <;> cases B <;> simp [h1] <;> omega
  ·by_cases h2 : x.k = 2
   ·rw [if_neg h1,if_neg h1,if_neg h1,if_pos h2] at h
    unfold sameC at h
    rw [sameM_zero,eqB_self] at h
    simp only [h2,if_true]
    rw [if_neg (by omega),if_neg (by omega)]
    revert h
    generalize zeroTB (txT (x.s,x.q) rs ws) = B
    cases x.y <;> cases B <;> simp [h2]
   ·by_cases h3 : x.k = 3
    ·rw [if_neg h1,if_neg h1,if_neg h1,if_neg h2,if_pos h3] at h
     unfold sameC at h
     rw [sameM_zero,eqB_self] at h
     simp only [h3,if_true]
     rw [if_neg (by omega),if_neg (by omega),if_neg (by omega)]
     revert h
     generalize zeroTB (txT (x.s,x.q) rs ws) = B
     cases x.y <;> cases B <;> simp [h3] <;> omega
    ·simp only []
     rw [if_neg h0,if_neg h1,if_neg h2,if_neg h3]
theorem clean_kind (h : cleanB x rs ws = true) : x.k = 0∨x.k = 1∨x.k = 2∨x.k = 3:=by
 by_cases h1 : x.k = 1
 ·exact .inr (.inl h1)
 ·by_cases h2 : x.k = 2
  ·exact .inr (.inr (.inl h2))
  ·by_cases h3 : x.k = 3
   ·exact .inr (.inr (.inr h3))
   ·unfold cleanB namedM namedL sameC at h
    rw [if_neg h1,if_neg h2,if_neg h3] at h
    simp only [Bool.and_eq_true,beq_iff_eq] at h
    exact .inl h.1
theorem form_zero (h : cleanB x rs ws = true) (h0 : x.k = 0) : formCm (cmT x rs ws) = true:=by
 unfold cleanB namedM namedL at h
 rw [if_neg (by omega),if_neg (by omega),if_neg (by omega),if_neg (by omega),if_neg (by omega)] at h
 have e:=(sameC_iff _ _ _ _ _ _).1 h
 rw [e];rfl
theorem form_begin (h : cleanB x rs ws = true) (h1 : x.k = 1) : formCm (cmT x rs ws) = formT formedB (txT (x.s,x.q) rs ws):=by
 unfold cleanB namedM namedL at h
 rw [if_pos h1,if_pos h1,if_pos h1] at h
 have e:=(sameC_iff _ _ _ _ _ _).1 h
 rw [e]
 show (formT formedB (txT (x.s,x.q) rs ws) && restB _) = _
 exact Bool.and_true _
theorem form_stamp (h : cleanB x rs ws = true) (h2 : x.k = 2) : formCm (cmT x rs ws) = (srcB x && (decide (1≤x.st) && decide (x.st≤9223372036854775807))):=by
 unfold cleanB namedM namedL at h
 have h1 : ¬ x.k = 1:=by omega
 rw [if_neg h1,if_neg h1,if_neg h1,if_pos h2] at h
 have e:=(sameC_iff _ _ _ _ _ _).1 h
 rw [e]
 show (srcB x && (decide (0 < x.st) && decide (x.st≤9223372036854775807))) = _
 rfl
theorem form_vote (h : cleanB x rs ws = true) (h3 : x.k = 3) : formCm (cmT x rs ws) = srcB x:=by
 unfold cleanB namedM namedL at h
 have h1 : ¬ x.k = 1:=by omega
 have h2 : ¬ x.k = 2:=by omega
 rw [if_neg h1,if_neg h1,if_neg h1,if_neg h2,if_pos h3] at h
 have e:=(sameC_iff _ _ _ _ _ _).1 h
 rw [e]
 show (srcB x && true) = _
 exact Bool.and_true _
end
theorem rSame_any (s q : Int) (a : Option Addr) (n c : Nat) (b : Option Addr) (m d : Nat) (rs : List RdM) (ws : List WrM) (s' q' : Int) (a' : Option Addr) (n' c' : Nat) (b' : Option Addr) (m' d' : Nat) (rs' : List RdM) (ws' : List WrM) (w : World)
  (h : TxAt w a n b m rs ws) (h' : TxAt w a' n' b' m' rs' ws') (hn : n≤1000000) (hm : m≤1000000) :
  Calls Tryz.prog 24 #[.agg (txV s q a n c b m d),.agg (txV s' q' a' n' c' b' m' d')] w (Says w (sameM (s,q) (s',q') rs rs' ws ws')):=by
 have H0:=hid (((Boxs.start w).more (txV s q a n c b m d) 32).more (txV s' q' a' n' c' b' m' d') 32)
 have hs : (w.alloc (.cells (txV s q a n c b m d) 32)).heap.size = w.heap.size + 1:=by simp
 rw [hs] at H0
 have HT:=hid h
 have HT':=hid h'
 have hl:=h.lenR
 have hl':=h'.lenR
 have hk:=h.lenW
 have hk':=h'.lenW
 obtain ⟨x0,x1,x2,x3⟩:=(H0.g 1 rfl).four
 obtain ⟨y0,y1,y2,y3⟩:=(H0.g 0 rfl).four
 clear h h' hs
 unfold sameM
 rcases id_cases s q s' q' with ⟨e,q1,q2⟩ | ⟨e,q1⟩ | ⟨e,q1,q2⟩
 ·rw [e,Bool.true_and]
  clear e
  by_cases hnn : n = n'
  ·subst hnn
   by_cases hmm : m = m'
   ·subst hmm
    go_enter Tryz.func24,Tryz.ntmps24
    go_wp2
    go_loopw [5] (fun i wr => ∃ k : Nat,k≤n∧i = .int .i64 k∧rs.take k = rs'.take k∧Boxs w wr [(w.heap.size + 1,txV s' q' a' n c' b' m d',32),(w.heap.size,txV s q a n c b m d,32)]) (fun i _=>n - (intOf i).toNat)
    case atStart=>exact ⟨0,Nat.zero_le _,rfl,rfl,H0.out⟩
    case round =>
     obtain ⟨k,hk3,rfl,ht,hX⟩:=hrel
     have HX:=hid hX
     clear hX H0 x0 x1 x2 x3 y0 y1 y2 y3
     obtain ⟨x0,x1,x2,x3⟩:=(HX.g 1 rfl).four
     obtain ⟨y0,y1,y2,y3⟩:=(HX.g 0 rfl).four
     by_cases hlt : k < n
     ·have hk1 : k < rs.length:=by omega
      have hk2 : k < rs'.length:=by omega
      have HG : rs[k] = rs'[k]→Hid (rs.take (k + 1) = rs'.take (k + 1)):=fun e=>eq_step ht hk1 hk2 e
      have HN : ¬ rs[k] = rs'[k]→Hid (eqB rs rs' = false):=fun e=>eq_bad hk1 hk2 e
      obtain ⟨g,off,rfl,_,z0,z1⟩:=(HT.out.later HX.out.bel).rds.at_ (i:=k) hk1
      obtain ⟨g',off',rfl,_,u0,u1⟩:=(HT'.out.later HX.out.bel).rds.at_ (i:=k) hk2
      clear ht
      generalize rs[k] = x at *
      generalize rs'[k] = y at *
      have i1 : (k : Int) < (n : Int):=by omega
      rcases rd_cases x y with rfl | ⟨hne,p1⟩ | ⟨hne,p1,p2⟩
      ·have Q:=HG rfl
       clear HG HN
       go_upto_region 6 with (fail)
       go_quiet (fail)
       go_wp2
       go_roundw
       case rel=>exact ⟨k + 1,by omega,by go_num,Q.out,HX.out.drewN _⟩
       case measure=>simp [intOf];omega
      ·have Q:=HN hne
       clear HG HN
       go_upto_region 6 with (fail)
       go_quiet (fail)
       go_wp2
       go_ret
       exact ⟨by rw [Q.out];rfl,(HX.out.drewN _).bel⟩
      ·have Q:=HN hne
       clear HG HN
       go_upto_region 6 with (fail)
       go_quiet (fail)
       go_wp2
       go_ret
       exact ⟨by rw [Q.out];rfl,(HX.out.drewN _).bel⟩
     ·have Q:=hid (eq_done ht (by omega) (by omega))
      have QR:=Q
      clear ht Q
      go_wp2
      go_loopw [6] (fun i wr => ∃ k : Nat,k≤m∧i = .int .i64 k∧ws.take k = ws'.take k∧Boxs w wr [(w.heap.size + 1,txV s' q' a' n c' b' m d',32),(w.heap.size,txV s q a n c b m d,32)]) (fun i _=>m - (intOf i).toNat)
      case atStart=>exact ⟨0,Nat.zero_le _,rfl,rfl,HX.out⟩
      case round =>
       obtain ⟨j,hj3,rfl,ht,hX⟩:=hrel
       clear HX x0 x1 x2 x3 y0 y1 y2 y3
       have HX:=hid hX
       clear hX
       obtain ⟨x0,x1,x2,x3⟩:=(HX.g 1 rfl).four
       obtain ⟨y0,y1,y2,y3⟩:=(HX.g 0 rfl).four
       by_cases hlt : j < m
       ·have hk1 : j < ws.length:=by omega
        have hk2 : j < ws'.length:=by omega
        have HG : ws[j] = ws'[j]→Hid (ws.take (j + 1) = ws'.take (j + 1)):=fun e=>eq_step ht hk1 hk2 e
        have HN : ¬ ws[j] = ws'[j]→Hid (eqB ws ws' = false):=fun e=>eq_bad hk1 hk2 e
        obtain ⟨g,off,rfl,_,z0,z1,z2,z3⟩:=(HT.out.later HX.out.bel).wrs.at_ (i:=j) hk1
        obtain ⟨g',off',rfl,_,u0,u1,u2,u3⟩:=(HT'.out.later HX.out.bel).wrs.at_ (i:=j) hk2
        clear ht
        generalize ws[j] = x at *
        generalize ws'[j] = y at *
        have i1 : (j : Int) < (m : Int):=by omega
        rcases wr_cases x y with rfl | ⟨hne,p1⟩ | ⟨hne,p1,p2⟩ | ⟨hne,p1,p2,p3⟩ | ⟨hne,p1,p2,p3,p4⟩
        ·have Q:=HG rfl
         clear HG HN
         go_upto_region 11 with (fail)
         go_quiet (fail)
         go_wp2
         go_roundw
         case rel=>exact ⟨j + 1,by omega,by go_num,Q.out,HX.out.drewN _⟩
         case measure=>simp [intOf];omega
        ·have Q:=HN hne
         clear HG HN
         go_upto_region 11 with (fail)
         go_quiet (fail)
         go_wp2
         go_ret
         exact ⟨by rw [QR.out,Q.out];rfl,(HX.out.drewN _).bel⟩
        ·have Q:=HN hne
         clear HG HN
         go_upto_region 11 with (fail)
         go_quiet (fail)
         go_wp2
         go_ret
         exact ⟨by rw [QR.out,Q.out];rfl,(HX.out.drewN _).bel⟩
        ·have Q:=HN hne
         clear HG HN
         go_upto_region 11 with (fail)
         go_quiet (fail)
         go_wp2
         go_ret
         exact ⟨by rw [QR.out,Q.out];rfl,(HX.out.drewN _).bel⟩
        ·have Q:=HN hne
         clear HG HN
         go_upto_region 11 with (fail)
         go_quiet (fail)
         go_wp2
         go_ret
         exact ⟨by rw [QR.out,Q.out];rfl,(HX.out.drewN _).bel⟩
       ·have Q:=hid (eq_done ht (by omega) (by omega))
        clear ht
        go_wp2
        go_ret
        exact ⟨by rw [QR.out,Q.out];rfl,HX.out.bel⟩
   ·have Q:=hid (eq_len (l:=ws) (l':=ws') (by omega))
    have p1 : ((m : Int) != (m' : Int)) = true:=by simp;omega
    rw [Q.out,Bool.and_false]
    go_enter Tryz.func24,Tryz.ntmps24
    go_wp2
    go_ret
    exact ⟨rfl,H0.out.bel⟩
  ·have Q:=hid (eq_len (l:=rs) (l':=rs') (by omega))
   have p1 : ((n : Int) != (n' : Int)) = true:=by simp;omega
   rw [Q.out,Bool.false_and]
   go_enter Tryz.func24,Tryz.ntmps24
   go_wp2
   go_ret
   exact ⟨rfl,H0.out.bel⟩
 ·rw [e]
  go_enter Tryz.func24,Tryz.ntmps24
  go_wp2
  go_ret
  exact ⟨rfl,H0.out.bel⟩
 ·rw [e]
  go_enter Tryz.func24,Tryz.ntmps24
  go_wp2
  go_ret
  exact ⟨rfl,H0.out.bel⟩
/-- A transaction of a size that is looked at. -/
def fewR (x : RdM) : Bool:=decide (x.1.size≤1000)
def fewW (x : WrM) : Bool:=decide (x.key.size≤1000) && decide (x.t.size≤1000)
def fewT (rs : List RdM) (ws : List WrM) : Bool:=(decide (rs.length≤12) && decide (ws.length≤12)) && (rs.all fewR && ws.all fewW)
theorem kSame_any (x y : CmM) (rs rs' : List RdM) (ws ws' : List WrM) (w : World) (h : CmAt w x rs ws) (h' : CmAt w y rs' ws') (hn : x.n≤1000000) (hm : x.m≤1000000) :
  Calls Tryz.prog 83 #[.agg (cmV x),.agg (cmV y)] w (Says w (sameC x y rs rs' ws ws')):=by
 have H0:=hid (((Boxs.start w).more (cmV x) 35).more (cmV y) 35)
 have hs : (w.alloc (.cells (cmV x) 35)).heap.size = w.heap.size + 1:=by simp
 rw [hs] at H0
 have cS:=tSame_any x.s x.q x.a x.n x.c x.b x.m x.d rs ws y.s y.q y.a y.n y.c y.b y.m y.d rs' ws' _ (h.tx.later H0.out.bel) (h'.tx.later H0.out.bel) hn hm
 obtain ⟨x0,x1,x2,x3,x4,x5,x6,x7,x8,x9⟩:=(H0.g 1 rfl).ten
 obtain ⟨y0,y1,y2,y3,y4,y5,y6,y7,y8,y9⟩:=(H0.g 0 rfl).ten
 clear h h'
 unfold sameC
 cases q1 : (x.k == y.k)
 ·clear cS
  go_enter Tryz.func83,Tryz.ntmps83
  go_wp2
  go_ret
  exact ⟨rfl,H0.out.bel⟩
 cases hS : sameM (x.s,x.q) (y.s,y.q) rs rs' ws ws'
 ·rw [hS] at cS
  go_enter Tryz.func83,Tryz.ntmps83
  go_wp2_with (go_at_call 96;((with_reducible refine cS.mono ?_);rintro e w1 ⟨rfl,hb1⟩;have H1:=hid (H0.out.below hb1)))
  go_ret
  exact ⟨rfl,H1.out.bel⟩
 rw [hS] at cS
 rcases id_cases x.i x.j y.i y.j with ⟨e,q2,q3⟩ | ⟨e,q2⟩ | ⟨e,q2,q3⟩
 ·rw [e]
  cases q4 : (x.g == y.g)
  ·go_enter Tryz.func83,Tryz.ntmps83
   go_wp2_with (go_at_call 96;((with_reducible refine cS.mono ?_);rintro e w1 ⟨rfl,hb1⟩;have H1:=hid (H0.out.below hb1);(clear x0 x1 x2 x3 x4 x5 x6 x7 x8 x9 y0 y1 y2 y3 y4 y5 y6 y7 y8 y9);obtain ⟨x0,x1,x2,x3,x4,x5,x6,x7,x8,x9⟩:=(H1.g 1 rfl).ten;obtain ⟨y0,y1,y2,y3,y4,y5,y6,y7,y8,y9⟩:=(H1.g 0 rfl).ten))
   go_ret
   exact ⟨rfl,H1.out.bel⟩
  cases q5 : (((x.st : Nat) : Int) == ((y.st : Nat) : Int))
  ·go_enter Tryz.func83,Tryz.ntmps83
   go_wp2_with (go_at_call 96;((with_reducible refine cS.mono ?_);rintro e w1 ⟨rfl,hb1⟩;have H1:=hid (H0.out.below hb1);(clear x0 x1 x2 x3 x4 x5 x6 x7 x8 x9 y0 y1 y2 y3 y4 y5 y6 y7 y8 y9);obtain ⟨x0,x1,x2,x3,x4,x5,x6,x7,x8,x9⟩:=(H1.g 1 rfl).ten;obtain ⟨y0,y1,y2,y3,y4,y5,y6,y7,y8,y9⟩:=(H1.g 0 rfl).ten))
   go_ret
   exact ⟨rfl,H1.out.bel⟩
  go_enter Tryz.func83,Tryz.ntmps83
  go_wp2_with (go_at_call 96;((with_reducible refine cS.mono ?_);rintro e w1 ⟨rfl,hb1⟩;have H1:=hid (H0.out.below hb1);(clear x0 x1 x2 x3 x4 x5 x6 x7 x8 x9 y0 y1 y2 y3 y4 y5 y6 y7 y8 y9);obtain ⟨x0,x1,x2,x3,x4,x5,x6,x7,x8,x9⟩:=(H1.g 1 rfl).ten;obtain ⟨y0,y1,y2,y3,y4,y5,y6,y7,y8,y9⟩:=(H1.g 0 rfl).ten))
  go_ret
  exact ⟨rfl,H1.out.bel⟩
 ·rw [e]
  go_enter Tryz.func83,Tryz.ntmps83
  go_wp2_with (go_at_call 96;((with_reducible refine cS.mono ?_);rintro e w1 ⟨rfl,hb1⟩;have H1:=hid (H0.out.below hb1);(clear x0 x1 x2 x3 x4 x5 x6 x7 x8 x9 y0 y1 y2 y3 y4 y5 y6 y7 y8 y9);obtain ⟨x0,x1,x2,x3,x4,x5,x6,x7,x8,x9⟩:=(H1.g 1 rfl).ten;obtain ⟨y0,y1,y2,y3,y4,y5,y6,y7,y8,y9⟩:=(H1.g 0 rfl).ten))
  go_ret
  exact ⟨rfl,H1.out.bel⟩
 ·rw [e]
  go_enter Tryz.func83,Tryz.ntmps83
  go_wp2_with (go_at_call 96;((with_reducible refine cS.mono ?_);rintro e w1 ⟨rfl,hb1⟩;have H1:=hid (H0.out.below hb1);(clear x0 x1 x2 x3 x4 x5 x6 x7 x8 x9 y0 y1 y2 y3 y4 y5 y6 y7 y8 y9);obtain ⟨x0,x1,x2,x3,x4,x5,x6,x7,x8,x9⟩:=(H1.g 1 rfl).ten;obtain ⟨y0,y1,y2,y3,y4,y5,y6,y7,y8,y9⟩:=(H1.g 0 rfl).ten))
  go_ret
  exact ⟨rfl,H1.out.bel⟩
theorem dSame_any (x y : CmM) (rs rs' : List RdM) (ws ws' : List WrM) (w : World) (h : CmAt w x rs ws) (h' : CmAt w y rs' ws') (hn : x.n≤1000000) (hm : x.m≤1000000) :
  Calls Tryz.prog 23 #[.agg (cmV x),.agg (cmV y)] w (Says w (sameC x y rs rs' ws ws')):=by
 have H0:=hid (((Boxs.start w).more (cmV x) 44).more (cmV y) 44)
 have hs : (w.alloc (.cells (cmV x) 44)).heap.size = w.heap.size + 1:=by simp
 rw [hs] at H0
 have cS:=rSame_any x.s x.q x.a x.n x.c x.b x.m x.d rs ws y.s y.q y.a y.n y.c y.b y.m y.d rs' ws' _ (h.tx.later H0.out.bel) (h'.tx.later H0.out.bel) hn hm
 obtain ⟨x0,x1,x2,x3,x4,x5,x6,x7,x8,x9⟩:=(H0.g 1 rfl).ten
 obtain ⟨y0,y1,y2,y3,y4,y5,y6,y7,y8,y9⟩:=(H0.g 0 rfl).ten
 clear h h'
 rw [sameC_doc]
 cases q1 : (x.k == y.k)
 ·clear cS
  go_enter Tryz.func23,Tryz.ntmps23
  go_wp2
  go_ret
  exact ⟨rfl,H0.out.bel⟩
 rcases id_cases x.i x.j y.i y.j with ⟨e,q2,q3⟩ | ⟨e,q2⟩ | ⟨e,q2,q3⟩
 ·rw [e]
  cases q4 : (x.g == y.g)
  ·clear cS
   go_enter Tryz.func23,Tryz.ntmps23
   go_wp2
   go_ret
   exact ⟨rfl,H0.out.bel⟩
  cases q5 : (((x.st : Nat) : Int) == ((y.st : Nat) : Int))
  ·clear cS
   go_enter Tryz.func23,Tryz.ntmps23
   go_wp2
   go_ret
   exact ⟨rfl,H0.out.bel⟩
  cases q6 : (x.y == y.y)
  ·clear cS
   go_enter Tryz.func23,Tryz.ntmps23
   go_wp2
   go_ret
   exact ⟨rfl,H0.out.bel⟩
  go_enter Tryz.func23,Tryz.ntmps23
  go_wp2_with (go_at_call 24;((with_reducible refine cS.mono ?_);rintro e w1 ⟨rfl,hb1⟩;have H1:=hid (H0.out.below hb1)))
  go_ret
  exact ⟨rfl,H1.out.bel⟩
 ·rw [e]
  clear cS
  go_enter Tryz.func23,Tryz.ntmps23
  go_wp2
  go_ret
  exact ⟨rfl,H0.out.bel⟩
 ·rw [e]
  clear cS
  go_enter Tryz.func23,Tryz.ntmps23
  go_wp2
  go_ret
  exact ⟨rfl,H0.out.bel⟩
theorem kNamed_any (x : CmM) (w : World) : Calls Tryz.prog 84 #[.agg (cmV x)] w fun e w'=>e = .returned (.agg (cmV (namedM x)))∧Below w.heap.size w w':=by
 have H0:=hid (((Boxs.start w).more (cmV x) 35).more (cmV zeroM) 35)
 have hs : (w.alloc (.cells (cmV x) 35)).heap.size = w.heap.size + 1:=by simp
 rw [hs] at H0
 unfold namedM
 by_cases h1 : x.k = 1
 ·rw [if_pos h1]
  have q1 : (x.k == 1) = true:=by simp;omega
  go_enter Tryz.func84,Tryz.ntmps84
  go_upto_region 1 with (fail)
  generalize (w.alloc (.cells (cmV x) 35)).alloc (.cells (cmV zeroM) 35) = W0 at *
  obtain ⟨x0,x1,x2,x3,x4,x5,x6,x7,x8,x9⟩:=(H0.g 1 rfl).ten
  obtain ⟨z0,z1,z2,z3,z4,z5,z6,z7,z8,z9⟩:=(H0.g 0 rfl).ten
  have f0:=H0.f 0 0 rfl;have f1:=H0.f 0 1 rfl;have f2:=H0.f 0 2 rfl;have f3:=H0.f 0 3 rfl;have f4:=H0.f 0 4 rfl;have f5:=H0.f 0 5 rfl;have f6:=H0.f 0 6 rfl;have f7:=H0.f 0 7 rfl;have f8:=H0.f 0 8 rfl;have f9:=H0.f 0 9 rfl
  go_wp2
  exact bodyPost_ret (v:=.agg (cmV ⟨1,x.s,x.q,x.a,x.n,x.c,x.b,x.m,x.d,0,0,0,0,false⟩)) (by simp [results,Tryz.results84,go_sem,z0,z1,z2,z3,z4,z5,z6,z7,z8,z9]) rfl ⟨rfl,((((((((((H0.out.bel.setCell (by simp) _).setCell (by simp) _).setCell (by simp) _).setCell (by simp) _).setCell (by simp) _).setCell (by simp) _).setCell (by simp) _).setCell (by simp) _).setCell (by simp) _).setCell (by simp) _)⟩
 by_cases h2 : x.k = 2
 ·rw [if_neg h1,if_pos h2]
  have q1 : (x.k == 1) = false:=by simp;omega
  have q2 : (x.k == 2) = true:=by simp;omega
  go_enter Tryz.func84,Tryz.ntmps84
  go_upto_region 1 with (fail)
  generalize (w.alloc (.cells (cmV x) 35)).alloc (.cells (cmV zeroM) 35) = W0 at *
  obtain ⟨x0,x1,x2,x3,x4,x5,x6,x7,x8,x9⟩:=(H0.g 1 rfl).ten
  obtain ⟨z0,z1,z2,z3,z4,z5,z6,z7,z8,z9⟩:=(H0.g 0 rfl).ten
  have f0:=H0.f 0 0 rfl;have f1:=H0.f 0 1 rfl;have f2:=H0.f 0 2 rfl;have f3:=H0.f 0 3 rfl;have f4:=H0.f 0 4 rfl;have f5:=H0.f 0 5 rfl;have f6:=H0.f 0 6 rfl;have f7:=H0.f 0 7 rfl;have f8:=H0.f 0 8 rfl;have f9:=H0.f 0 9 rfl
  go_wp2
  exact bodyPost_ret (v:=.agg (cmV ⟨2,0,0,none,0,0,none,0,0,x.i,x.j,x.g,x.st,false⟩)) (by simp [results,Tryz.results84,go_sem,z0,z1,z2,z3,z4,z5,z6,z7,z8,z9]) rfl ⟨rfl,((((((((((H0.out.bel.setCell (by simp) _).setCell (by simp) _).setCell (by simp) _).setCell (by simp) _).setCell (by simp) _).setCell (by simp) _).setCell (by simp) _).setCell (by simp) _).setCell (by simp) _).setCell (by simp) _)⟩
 by_cases h3 : x.k = 3
 ·rw [if_neg h1,if_neg h2,if_pos h3]
  have q1 : (x.k == 1) = false:=by simp;omega
  have q2 : (x.k == 2) = false:=by simp;omega
  have q3 : (x.k == 3) = true:=by simp;omega
  go_enter Tryz.func84,Tryz.ntmps84
  go_upto_region 1 with (fail)
  generalize (w.alloc (.cells (cmV x) 35)).alloc (.cells (cmV zeroM) 35) = W0 at *
  obtain ⟨x0,x1,x2,x3,x4,x5,x6,x7,x8,x9⟩:=(H0.g 1 rfl).ten
  obtain ⟨z0,z1,z2,z3,z4,z5,z6,z7,z8,z9⟩:=(H0.g 0 rfl).ten
  have f0:=H0.f 0 0 rfl;have f1:=H0.f 0 1 rfl;have f2:=H0.f 0 2 rfl;have f3:=H0.f 0 3 rfl;have f4:=H0.f 0 4 rfl;have f5:=H0.f 0 5 rfl;have f6:=H0.f 0 6 rfl;have f7:=H0.f 0 7 rfl;have f8:=H0.f 0 8 rfl;have f9:=H0.f 0 9 rfl
  go_wp2
  exact bodyPost_ret (v:=.agg (cmV ⟨3,0,0,none,0,0,none,0,0,x.i,x.j,x.g,0,x.y⟩)) (by simp [results,Tryz.results84,go_sem,z0,z1,z2,z3,z4,z5,z6,z7,z8,z9]) rfl ⟨rfl,((((((((((H0.out.bel.setCell (by simp) _).setCell (by simp) _).setCell (by simp) _).setCell (by simp) _).setCell (by simp) _).setCell (by simp) _).setCell (by simp) _).setCell (by simp) _).setCell (by simp) _).setCell (by simp) _)⟩
 rw [if_neg h1,if_neg h2,if_neg h3]
 have q1 : (x.k == 1) = false:=by simp;omega
 have q2 : (x.k == 2) = false:=by simp;omega
 have q3 : (x.k == 3) = false:=by simp;omega
 go_enter Tryz.func84,Tryz.ntmps84
 go_upto_region 1 with (fail)
 generalize (w.alloc (.cells (cmV x) 35)).alloc (.cells (cmV zeroM) 35) = W0 at *
 obtain ⟨x0,x1,x2,x3,x4,x5,x6,x7,x8,x9⟩:=(H0.g 1 rfl).ten
 obtain ⟨z0,z1,z2,z3,z4,z5,z6,z7,z8,z9⟩:=(H0.g 0 rfl).ten
 have f0:=H0.f 0 0 rfl;have f1:=H0.f 0 1 rfl;have f2:=H0.f 0 2 rfl;have f3:=H0.f 0 3 rfl;have f4:=H0.f 0 4 rfl;have f5:=H0.f 0 5 rfl;have f6:=H0.f 0 6 rfl;have f7:=H0.f 0 7 rfl;have f8:=H0.f 0 8 rfl;have f9:=H0.f 0 9 rfl
 go_wp2
 exact bodyPost_ret (v:=.agg (cmV zeroM)) (by simp [results,Tryz.results84,go_sem,z0,z1,z2,z3,z4,z5,z6,z7,z8,z9]) rfl ⟨rfl,((((((((((H0.out.bel.setCell (by simp) _).setCell (by simp) _).setCell (by simp) _).setCell (by simp) _).setCell (by simp) _).setCell (by simp) _).setCell (by simp) _).setCell (by simp) _).setCell (by simp) _).setCell (by simp) _)⟩
theorem kSource_any (x : CmM) (w : World) : Calls Tryz.prog 85 #[.agg (cmV x)] w (Says w (srcB x)):=by
 have H0:=hid ((Boxs.start w).more (cmV x) 35)
 have cI:=fun W=>tId_any x.i x.j W
 obtain ⟨x0,x1,x2,x3,x4,x5,x6,x7,x8,x9⟩:=(H0.g 0 rfl).ten
 unfold srcB
 cases hI : idB (x.i,x.j)
 ·rw [hI] at cI
  go_enter Tryz.func85,Tryz.ntmps85
  go_wp2_with (go_at_call 60;((with_reducible refine (cI _).mono ?_);rintro e w1 ⟨rfl,hb1⟩;have H1:=hid (H0.out.below hb1)))
  go_ret
  exact ⟨rfl,H1.out.bel⟩
 rw [hI] at cI
 by_cases h1 : 0≤x.g
 ·rw [decide_eq_true h1]
  go_enter Tryz.func85,Tryz.ntmps85
  go_wp2_with (go_at_call 60;((with_reducible refine (cI _).mono ?_);rintro e w1 ⟨rfl,hb1⟩;have H1:=hid (H0.out.below hb1);(clear x0 x1 x2 x3 x4 x5 x6 x7 x8 x9);obtain ⟨x0,x1,x2,x3,x4,x5,x6,x7,x8,x9⟩:=(H1.g 0 rfl).ten))
  go_ret
  exact ⟨rfl,H1.out.bel⟩
 ·rw [decide_eq_false h1]
  go_enter Tryz.func85,Tryz.ntmps85
  go_wp2_with (go_at_call 60;((with_reducible refine (cI _).mono ?_);rintro e w1 ⟨rfl,hb1⟩;have H1:=hid (H0.out.below hb1);(clear x0 x1 x2 x3 x4 x5 x6 x7 x8 x9);obtain ⟨x0,x1,x2,x3,x4,x5,x6,x7,x8,x9⟩:=(H1.g 0 rfl).ten))
  go_ret
  exact ⟨rfl,H1.out.bel⟩
theorem keysM_len (rs : List RdM) : (keysM rs).length = rs.length:=by simp [keysM]
theorem keysV_len (ws : List WrM) : (keysV ws).length = ws.length:=by simp [keysV]
/-- All texts are keys, strictly rising. -/
def riseB (L : List (List UInt8)) : Bool:=L.all keyB && adjB L
theorem rise_key (L : List (List UInt8)) (k : Nat) (h : k < L.length) (hp : keyB L[k] = false) : riseB L = false:=by unfold riseB;rw [all_bad keyB L k h hp];rfl
theorem rise_adj (L : List (List UInt8)) (k : Nat) (h : k + 1 < L.length) (hp : leB L[k + 1] L[k] = true) : riseB L = false:=by unfold riseB;rw [adj_bad L k h hp,Bool.and_false]
/-- The first k of them are. -/
def RiseP (L : List (List UInt8)) (k : Nat) : Prop:=(L.take k).all keyB = true∧∀ j (hj : j + 1 < L.length),j + 1 < k→leB L[j + 1] L[j] = false
theorem RiseP.start (L : List (List UInt8)) : RiseP L 0:=⟨rfl,fun j _ h=>by omega⟩
theorem RiseP.first (L : List (List UInt8)) (h : 0 < L.length) (hk : keyB L[0] = true) : RiseP L 1:=⟨all_next keyB L 0 h rfl hk,fun j _ h=>by omega⟩
theorem RiseP.next {L : List (List UInt8)} {k : Nat} (h : RiseP L (k + 1)) (hl : k + 1 < L.length) (hk : keyB L[k + 1] = true) (ha : leB L[k + 1] L[k] = false) : RiseP L (k + 1 + 1):=by
 refine ⟨all_next keyB L (k + 1) hl h.1 hk,fun j hj hlt=>?_⟩
 by_cases e : j = k
 ·subst e;exact ha
 ·exact h.2 j hj (by omega)
theorem RiseP.done {L : List (List UInt8)} {k : Nat} (h : RiseP L k) (hl : L.length≤k) : riseB L = true:=by
 unfold riseB
 rw [all_done keyB L k hl h.1,adj_all L fun j hj=>h.2 j hj (by omega)];rfl
def valsB (ws : List WrM) : Bool:=ws.all fun x=>formedB (valM x)
theorem vals_all (i : IdN) (rs : List RdM) (ws : List WrM) : ((txT i rs ws).ws.all fun x=>formedB x.2) = valsB ws:=by
 unfold txT txW valsB
 rw [List.all_map];rfl
theorem form_len (i : IdN) (rs : List RdM) (ws : List WrM) (h : idB i = false∨6 < rs.length∨6 < ws.length∨(rs.length = 0∧ws.length = 0)) : formT formedB (txT i rs ws) = false:=by
 cases e : formT formedB (txT i rs ws)
 ·rfl
 ·have hf:=(formT_iff _ _).1 e
  have h1:=hf.id
  have h2:=hf.rlen
  have h3:=hf.wlen
  have h4:=hf.some
  simp only [txT,txR,txW,List.length_map] at h1 h2 h3 h4
  rcases h with h | h | h | h
  ·rw [h] at h1;cases h1
  ·omega
  ·omega
  ·omega
theorem form_parts (i : IdN) (rs : List RdM) (ws : List WrM) (hi : idB i = true) (h1 : rs.length≤6) (h2 : ws.length≤6) (h3 : ¬ (rs.length = 0∧ws.length = 0)) :
  formT formedB (txT i rs ws) = (riseB (txt (keysM rs)) && (riseB (txt (keysV ws)) && valsB ws)):=by
 have e1 : idB (txT i rs ws).id = true:=hi
 have e2 : (txT i rs ws).rs.length = rs.length:=by simp [txT,txR]
 have e3 : (txT i rs ws).ws.length = ws.length:=by simp [txT,txW]
 have e4 : (decide (rs.length = 0) && decide (ws.length = 0)) = false:=by
  rw [Bool.and_eq_false_iff,decide_eq_false_iff_not,decide_eq_false_iff_not];omega
 unfold formT
 rw [e1,e2,e3,decide_eq_true h1,decide_eq_true h2,e4,keysM_txt,keysV_txt,vals_all]
 unfold riseB
 cases (txt (keysM rs)).all keyB <;> cases adjB (txt (keysM rs)) <;> cases (txt (keysV ws)).all keyB <;> cases adjB (txt (keysV ws)) <;> cases valsB ws <;> rfl
theorem keysM_ok {rs : List RdM} (h : ∀ x ∈ rs,RdOk x) : ∀ z ∈ keysM rs,z.size≤maxLen:=by
 intro z hz
 obtain ⟨x,hx,rfl⟩:=List.mem_map.1 hz
 exact (h x hx).1
theorem keysV_ok {ws : List WrM} (h : ∀ x ∈ ws,WrOk x) : ∀ z ∈ keysV ws,z.size≤maxLen:=by
 intro z hz
 obtain ⟨x,hx,rfl⟩:=List.mem_map.1 hz
 exact (h x hx).1
end Go.Proofs.YtigimmbdlhginaaGreatDoor
