/- Plain mathematics: reading a message letter by letter reads what mgF reads. No condition. Contract of message.Read: it answers the message that mgF reads to the end, or none. Conditions: the bytes lie in memory, and are no longer than 2^40; the tables of utf8 lie there. -/
import Derived.Test.YtigimmbdlhginaaGreatDoorHG
import Derived.Test.YtigimmbdlhginaaGreatDoorGU
import Derived.Test.YtigimmbdlhginaaGreatDoorGS
import Derived.Test.YtigimmbdlhginaaGreatDoorMessageLoad
import Derived.Test.YtigimmbdlhginaaGreatDoorGX
import Derived.Laws.ResultCell
import Derived.Lib.OthersKept
namespace Go.Proofs.YtigimmbdlhginaaGreatDoor
set_option maxRecDepth 100000
open Go.RowKit
open Go.Lib (hid)
set_option linter.unusedVariables false
/-- What some letters read into a message. -/
noncomputable def fldsP : List Nat→Mg→Prs Mg
 | [],m=>pureP m
 | c :: cs,m=>bindP (fldP c m) (fldsP cs)
theorem flds_snoc (cs : List Nat) (c : Nat) : ∀ m,fldsP (cs ++ [c]) m = bindP (fldsP cs m) (fldP c):=by
 induction cs with
 | nil =>
  intro m
  show bindP (fldP c m) (fldsP []) = bindP (pureP m) (fldP c)
  rw [bind_pure_l]
  funext l
  show bindP (fldP c m) pureP l = _
  unfold bindP pureP
  cases fldP c m l with
  | none=>rfl
  | some x=>rfl
 | cons d cs ih =>
  intro m
  show bindP (fldP d m) (fldsP (cs ++ [c])) = bindP (bindP (fldP d m) (fldsP cs)) (fldP c)
  rw [bind_assoc]
  congr 1
  funext y
  exact ih y
/-- What is read behind the kind. -/
noncomputable def tailP : Int→Prs Mg:=fun k=>bindP (optP (uBal k) (balQ) ((0,0))) fun ba=>bindP (optP (uSlot k) (numI 4) (0)) fun sl=>bindP (optP (uHas k) (yesP) (false)) fun has=>bindP (optP (has) (balQ) ((0,0))) fun vo=>bindP (optP ((has || uCmd k)) (cmF) (zeroC)) fun cm=>bindP (optP (uTxn k) (txnF) (zeroT)) fun tx=>bindP (optP (uId k) (idQ) ((0,0))) fun id=>bindP (optP (uGrp k) (numI 1) (0)) fun g=>bindP (optP (uStp k) (numP 8) (0)) fun st=>bindP (optP (uYes k) (yesP) (false)) fun y=>bindP (optP (uNum k) (numI 4) (0)) fun nu=>bindP (optP (uKey k) (textP 12) ([])) fun key=>bindP (optP (uVal k) (numP 8) (0)) fun ver=>bindP (optP (uVal k) (valP) (⟨0,0,[]⟩)) fun val=>bindP (optP (uVal k) (numI 1) (0)) fun err=>bindP (optP (uDat k) (dataP) ([])) fun data=>pureP (⟨k,ba,sl,has,vo,cm,tx,id,g,st,y,nu,key,ver,val,err,data⟩ : Mg)
theorem mgP_tail : mgP = bindP (numI 1) tailP:=rfl
theorem fldP_98 (m : Mg) : fldP 98 m = bindP balQ fun v=>pureP { m with ba:=v }:=rfl
theorem fldP_115 (m : Mg) : fldP 115 m = bindP (numI 4) fun v=>pureP { m with sl:=v }:=rfl
theorem fldP_99 (m : Mg) : fldP 99 m = bindP cmF fun v=>pureP { m with cm:=v }:=rfl
theorem fldP_116 (m : Mg) : fldP 116 m = bindP txnF fun v=>pureP { m with tx:=v }:=rfl
theorem fldP_105 (m : Mg) : fldP 105 m = bindP idQ fun v=>pureP { m with id:=v }:=rfl
theorem fldP_103 (m : Mg) : fldP 103 m = bindP (numI 1) fun v=>pureP { m with g:=v }:=rfl
theorem fldP_112 (m : Mg) : fldP 112 m = bindP (numP 8) fun v=>pureP { m with st:=v }:=rfl
theorem fldP_121 (m : Mg) : fldP 121 m = bindP yesP fun v=>pureP { m with y:=v }:=rfl
theorem fldP_110 (m : Mg) : fldP 110 m = bindP (numI 4) fun v=>pureP { m with nu:=v }:=rfl
theorem fldP_107 (m : Mg) : fldP 107 m = bindP (textP 12) fun v=>pureP { m with key:=v }:=rfl
theorem fldP_118 (m : Mg) : fldP 118 m = bindP (numP 8) fun v=>pureP { m with ver:=v }:=rfl
theorem fldP_120 (m : Mg) : fldP 120 m = bindP valP fun v=>pureP { m with val:=v }:=rfl
theorem fldP_101 (m : Mg) : fldP 101 m = bindP (numI 1) fun v=>pureP { m with err:=v }:=rfl
theorem fldP_100 (m : Mg) : fldP 100 m = bindP dataQ fun v=>pureP { m with data:=v }:=rfl
theorem fldP_104 (m : Mg) : fldP 104 m = bindP yesP fun h=>if h = true then bindP balQ fun v=>bindP cmF fun k=>pureP { m with has:=h,vo:=v,cm:=k } else pureP { m with has:=h }:=rfl
theorem optP_t {α : Type} (p : Prs α) (z : α) : optP true p z = p:=rfl
theorem optP_f {α : Type} (p : Prs α) (z : α) : optP false p z = pureP z:=rfl
abbrev zM (k : Int) : Mg:=mgT (zeroG k) noL
theorem tail_1 : fldsP [98] (zM 1) = tailP 1:=by
 unfold tailP
 simp only [fldsP,fldP_98,bind_assoc,bind_pure_l,show uBal 1 = true from rfl,show uSlot 1 = false from rfl,show uHas 1 = false from rfl,show uCmd 1 = false from rfl,show uTxn 1 = false from rfl,show uId 1 = false from rfl,show uGrp 1 = false from rfl,show uStp 1 = false from rfl,show uYes 1 = false from rfl,show uNum 1 = false from rfl,show uKey 1 = false from rfl,show uVal 1 = false from rfl,show uDat 1 = false from rfl,optP_t,optP_f,Bool.or_false]
 rfl
theorem tail_2 : fldsP [98,115,104] (zM 2) = tailP 2:=by
 unfold tailP
 simp only [fldsP,fldP_98,fldP_115,fldP_104,bind_assoc,bind_pure_l,show uBal 2 = true from rfl,show uSlot 2 = true from rfl,show uHas 2 = true from rfl,show uCmd 2 = false from rfl,show uTxn 2 = false from rfl,show uId 2 = false from rfl,show uGrp 2 = false from rfl,show uStp 2 = false from rfl,show uYes 2 = false from rfl,show uNum 2 = false from rfl,show uKey 2 = false from rfl,show uVal 2 = false from rfl,show uDat 2 = false from rfl,optP_t,optP_f,Bool.or_false]
 congr 1;funext v;congr 1;funext n;congr 1;funext h
 cases h
 ·simp only [optP_f,bind_pure_l];rfl
 ·simp only [optP_t,if_pos,bind_assoc,bind_pure_l];rfl
theorem tail_3 : fldsP [98] (zM 3) = tailP 3:=by
 unfold tailP
 simp only [fldsP,fldP_98,bind_assoc,bind_pure_l,show uBal 3 = true from rfl,show uSlot 3 = false from rfl,show uHas 3 = false from rfl,show uCmd 3 = false from rfl,show uTxn 3 = false from rfl,show uId 3 = false from rfl,show uGrp 3 = false from rfl,show uStp 3 = false from rfl,show uYes 3 = false from rfl,show uNum 3 = false from rfl,show uKey 3 = false from rfl,show uVal 3 = false from rfl,show uDat 3 = false from rfl,optP_t,optP_f,Bool.or_false]
 rfl
theorem tail_4 : fldsP [98,115,99] (zM 4) = tailP 4:=by
 unfold tailP
 simp only [fldsP,fldP_98,fldP_115,fldP_99,bind_assoc,bind_pure_l,show uBal 4 = true from rfl,show uSlot 4 = true from rfl,show uHas 4 = false from rfl,show uCmd 4 = true from rfl,show uTxn 4 = false from rfl,show uId 4 = false from rfl,show uGrp 4 = false from rfl,show uStp 4 = false from rfl,show uYes 4 = false from rfl,show uNum 4 = false from rfl,show uKey 4 = false from rfl,show uVal 4 = false from rfl,show uDat 4 = false from rfl,optP_t,optP_f,Bool.or_true]
 rfl
theorem tail_5 : fldsP [98,115] (zM 5) = tailP 5:=by
 unfold tailP
 simp only [fldsP,fldP_98,fldP_115,bind_assoc,bind_pure_l,show uBal 5 = true from rfl,show uSlot 5 = true from rfl,show uHas 5 = false from rfl,show uCmd 5 = false from rfl,show uTxn 5 = false from rfl,show uId 5 = false from rfl,show uGrp 5 = false from rfl,show uStp 5 = false from rfl,show uYes 5 = false from rfl,show uNum 5 = false from rfl,show uKey 5 = false from rfl,show uVal 5 = false from rfl,show uDat 5 = false from rfl,optP_t,optP_f,Bool.or_false]
 rfl
theorem tail_6 : fldsP [115,99] (zM 6) = tailP 6:=by
 unfold tailP
 simp only [fldsP,fldP_115,fldP_99,bind_assoc,bind_pure_l,show uBal 6 = false from rfl,show uSlot 6 = true from rfl,show uHas 6 = false from rfl,show uCmd 6 = true from rfl,show uTxn 6 = false from rfl,show uId 6 = false from rfl,show uGrp 6 = false from rfl,show uStp 6 = false from rfl,show uYes 6 = false from rfl,show uNum 6 = false from rfl,show uKey 6 = false from rfl,show uVal 6 = false from rfl,show uDat 6 = false from rfl,optP_t,optP_f,Bool.or_true]
 rfl
theorem tail_7 : fldsP [115] (zM 7) = tailP 7:=by
 unfold tailP
 simp only [fldsP,fldP_115,bind_assoc,bind_pure_l,show uBal 7 = false from rfl,show uSlot 7 = true from rfl,show uHas 7 = false from rfl,show uCmd 7 = false from rfl,show uTxn 7 = false from rfl,show uId 7 = false from rfl,show uGrp 7 = false from rfl,show uStp 7 = false from rfl,show uYes 7 = false from rfl,show uNum 7 = false from rfl,show uKey 7 = false from rfl,show uVal 7 = false from rfl,show uDat 7 = false from rfl,optP_t,optP_f,Bool.or_false]
 rfl
theorem tail_8 : fldsP [116] (zM 8) = tailP 8:=by
 unfold tailP
 simp only [fldsP,fldP_116,bind_assoc,bind_pure_l,show uBal 8 = false from rfl,show uSlot 8 = false from rfl,show uHas 8 = false from rfl,show uCmd 8 = false from rfl,show uTxn 8 = true from rfl,show uId 8 = false from rfl,show uGrp 8 = false from rfl,show uStp 8 = false from rfl,show uYes 8 = false from rfl,show uNum 8 = false from rfl,show uKey 8 = false from rfl,show uVal 8 = false from rfl,show uDat 8 = false from rfl,optP_t,optP_f,Bool.or_false]
 rfl
theorem tail_9 : fldsP [105,103,112] (zM 9) = tailP 9:=by
 unfold tailP
 simp only [fldsP,fldP_105,fldP_103,fldP_112,bind_assoc,bind_pure_l,show uBal 9 = false from rfl,show uSlot 9 = false from rfl,show uHas 9 = false from rfl,show uCmd 9 = false from rfl,show uTxn 9 = false from rfl,show uId 9 = true from rfl,show uGrp 9 = true from rfl,show uStp 9 = true from rfl,show uYes 9 = false from rfl,show uNum 9 = false from rfl,show uKey 9 = false from rfl,show uVal 9 = false from rfl,show uDat 9 = false from rfl,optP_t,optP_f,Bool.or_false]
 rfl
theorem tail_10 : fldsP [105,103,121] (zM 10) = tailP 10:=by
 unfold tailP
 simp only [fldsP,fldP_105,fldP_103,fldP_121,bind_assoc,bind_pure_l,show uBal 10 = false from rfl,show uSlot 10 = false from rfl,show uHas 10 = false from rfl,show uCmd 10 = false from rfl,show uTxn 10 = false from rfl,show uId 10 = true from rfl,show uGrp 10 = true from rfl,show uStp 10 = false from rfl,show uYes 10 = true from rfl,show uNum 10 = false from rfl,show uKey 10 = false from rfl,show uVal 10 = false from rfl,show uDat 10 = false from rfl,optP_t,optP_f,Bool.or_false]
 rfl
theorem tail_11 : fldsP [105,103,112,121] (zM 11) = tailP 11:=by
 unfold tailP
 simp only [fldsP,fldP_105,fldP_103,fldP_112,fldP_121,bind_assoc,bind_pure_l,show uBal 11 = false from rfl,show uSlot 11 = false from rfl,show uHas 11 = false from rfl,show uCmd 11 = false from rfl,show uTxn 11 = false from rfl,show uId 11 = true from rfl,show uGrp 11 = true from rfl,show uStp 11 = true from rfl,show uYes 11 = true from rfl,show uNum 11 = false from rfl,show uKey 11 = false from rfl,show uVal 11 = false from rfl,show uDat 11 = false from rfl,optP_t,optP_f,Bool.or_false]
 rfl
theorem tail_12 : fldsP [112,110,107] (zM 12) = tailP 12:=by
 unfold tailP
 simp only [fldsP,fldP_112,fldP_110,fldP_107,bind_assoc,bind_pure_l,show uBal 12 = false from rfl,show uSlot 12 = false from rfl,show uHas 12 = false from rfl,show uCmd 12 = false from rfl,show uTxn 12 = false from rfl,show uId 12 = false from rfl,show uGrp 12 = false from rfl,show uStp 12 = true from rfl,show uYes 12 = false from rfl,show uNum 12 = true from rfl,show uKey 12 = true from rfl,show uVal 12 = false from rfl,show uDat 12 = false from rfl,optP_t,optP_f,Bool.or_false]
 rfl
theorem tail_13 : fldsP [103,112,110,107,118,120,101] (zM 13) = tailP 13:=by
 unfold tailP
 simp only [fldsP,fldP_103,fldP_112,fldP_110,fldP_107,fldP_118,fldP_120,fldP_101,bind_assoc,bind_pure_l,show uBal 13 = false from rfl,show uSlot 13 = false from rfl,show uHas 13 = false from rfl,show uCmd 13 = false from rfl,show uTxn 13 = false from rfl,show uId 13 = false from rfl,show uGrp 13 = true from rfl,show uStp 13 = true from rfl,show uYes 13 = false from rfl,show uNum 13 = true from rfl,show uKey 13 = true from rfl,show uVal 13 = true from rfl,show uDat 13 = false from rfl,optP_t,optP_f,Bool.or_false]
 rfl
theorem tail_14 : fldsP [110] (zM 14) = tailP 14:=by
 unfold tailP
 simp only [fldsP,fldP_110,bind_assoc,bind_pure_l,show uBal 14 = false from rfl,show uSlot 14 = false from rfl,show uHas 14 = false from rfl,show uCmd 14 = false from rfl,show uTxn 14 = false from rfl,show uId 14 = false from rfl,show uGrp 14 = false from rfl,show uStp 14 = false from rfl,show uYes 14 = false from rfl,show uNum 14 = true from rfl,show uKey 14 = false from rfl,show uVal 14 = false from rfl,show uDat 14 = false from rfl,optP_t,optP_f,Bool.or_false]
 rfl
theorem tail_15 : fldsP [115,100] (zM 15) = (bindP (numI 4) fun n=>bindP dataQ fun d=>pureP ⟨15,(0,0),n,false,(0,0),zeroC,zeroT,(0,0),0,0,false,0,[],0,⟨0,0,[]⟩,0,d⟩):=by
 simp only [fldsP,fldP_115,fldP_100,bind_assoc,bind_pure_l]
 rfl
theorem tail_15b : tailP 15 = bindP (numI 4) fun n=>bindP dataP fun d=>pureP ⟨15,(0,0),n,false,(0,0),zeroC,zeroT,(0,0),0,0,false,0,[],0,⟨0,0,[]⟩,0,d⟩:=by
 unfold tailP
 simp only [show uBal 15 = false from rfl,show uSlot 15 = true from rfl,show uHas 15 = false from rfl,show uCmd 15 = false from rfl,show uTxn 15 = false from rfl,show uId 15 = false from rfl,show uGrp 15 = false from rfl,show uStp 15 = false from rfl,show uYes 15 = false from rfl,show uNum 15 = false from rfl,show uKey 15 = false from rfl,show uVal 15 = false from rfl,show uDat 15 = true from rfl,optP_t,optP_f,Bool.or_false,bind_pure_l]
/-- A message is read by letters. -/
noncomputable def rdQ : Prs Mg:=bindP (numI 1) fun k=>fldsP (lets (letters k)) (zM k)
theorem guard_bind {α β : Type} {p : Prs α} {f : α→Prs β} {c : β→Bool} : guardP c (bindP p f) = bindP p fun x=>guardP c (f x):=by
 funext l
 unfold guardP bindP
 cases p l <;> rfl
theorem guard_in {α β : Type} {p : Prs α} {c : α→Bool} {f : α→β} {gd : β→Bool} (h : ∀ x,gd (f x) = true→c x = true) : guardP gd (bindP (guardP c p) fun x=>pureP (f x)) = guardP gd (bindP p fun x=>pureP (f x)):=by
 funext l
 cases e : p l with
 | none =>
  rw [guard_none (bind_none (guard_none e)),guard_none (bind_none e)]
 | some y =>
  obtain ⟨x,r⟩:=y
  cases hc : c x
  ·rw [guard_none (bind_none (guard_bad e hc))]
   have hg : gd (f x) = false:=by
    cases hg : gd (f x)
    ·rfl
    ·rw [h x hg] at hc;cases hc
   rw [guard_bad (show bindP p (fun x=>pureP (f x)) l = some (f x,r) by rw [bind_some e];rfl) hg]
  ·have e1 : bindP (guardP c p) (fun x=>pureP (f x)) l = some (f x,r):=by rw [bind_some (guard_yes e hc)];rfl
   have e2 : bindP p (fun x=>pureP (f x)) l = some (f x,r):=by rw [bind_some e];rfl
   unfold guardP
   show (match bindP (guardP c p) (fun x=>pureP (f x)) l with | some (x,r)=>_ | none=>_) = (match bindP p (fun x=>pureP (f x)) l with | some (x,r)=>_ | none=>_)
   rw [e1,e2]
theorem tail_kind (k : Int) (l : List UInt8) (r r2 : List UInt8) (m : Mg) (e : numI 1 l = some (k,r)) (h : mgF l = some (m,r2)) : 1≤k∧k≤15:=by
 have hf:=(formMg_iff m).1 (guard_good h)
 have h1:=snd_mg l m r2 h
 have h2 : numI 1 (mgB m ++ r2) = numI 1 l:=by rw [h1]
 unfold mgB at h2
 rw [List.append_assoc,back_numI _ 1 _ (by have:=hf.kind.1;omega) (by have:=hf.kind;omega),e] at h2
 injection h2 with h2;injection h2 with h3 _
 rw [← h3];exact hf.kind
theorem rd_mg : guardP formMg rdQ = mgF:=by
 funext l
 cases e : numI 1 l with
 | none =>
  have h1 : rdQ l = none:=bind_none e
  have h2 : mgP l = none:=bind_none e
  unfold mgF
  rw [guard_none h1,guard_none h2]
 | some y =>
  obtain ⟨k,r⟩:=y
  by_cases hk : 1≤k∧k≤15
  ·have g1 : guardP formMg rdQ l = guardP formMg (fldsP (lets (letters k)) (zM k)) r:=by
    unfold rdQ
    rw [guard_bind,bind_some e]
   have g2 : mgF l = guardP formMg (tailP k) r:=by
    unfold mgF
    rw [mgP_tail,guard_bind,bind_some e]
   rw [g1,g2]
   rcases kind_cases hk with kk | kk | kk | kk | kk | kk | kk | kk | kk | kk | kk | kk | kk | kk | kk
   ·subst kk;rw [show lets (letters 1) = [98] from rfl,tail_1]
   ·subst kk;rw [show lets (letters 2) = [98,115,104] from rfl,tail_2]
   ·subst kk;rw [show lets (letters 3) = [98] from rfl,tail_3]
   ·subst kk;rw [show lets (letters 4) = [98,115,99] from rfl,tail_4]
   ·subst kk;rw [show lets (letters 5) = [98,115] from rfl,tail_5]
   ·subst kk;rw [show lets (letters 6) = [115,99] from rfl,tail_6]
   ·subst kk;rw [show lets (letters 7) = [115] from rfl,tail_7]
   ·subst kk;rw [show lets (letters 8) = [116] from rfl,tail_8]
   ·subst kk;rw [show lets (letters 9) = [105,103,112] from rfl,tail_9]
   ·subst kk;rw [show lets (letters 10) = [105,103,121] from rfl,tail_10]
   ·subst kk;rw [show lets (letters 11) = [105,103,112,121] from rfl,tail_11]
   ·subst kk;rw [show lets (letters 12) = [112,110,107] from rfl,tail_12]
   ·subst kk;rw [show lets (letters 13) = [103,112,110,107,118,120,101] from rfl,tail_13]
   ·subst kk;rw [show lets (letters 14) = [110] from rfl,tail_14]
   ·subst kk;rw [show lets (letters 15) = [115,100] from rfl,tail_15,tail_15b,guard_bind,guard_bind]
    congr 1;funext n
    exact guard_in (c:=fun d : List UInt8=>decide (d.length≤59900)) fun d hd=>decide_eq_true (show d.length≤59900 from ((formMg_iff _).1 hd).data.1)
  ·have h1 : guardP formMg rdQ l = none:=by
    refine guard_bad (x:=zM k) (r:=r) ?_ ?_
    ·unfold rdQ
     rw [bind_some e,letters_none hk];rfl
    ·cases hg : formMg (zM k)
     ·rfl
     ·exact absurd ((formMg_iff _).1 hg).kind hk
   rw [h1]
   cases e2 : mgF l with
   | none=>rfl
   | some y=>exact absurd (tail_kind k l r y.2 y.1 e e2) hk
/-- What an end of reading tells. -/
theorem rd_yes {l : List UInt8} {m : Mg} {st : St} (h : Res rdQ (some l) m st) (hs : st = some []) (hf : formMg m = true) : mgF l = some (m,[]):=by
 rcases h with ⟨l',r,e,hp,e2⟩ | ⟨_,e⟩
 ·injection e with e;subst e
  rw [hs] at e2;injection e2 with e2;subst e2
  rw [← rd_mg];exact guard_yes hp hf
 ·rw [hs] at e;cases e
theorem rd_no {l : List UInt8} {m : Mg} {st : St} (h : Res rdQ (some l) m st) (hs : ¬ st = some []∨formMg m = false) : ∀ n,mgF l≠some (n,[]):=by
 intro n hn
 rw [← rd_mg] at hn
 rcases h with ⟨l',r,e,hp,e2⟩ | ⟨h1,e⟩
 ·injection e with e;subst e
  have hg:=guard_good hn
  unfold guardP at hn
  rw [hp] at hn
  simp only at hn
  split at hn
  ·rename_i hc
   injection hn with hn;injection hn with h3 h4
   rcases hs with hs | hs
   ·exact hs (by rw [e2,h4])
   ·rw [hs] at hc;cases hc
  ·cases hn
 ·rw [guard_none (h1 l rfl)] at hn;cases hn
/-- A message that has been read to the end; or none. -/
def ReadR (w : World) (l : List UInt8) (e : Ending) (w' : World) : Prop :=
 ((∃ x L,e = .returned (.tuple #[.agg (mgV x),.int .i64 0])∧MgAt w' x L∧MgF x∧mgF l = some (mgT x L,[]))∨(e = .returned (.tuple #[.agg (mgV (zeroG 0)),.int .i64 2])∧∀ m,mgF l≠some (m,[])))∧Below w.heap.size w w'
theorem endS_any (g : Nat) (st : St) (W : World) (h : RS g st W) :
  Calls Tryz.prog 14 #[.pointer (some ⟨g,0,none⟩)] W fun e w'=>e = .returned (.bool (decide (st = some [])))∧W = w':=by
 cases st with
 | none =>
  have h1:=end_any g [] false W h
  simpa using h1
 | some l =>
  have h1:=end_any g l true W h
  cases l with
  | nil=>simpa using h1
  | cons a r=>simpa using h1
instance (c : Nat) : Decidable (IsList c):=by unfold IsList;infer_instance
theorem letters_last (k : Int) : ∀ i,i < (lets (letters k)).length→(∀ c ∈ (lets (letters k)).take i, ¬ IsList c)∧(IsList ((lets (letters k)).getD i 0)→∀ c ∈ (lets (letters k)).take i,c≠107∧c≠120):=by
 by_cases h : 1≤k∧k≤15
 ·rcases kind_cases h with rfl | rfl | rfl | rfl | rfl | rfl | rfl | rfl | rfl | rfl | rfl | rfl | rfl | rfl | rfl <;> decide
 ·rw [letters_none h];intro i hi;exact absurd hi (Nat.not_lt_zero _)
theorem results_mg {fn : Func} {p u : Tmp} (h : fn.results = #[.cell p 40,.tmp u]) (tmps : Array Value) (w : World) (g : Nat) (x : MgM) (hp : tmps.getD p undef = .pointer (some ⟨g,0,none⟩)) (hb : BoxC w g (mgV x) 40) :
  (results fn tmps).run Tryz.prog w = .ok (.tuple #[.agg (mgV x),tmps.getD u undef]) w:=by
 rw [results_cell_tmp h,hp]
 have h1:=run_loadVar_row w g 40 40 (mgV x) (0,0) _ hb Tryz.underlying40 rfl (by kernel_rfl)
 show ((loadVar 40 ⟨g,0,none⟩).run Tryz.prog w).andThen _ = _
 rw [h1];rfl
theorem RdB.below {w V W W' : World} {g G : Nat} {st : St} {cs : Array Value} (h : RdB w V g G st cs W) (hb : Below W.heap.size W W') : RdB w W' g G st cs W' :=
 ⟨h.rd.below hb,h.bx.below hb,h.bel.trans (hb.mono h.bel.size),h.ge,h.lt,Nat.le_refl _,fun _ _ _ _=>rfl⟩
theorem RowAt.fill_far {W : World} {G : Nat} {cs ds : Array Value} {t : TypeId} {B n k : Nat} {a : Option Addr} {xs : List Value} (h : RowAt W B a n k xs) (hs : n≠0→∃ z,xs[0]? = some (.string z)∧z≠⟨#[]⟩) (hb : BoxC W G cs t) (hn : Mute cs) : RowAt (W.setRow G ds) B a n k xs:=by
 rcases h with ⟨hl,h | ⟨b,off,ha,hb',hc⟩⟩
 ·exact ⟨hl,.inl h⟩
 ·by_cases h0 : n = 0
  ·exact ⟨hl,.inl h0⟩
  ·obtain ⟨z,hz,hz2⟩:=hs h0
   have h1:=hc 0 _ hz
   have hne : b≠G:=by
    rintro rfl
    rw [cell_of_row _ _ _ _ _ _ hb] at h1
    exact hz2 (hn _ _ h1)
   exact ⟨hl,.inr ⟨b,off,ha,hb',fun j v hv=>(World.cell?_of_block (setRow_other W G b ds hne)).trans (hc j v hv)⟩⟩
theorem TxAt.fill_far {W : World} {G : Nat} {cs ds : Array Value} {t : TypeId} {a b : Option Addr} {n m : Nat} {rs : List RdM} {ws : List WrM} (h : TxAt W a n b m rs ws) (hb : BoxC W G cs t) (hn : Mute cs) (hf : Fst rs ws) : TxAt (W.setRow G ds) a n b m rs ws:=by
 have e : (W.setRow G ds).heap.size = W.heap.size:=setRow_size _ _ _
 refine ⟨⟨⟨h.lenR,?_⟩,⟨h.lenW,?_⟩⟩,h.okR,h.okW⟩
 ·rw [e]
  refine h.rds.2.fill_far (fun h0=>?_) hb hn
  have h1:=h.lenR
  have h2:=hf.1
  match rs with
  | []=>exact absurd h1.symm h0
  | x :: r=>exact ⟨x.1,rfl,h2 x (List.mem_cons_self ..)⟩
 ·rw [e]
  refine h.wrs.2.fill_far (fun h0=>?_) hb hn
  have h1:=h.lenW
  have h2:=hf.2
  match ws with
  | []=>exact absurd h1.symm h0
  | x :: r=>exact ⟨x.key,rfl,h2 x (List.mem_cons_self ..)⟩
theorem BAt.fill_far {W : World} {G : Nat} {cs ds : Array Value} {t : TypeId} {B n : Nat} {a : Option Addr} {l : List UInt8} (h : BAt W B a n l) (hb : BoxC W G cs t) (hn : ∀ (i : Nat) (z : Int),cs[i]?≠some (.int .u8 z)) : BAt (W.setRow G ds) B a n l:=by
 rcases h with ⟨hl,h | ⟨b,off,ha,hb',hc⟩⟩
 ·exact ⟨hl,.inl h⟩
 ·by_cases h0 : n = 0
  ·exact ⟨hl,.inl h0⟩
  ·have h1:=hc 0 (by omega)
   have hne : b≠G:=by
    rintro rfl
    rw [cell_of_row _ _ _ _ _ _ hb] at h1
    exact hn _ _ h1
   exact ⟨hl,.inr ⟨b,off,ha,hb',fun j hj=>(World.cell?_of_block (setRow_other W G b ds hne)).trans (hc j hj)⟩⟩
theorem fst_form {x : CmM} {rs : List RdM} {ws : List WrM} (h : formCm (cmT x rs ws) = true∨cmT x rs ws = zeroC) : Fst rs ws:=by
 have hz : cmT x rs ws = zeroC→Fst rs ws:=fun e=>by
  unfold cmT zeroC at e
  injection e with e1 e2
  exact fst_zero e2
 rcases h with h | h
 ·rcases form_kinds h with e | ⟨e,_⟩ | ⟨_,e⟩ | ⟨_,e⟩
  ·exact hz e
  ·exact fst_txn e
  ·have e2:=congrArg Cm.t e
   exact fst_zero e2
  ·have e2:=congrArg Cm.t e
   exact fst_zero e2
 ·exact hz h
/-- A formed message's lists don't lie in a box of zeros. -/
theorem MgAt.fill_far {W : World} {G : Nat} {ds : Array Value} {x : MgM} {L : MgL} (h : MgAt W x L) (hb : BoxC W G (mgV (zeroG 0)) 40) (hf : FormMg (mgT x L)) : MgAt (W.setRow G ds) x L:=by
 have hm:=mute_mg (zeroG 0) rfl rfl
 have f1 : Fst L.rs L.ws:=fst_form (x:=x.cm) (by
  cases e : ((mgT x L).has || uCmd (mgT x L).k)
  ·exact .inr (hf.cm0 e)
  ·exact .inl (hf.cm e))
 have f2 : Fst L.rt L.wt:=by
  cases e : uTxn (mgT x L).k
  ·exact fst_zero (hf.tx0 e)
  ·exact fst_txn (hf.tx e)
 refine ⟨⟨h.cm.tx.fill_far hb hm f1,h.cm.st⟩,h.tx.fill_far hb hm f2,?_,h.nb⟩
 rw [setRow_size]
 exact h.da.fill_far hb (no_u8 _)
/-- Where the loop stands. -/
structure LpR (w : World) (R g G j : Nat) (k : Int) (st1 : St) (s : ByteArray) (pos : Nat) (W : World) (x : MgM) (L : MgL) (st : St) : Prop where
 rb : RdB w W g G st (mgV x) W
 at_ : MgAt W x L
 f : MgF x
 res : Res (fldsP ((lets s).take pos) (zM k)) st1 (mgT x L) st
 bare : (∀ c ∈ (lets s).take pos, ¬ IsList c)→Bare x∧L = noL
 key : (∀ c ∈ (lets s).take pos,c≠107)→x.key = ⟨#[]⟩
 vt : (∀ c ∈ (lets s).take pos,c≠120)→x.vt = ⟨#[]⟩
 it : W.heap[j]? = some (.stringIter s pos)
 lt : G < j
 rx : BoxC W R (mgV (zeroG 0)) 40
 rl : R < g∧w.heap.size≤R
theorem LpR.next {w W : World} {R g G j pos : Nat} {k : Int} {st1 st : St} {s : ByteArray} {x : MgM} {L : MgL} (h : LpR w R g G j k st1 s pos W x L st) : RdB w (W.iterAt j s (pos + 1)) g G st (mgV x) (W.iterAt j s (pos + 1))∧(W.iterAt j s (pos + 1)).heap[j]? = some (.stringIter s (pos + 1))∧BoxC (W.iterAt j s (pos + 1)) R (mgV (zeroG 0)) 40:=by
 have h1:=h.lt
 have h2:=h.rb.lt
 have h3:=h.rb.ge
 have h4:=h.rl.1
 exact ⟨⟨Keep.keep (g:=g) W _ h.rb.rd fun b hb=>Lib.iterAt_other _ _ _ _ _ (by omega),(Lib.iterAt_other _ _ _ _ _ (by omega)).trans h.rb.bx,Lib.below_iterAt h.rb.bel (by omega) s _,h3,h2,Nat.le_refl _,fun _ _ _ _=>rfl⟩,Lib.iterAt_heap _ _ _ _ _ h.it,(Lib.iterAt_other _ _ _ _ _ (by omega)).trans h.rx⟩
set_option maxHeartbeats 8000000 in
theorem gRead_any (a : Option Addr) (m c : Nat) (l : List UInt8) (w : World) (hl : BAt w w.heap.size a m l) (hlen : m≤1099511627776) (hU : Tabs w) :
  Calls Tryz.prog 5 #[.slice a m c] w (ReadR w l):=by
 have H0:=hid ((Boxs.start w).more (zeroGV 0) 40)
 have b0 : Below w.heap.size w (w.alloc (.cells (zeroGV 0) 40)):=H0.out.bel
 have s0 : (w.alloc (.cells (zeroGV 0) 40)).heap.size = w.heap.size + 1:=by simp
 have cN:=new_any a m c l (w.alloc (.cells (zeroGV 0) 40)) ((hl.below b0 (Nat.le_refl _)).more b0.size) hlen
 have U0:=hid hU
 clear hl hU
 go_enter Tryz.func5,Tryz.ntmps5
 go_upto_region 2 with (go_at_call 10;((with_reducible refine cN.mono ?_);rintro e w1 ⟨g,rfl,hr1,hge1,hlt1,hb1⟩;rw [s0] at hge1;have H1:=hid (H0.out.below hb1);have D1 : Hid (RS g (some l) w1):=hr1;have GE:=hid hge1;have GL:=hid hlt1;clear hr1 hge1 hlt1 hb1))
 have BX1 : Hid (BoxC w1 w.heap.size (mgV (zeroG 0)) 40):=H1.out.get 0 _ _ _ rfl
 have BL1 : Hid (Below w.heap.size w w1):=H1.out.bel
 clear H0 b0 s0 cN H1
 have cT : Calls Tryz.prog 11 #[.pointer (some ⟨g,0,none⟩),.int .i64 1] w1 (Took1 (RS g) g numV (numP 1) 0 (some l) w1):=takeS_any g 1 (some l) w1 D1.out (by omega)
 go_upto_region 3 with (first | (go_at_call 11;((with_reducible refine cT.mono ?_);rintro e w2 ⟨k,st1,rfl,hr2,ho2,hR2,hz2⟩;have D2:=hid hr2;have O2:=hid ho2;have R2:=hid hR2;have hk : k < 256:=num_lt hR2 hz2 (by decide);have ek:=wrap_i64 k (by omega);have HZ : Hid (BoxC (w2.alloc (.cells (zeroGV 0) 40)) w2.heap.size (mgV (zeroG 0)) 40):=BoxC.new w2 (zeroGV 0) 40;clear hr2 ho2 hR2 hz2)) | (refine wpList_store_box rfl _ _ rfl w2.heap.size (zeroG ((k : Nat) : Int)) rfl rfl (zeroG 0) HZ.out ?_))
 have g2 : g < w2.heap.size:=D2.out.lt
 have R4 : Hid (RdB w ((w2.alloc (.cells (zeroGV 0) 40)).setRow w2.heap.size (mgV (zeroG ((k : Nat) : Int)))) g w2.heap.size st1 (mgV (zeroG ((k : Nat) : Int))) ((w2.alloc (.cells (zeroGV 0) 40)).setRow w2.heap.size (mgV (zeroG ((k : Nat) : Int))))∧BoxC ((w2.alloc (.cells (zeroGV 0) 40)).setRow w2.heap.size (mgV (zeroG ((k : Nat) : Int)))) w.heap.size (mgV (zeroG 0)) 40∧w2.heap.size < ((w2.alloc (.cells (zeroGV 0) 40)).setRow w2.heap.size (mgV (zeroG ((k : Nat) : Int)))).heap.size):=by
  have hge:=GE.out
  have b2 : Below w.heap.size w w2:=Only.below BL1.out O2.out (by omega) BL1.out.size
  have x2 : BoxC w2 w.heap.size (mgV (zeroG 0)) 40:=BX1.out.only O2.out (by omega)
  have z2:=x2.lt
  have bA : Below w2.heap.size w2 (w2.alloc (.cells (zeroGV 0) 40)):=(Below.refl _ _).alloc (Nat.le_refl _) _
  have oF:=only_fill (w2.alloc (.cells (zeroGV 0) 40)) w2.heap.size (mgV (zeroG ((k : Nat) : Int)))
  have bF : Below w2.heap.size w2 ((w2.alloc (.cells (zeroGV 0) 40)).setRow w2.heap.size (mgV (zeroG ((k : Nat) : Int)))):=Only.below bA oF (Nat.le_refl _) bA.size
  exact ⟨⟨D2.out.below bF,HZ.out.fill _,b2.trans (bF.mono b2.size),by omega,g2,Nat.le_refl _,fun _ _ _ _=>rfl⟩,x2.below bF,by have:=HZ.out.lt;have:=oF.size;omega⟩
 have GG : Hid (g < w2.heap.size):=g2
 clear g2 D1 BX1 BL1 D2 O2 cT HZ ek GL
 generalize (w2.alloc (.cells (zeroGV 0) 40)).setRow w2.heap.size (mgV (zeroG ((k : Nat) : Int))) = W4 at *
 generalize w2.heap.size = G at *
 have x0 : W4.cell? ⟨G,0,none⟩ = some (.int .i64 ((k : Nat) : Int)):=R4.out.1.bx.cell 0 _ rfl
 have LA:=hid (letters_all ((k : Nat) : Int)).1
 have LL:=hid (letters_last ((k : Nat) : Int))
 have LS:=hid (lets_len (letters ((k : Nat) : Int)))
 have QQ : Hid (∀ mm st,Res (fldsP (lets (letters ((k : Nat) : Int))) (zM ((k : Nat) : Int))) st1 mm st→Res rdQ (some l) mm st):=fun mm st h=>Res.bind (x:=((k : Nat) : Int)) (res_numI R2.out) h
 have cL:=fun W=>fields_any ((k : Nat) : Int) W
 clear R2
 generalize letters ((k : Nat) : Int) = s at *
 have R0 : Hid (LpR w w.heap.size g G W4.heap.size ((k : Nat) : Int) st1 s 0 (W4.iter s 0) (zeroG ((k : Nat) : Int)) noL st1):=by
  have bI : Below W4.heap.size W4 (W4.iter s 0):=(Below.refl _ _).alloc (Nat.le_refl _) _
  have hge:=GE.out
  exact { rb:=R4.out.1.below bI,at_:=MgAt.zero _,f:=zeroF _,res:=Res.pure _ _,bare:=fun _=>⟨⟨rfl,⟨rfl,rfl,rfl,rfl⟩,rfl⟩,rfl⟩,key:=fun _=>rfl,vt:=fun _=>rfl,it:=World.iter_heap W4 s 0,lt:=R4.out.2.2,rx:=R4.out.2.1.below bI,rl:=⟨by omega,Nat.le_refl _⟩ }
 go_upto_region 4 with (go_at_call 12;((with_reducible refine (cL _).mono ?_);rintro e w3 ⟨rfl,rfl⟩))
 clear R4 x0 cL
 generalize W4.iter s 0 = W0 at *
 generalize W4.heap.size = j at *
 go_loopw [7] (fun v wr => ∃ pos x L st,pos≤s.size∧LpR w w.heap.size g G j ((k : Nat) : Int) st1 s pos wr x L st) (fun _ wr=>s.size - wr.iterPos j)
 case atStart=>exact ⟨0,zeroG ((k : Nat) : Int),noL,st1,Nat.zero_le _,R0.out⟩
 case round =>
  obtain ⟨pos,x,L,st,hps,hR⟩:=hrel
  have R1:=hid hR
  have I1:=hid hR.it
  clear hR R0
  by_cases hlt : pos < s.size
  ·have hlp : pos < (lets s).length:=by rw [LS.out];exact hlt
   have hg:=lets_get s pos hlt
   have hLc : IsLet (s[pos]'hlt).toNat:=by rw [← hg];exact LA.out _ (List.getElem_mem hlp)
   have hnx : ∀ ty,(Instr.next (.pointer (some ⟨j,0,none⟩)) true ty).run Tryz.prog wr = .ok (.tuple #[.bool true,.int .i64 pos,.int .i32 (s[pos]'hlt).toNat]) (wr.iterAt j s (pos + 1)):=fun ty=>Lib.run_next_ascii_at wr _ s pos ty I1.out hlt (by rcases hLc with e | e | e | e | e | e | e | e | e | e | e | e | e | e | e <;> rw [e] <;> decide)
   have N1:=hid R1.out.next
   obtain ⟨hB1,rfl⟩:=R1.out.bare (LL.out pos hlp).1
   have NB:=hid R1.out.at_.nb
   have BB:=hid hB1
   have GD : (lets s).getD pos 0 = (s[pos]'hlt).toNat:=by rw [List.getD_eq_getElem?_getD,List.getElem?_eq_getElem hlp];exact hg
   have KV : Hid (IsList (s[pos]'hlt).toNat→x.key = ⟨#[]⟩∧x.vt = ⟨#[]⟩):=fun hq=>by
    have h1:=(LL.out pos hlp).2 (by rw [GD];exact hq)
    exact ⟨R1.out.key fun c hc=>(h1 c hc).1,R1.out.vt fun c hc=>(h1 c hc).2⟩
   have TK : Hid ((lets s).take (pos + 1) = (lets s).take pos ++ [(s[pos]'hlt).toNat]):=by unfold Hid;rw [List.take_succ_eq_append_getElem hlp,hg]
   have LC:=hid hLc
   clear GD hg hLc hlp hB1
   generalize (s[pos]'hlt).toNat = q at *
   obtain ⟨W1,hW1⟩ : ∃ W1,wr.iterAt j s (pos + 1) = W1:=⟨_,rfl⟩
   rw [hW1] at hnx N1
   clear hW1
   have cQ:=field_any w W1 g G st x N1.out.1 BB.out NB.out U0.out q LC.out KV.out
   have JL : Hid (j < W1.heap.size):=lt_of_heap N1.out.2.1
   go_wp2_with (go_at_call 13;((with_reducible refine cQ.mono ?_);rintro e w2 ⟨y,L2,st2,rfl,hB,hM,hF,hR2,hk2,hb2,h7,h20⟩;have B2:=hid hB;have M2:=hid hM;have F2:=hid hF;have Q2:=hid hR2;have C2:=hid hb2;have K7:=hid h7;have K20:=hid h20;clear hB hM hF hR2 hk2 hb2 h7 h20))
   have R3 : Hid (LpR w w.heap.size g G j ((k : Nat) : Int) st1 s (pos + 1) w2 y L2 st2):=by
    have hl:=R1.out.lt
    have hl2:=R1.out.rb.lt
    have hl3:=R1.out.rl
    have hjl:=JL.out
    refine { rb:=B2.out.base,at_:=M2.out,f:=F2.out,res:=?_,bare:=fun h=>C2.out (h q ?_),key:=fun h=>(K7.out (h q ?_)).trans (R1.out.key fun c hc=>h c ?_),vt:=fun h=>(K20.out (h q ?_)).trans (R1.out.vt fun c hc=>h c ?_),it:=(B2.out.els.2 j hjl (by omega) (by omega)).trans N1.out.2.1,lt:=hl,rx:=(B2.out.els.2 _ (by omega) (by omega) (by omega)).trans N1.out.2.2,rl:=hl3 }
    ·rw [TK.out,flds_snoc];exact Res.bind R1.out.res Q2.out
    ·rw [TK.out];exact List.mem_append_right _ (List.mem_singleton.2 rfl)
    ·rw [TK.out];exact List.mem_append_right _ (List.mem_singleton.2 rfl)
    ·rw [TK.out];exact List.mem_append_left _ hc
    ·rw [TK.out];exact List.mem_append_right _ (List.mem_singleton.2 rfl)
    ·rw [TK.out];exact List.mem_append_left _ hc
   have I3:=R3.out.it
   go_roundw
   case rel=>exact ⟨pos + 1,y,L2,st2,by omega,R3.out⟩
   case measure=>simp only [World.iterPos,I3,I1.out];omega
  ·have hnx : ∀ ty,(Instr.next (.pointer (some ⟨j,0,none⟩)) true ty).run Tryz.prog wr = .ok (.tuple #[.bool false]) wr:=fun ty=>Lib.run_next_end_at wr _ s pos ty I1.out hlt
   obtain rfl : pos = s.size:=by omega
   have ht : (lets s).take s.size = lets s:=List.take_of_length_le (by rw [LS.out];exact Nat.le_refl _)
   have QX : Hid (Res rdQ (some l) (mgT x L) st):=QQ.out _ _ (by have:=R1.out.res;rw [ht] at this;exact this)
   have cE:=endS_any g st wr R1.out.rb.rd
   have lG:=R1.out.rb.bx.ldG
   have cF:=gFormed_any x L wr R1.out.at_ R1.out.f (R1.out.rb.tabs U0.out)
   have RX:=hid R1.out.rx
   have BW:=hid R1.out.rb.bel
   have MA:=hid R1.out.at_
   have MF:=hid R1.out.f
   have BX:=hid R1.out.rb.bx
   have RG : Hid (w.heap.size < g):=R1.out.rl.1
   clear ht QQ LA LL LS hlt I1 hps R1
   by_cases hs : st = some []
   ·rw [decide_eq_true hs] at cE
    cases hform : formMg (mgT x L)
    ·rw [hform] at cF
     have NO:=hid (rd_no QX.out (.inr hform))
     clear hform hs QX
     go_wp2_with (first | (go_at_call 14;((with_reducible refine cE.mono ?_);rintro e w' ⟨rfl,rfl⟩)) | (go_at_call 9;((with_reducible refine cF.mono ?_);rintro e w5 ⟨rfl,hb5⟩;have RX5:=hid (RX.out.below hb5);have B5:=hid (BW.out.trans (hb5.mono BW.out.size));clear hb5)) | (refine wpList_store_box rfl _ _ rfl w.heap.size (zeroG 0) rfl rfl (zeroG 0) RX5.out ?_))
     exact bodyPost_ret (v:=.tuple #[.agg (mgV (zeroG 0)),.int .i64 2]) (results_mg Tryz.results5 _ _ w.heap.size (zeroG 0) rfl (RX5.out.fill _)) rfl ⟨.inr ⟨rfl,NO.out⟩,Only.below B5.out (only_fill _ _ _) (Nat.le_refl _) B5.out.size⟩
    ·rw [hform] at cF
     have YES:=hid (rd_yes QX.out hs hform)
     have FM:=hid ((formMg_iff _).1 hform)
     clear hform hs QX
     go_wp2_with (first | (go_at_call 14;((with_reducible refine cE.mono ?_);rintro e w' ⟨rfl,rfl⟩)) | (go_at_call 9;((with_reducible refine cF.mono ?_);rintro e w5 ⟨rfl,hb5⟩;have RX5:=hid (RX.out.below hb5);have M5:=hid (MA.out.later hb5);have l5:=(BX.out.below hb5).ldG;have B5:=hid (BW.out.trans (hb5.mono BW.out.size));clear hb5)) | (refine wpList_store_box rfl _ _ rfl w.heap.size x rfl rfl (zeroG 0) RX5.out ?_))
     exact bodyPost_ret (v:=.tuple #[.agg (mgV x),.int .i64 0]) (results_mg Tryz.results5 _ _ w.heap.size x rfl (RX5.out.fill _)) rfl ⟨.inl ⟨x,L,rfl,M5.out.fill_far RX5.out FM.out,MF.out,YES.out⟩,Only.below B5.out (only_fill _ _ _) (Nat.le_refl _) B5.out.size⟩
   ·rw [decide_eq_false hs] at cE
    have NO:=hid (rd_no QX.out (.inl hs))
    clear hs QX cF
    go_wp2_with (first | (go_at_call 14;((with_reducible refine cE.mono ?_);rintro e w' ⟨rfl,rfl⟩)) | (refine wpList_store_box rfl _ _ rfl w.heap.size (zeroG 0) rfl rfl (zeroG 0) RX.out ?_))
    exact bodyPost_ret (v:=.tuple #[.agg (mgV (zeroG 0)),.int .i64 2]) (results_mg Tryz.results5 _ _ w.heap.size (zeroG 0) rfl (RX.out.fill _)) rfl ⟨.inr ⟨rfl,NO.out⟩,Only.below BW.out (only_fill _ _ _) (Nat.le_refl _) BW.out.size⟩
end Go.Proofs.YtigimmbdlhginaaGreatDoor
