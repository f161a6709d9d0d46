/- Plain mathematics of reading transactions: what is put is taken. No condition. Plain mathematics of layer command: the bytes of commands; what is put is taken, no beginning of a command's bytes is one's. Plain mathematics: what is read was put: the bytes that a value is read of are its own, and what is left. Plain mathematics of layer ballot: the order of ballots, the last one of many, the next one, a ballot's bytes. -/
import Derived.Test.YtcfmifongbapkaaGreatDoorRF
import Derived.Test.YtcfmifongbapkaaGreatDoorRE
import Derived.Test.YtcfmifongbapkaaGreatDoorRH
import Derived.Test.YtcfmifongbapkaaGreatDoorRA
namespace Go.Proofs.YtcfmifongbapkaaGreatDoor
open Go.RowKit
set_option linter.unusedVariables false
theorem idBytes_len (x : IdN) : (idBytes x).length = 5:=by simp [idBytes,putB_len]
theorem textB_le (l : List UInt8) : (textB l).length≤65537:=by rw [textB_len];omega
/-- An id that is one. -/
def idQ : Prs IdN:=guardP idB idP
/-- How a transaction is read. -/
noncomputable def txnQ : Prs (Tx Val):=bindP idQ fun i=>bindP (listP readP) fun rs=>bindP (listP (writeP valP)) fun ws=>pureP ⟨i,rs,ws⟩
noncomputable def txnF : Prs (Tx Val):=guardP (formT formedB) txnQ
theorem res_txn {st st1 st2 st3 : St} {i : IdN} {rs : List RdM} {ws : List WrM} (h1 : Res idQ st i st1) (h2 : Res (listP readP) st1 (txR rs) st2) (h3 : Res (listP (writeP valP)) st2 (txW ws) st3) : Res txnQ st (txT i rs ws) st3:=by
 unfold txnQ
 exact Res.bind (x:=i) h1 (Res.bind (x:=txR rs) h2 (Res.bind (x:=txW ws) h3 (Res.pure _ _)))
theorem back_list {α : Type} {p : Prs α} (enc : α→List UInt8) (good : α→Prop) (h : ∀ x R,good x→p (enc x ++ R) = some (x,R)) (xs : List α) (R : List UInt8) (hg : ∀ x ∈ xs,good x) (hn : xs.length < 256) : listP p (putB xs.length 1 ++ (xs.flatMap enc ++ R)) = some (xs,R):=by
 unfold listP
 rw [bind_some (back_num _ 1 _ (by omega))]
 exact back_rep enc good h xs R hg
theorem back_txnF (t : Tx Val) (R : List UInt8) (hf : formT formedB t = true) (hr : ∀ x ∈ t.rs,x.2 < 18446744073709551616) (hw : ∀ x ∈ t.ws,x.2.b < 18446744073709551616) : txnF (txnB bytesV t ++ R) = some (t,R):=by
 have hF:=(formT_iff _ _).1 hf
 have l1:=hF.rlen
 have l2:=hF.wlen
 refine guard_yes ?_ hf
 unfold txnQ txnB
 rw [List.append_assoc,bind_some (show idQ _ = some (t.id,_) from guard_yes (back_id _ _ hF.id) hF.id)]
 rw [List.append_assoc,List.append_assoc,bind_some (back_list readB (fun x=>x.1.length≤12∧x.2 < 18446744073709551616) back_read t.rs _ (fun x hx=>⟨key_len (List.all_eq_true.1 hF.rkeys x.1 (List.mem_map.2 ⟨x,hx,rfl⟩)),hr x hx⟩) (by omega))]
 rw [List.append_assoc,bind_some (back_list (writeB bytesV) (fun x=>x.1.length≤12∧(x.2.b < 18446744073709551616∧formedB x.2 = true)) (back_write back_val) t.ws _ (fun x hx=>⟨key_len (List.all_eq_true.1 hF.wkeys x.1 (List.mem_map.2 ⟨x,hx,rfl⟩)),hw x hx,List.all_eq_true.1 hF.vals x hx⟩) (by omega))]
 rfl
theorem flat_le {α : Type} (f : α→List UInt8) (B : Nat) (h : ∀ x,(f x).length≤B) (xs : List α) : (xs.flatMap f).length≤xs.length * B:=by
 induction xs with
 | nil=>simp
 | cons x r ih=>rw [List.flatMap_cons,List.length_append,List.length_cons,Nat.succ_mul];have:=h x;omega
theorem txnB_max (t : Tx Val) (h : formT formedB t = true) : (txnB bytesV t).length≤1179727:=by
 have hF:=(formT_iff _ _).1 h
 have l1:=hF.rlen
 have l2:=hF.wlen
 have h1:=flat_le readB 65545 (fun x=>by unfold readB;rw [List.length_append,putB_len];have:=textB_le x.1;omega) t.rs
 have h2:=flat_le (writeB bytesV) 131075 (fun x=>by unfold writeB;rw [List.length_append];have:=textB_le x.1;have:=bytesV_len x.2;omega) t.ws
 have h3 : t.rs.length * 65545≤6 * 65545:=Nat.mul_le_mul_right _ l1
 have h4 : t.ws.length * 131075≤6 * 131075:=Nat.mul_le_mul_right _ l2
 unfold txnB
 rw [List.length_append,List.length_append,List.length_append,List.length_append,idBytes_len,putB_len,putB_len]
 omega
/-- Its bytes. -/
def yesN (y : Bool) : Nat:=if y then 1 else 0
noncomputable def cmB (c : Cm) : List UInt8:=putB c.k.toNat 1 ++ (if c.k = 1 then txnB bytesV c.t else if c.k = 2 then idBytes c.id ++ (putB c.g.toNat 1 ++ putB c.st 8) else if c.k = 3 then idBytes c.id ++ (putB c.g.toNat 1 ++ putB (yesN c.y) 1) else [])
/-- How it is read. -/
def failP {α : Type} : Prs α:=fun _=>none
noncomputable def cmTail (k : Nat) : Prs Cm :=
 if k = 1 then bindP txnF fun t=>pureP ⟨1,t,(0,0),0,0,false⟩
 else if k = 2 then bindP idQ fun i=>bindP (numP 1) fun g=>bindP (numP 8) fun s=>pureP ⟨2,zeroT,i,(g : Int),s,false⟩
 else if k = 3 then bindP idQ fun i=>bindP (numP 1) fun g=>bindP (numP 1) fun y=>if y≤1 then pureP ⟨3,zeroT,i,(g : Int),0,decide (y = 1)⟩ else failP
 else pureP ⟨(k : Int),zeroT,(0,0),0,0,false⟩
noncomputable def cmP : Prs Cm:=bindP (numP 1) cmTail
noncomputable def cmF : Prs Cm:=guardP formCm cmP
/-- What is put is taken. -/
theorem back_cm (c : Cm) (R : List UInt8) (hf : formCm c = true) (ho : CmOk c) : cmF (cmB c ++ R) = some (c,R):=by
 refine guard_yes ?_ hf
 unfold cmP
 rcases form_kinds hf with e | ⟨h1,e⟩ | ⟨⟨h1,h2,h3,h4,h5⟩,e⟩ | ⟨⟨h1,h2,h3⟩,e⟩
 ·rw [e];show bindP (numP 1) cmTail (putB 0 1 ++ [] ++ R) = _
  rw [List.append_nil,bind_some (back_num 0 1 R (by decide))];rfl
 ·generalize c.t = t at *
  subst e
  show bindP (numP 1) cmTail (putB 1 1 ++ txnB bytesV t ++ R) = _
  rw [List.append_assoc,bind_some (back_num 1 1 _ (by decide))]
  show bindP txnF _ _ = _
  rw [bind_some (back_txnF t R h1 ho.1 ho.2.1)];rfl
 ·generalize c.id = i at *
  generalize c.g = g at *
  generalize c.st = s at *
  subst e
  show bindP (numP 1) cmTail (putB 2 1 ++ (idBytes i ++ (putB g.toNat 1 ++ putB s 8)) ++ R) = _
  rw [List.append_assoc,bind_some (back_num 2 1 _ (by decide))]
  show bindP idQ _ _ = _
  rw [List.append_assoc,bind_some (show idQ _ = some (i,_) from guard_yes (back_id _ _ h1) h1),List.append_assoc,bind_some (back_num _ 1 _ (by omega)),bind_some (back_num _ 8 _ (by omega))]
  have eg : ((g.toNat : Nat) : Int) = g:=by omega
  unfold pureP
  rw [eg]
 ·generalize c.id = i at *
  generalize c.g = g at *
  generalize c.y = y at *
  subst e
  show bindP (numP 1) cmTail (putB 3 1 ++ (idBytes i ++ (putB g.toNat 1 ++ putB (yesN y) 1)) ++ R) = _
  rw [List.append_assoc,bind_some (back_num 3 1 _ (by decide))]
  show bindP idQ _ _ = _
  have hy : yesN y < 256:=by cases y <;> decide
  rw [List.append_assoc,bind_some (show idQ _ = some (i,_) from guard_yes (back_id _ _ h1) h1),List.append_assoc,bind_some (back_num _ 1 _ (by omega)),bind_some (back_num _ 1 _ (by omega))]
  have eg : ((g.toNat : Nat) : Int) = g:=by omega
  have hy1 : yesN y≤1:=by cases y <;> decide
  rw [if_pos hy1]
  unfold pureP
  rw [eg]
  have e2 : decide (yesN y = 1) = y:=by cases y <;> rfl
  rw [e2]
/-- Commands in a row: their bytes, and where the first i end. -/
noncomputable def cmsB (l : List Cm) : List UInt8:=l.flatMap cmB
noncomputable def endC (l : List Cm) (i : Nat) : Nat:=(cmsB (l.take i)).length
theorem bind_assoc {α β γ : Type} (p : Prs α) (f : α→Prs β) (h : β→Prs γ) : bindP (bindP p f) h = bindP p fun x=>bindP (f x) h:=by
 funext l
 unfold bindP
 cases p l with
 | none=>rfl
 | some z=>rfl
theorem bind_pure_l {α β : Type} (x : α) (f : α→Prs β) : bindP (pureP x) f = f x:=rfl
/-- How a yes is read; how an id and a group are. -/
def yesP : Prs Bool:=bindP (numP 1) fun y=>if y≤1 then pureP (decide (y = 1)) else failP
def srcP : Prs (IdN×Nat):=bindP idQ fun i=>bindP (numP 1) fun g=>pureP (i,g)
theorem Res.fail {α : Type} (x : α) (st : St) : Res (failP : Prs α) st x none:=.no x fun l _=>rfl
theorem res_yes {st st1 : St} {y : Nat} (h : Res (numP 1) st y st1) (hy : y≤1) : Res yesP st (decide (y = 1)) st1:=by
 unfold yesP
 exact Res.bind (x:=y) h (by rw [if_pos hy];exact Res.pure _ _)
theorem res_yes_no {st st1 : St} {y : Nat} (h : Res (numP 1) st y st1) (hy : ¬ y≤1) (z : Bool) : Res yesP st z none:=by
 unfold yesP
 exact Res.bind (x:=y) h (by rw [if_neg hy];exact Res.fail _ _)
theorem res_src {st st1 st2 : St} {i : IdN} {g : Nat} (h1 : Res idQ st i st1) (h2 : Res (numP 1) st1 g st2) : Res srcP st (i,g) st2:=by
 unfold srcP
 exact Res.bind (x:=i) h1 (Res.bind (x:=g) h2 (Res.pure _ _))
/-- What p reads stands there as enc puts it. -/
def SndP {α : Type} (p : Prs α) (enc : α→List UInt8) : Prop := ∀ l x r,p l = some (x,r)→l = enc x ++ r
theorem byte_more (q z : Nat) : UInt8.ofNat (q * 256 + z) = UInt8.ofNat z:=by
 apply UInt8.toNat_inj.1
 rw [UInt8.toNat_ofNat',UInt8.toNat_ofNat']
 omega
theorem put_more (c x k : Nat) : ∀ m,putB (c * 256 ^ (k + m) + x) k = putB x k:=by
 induction k with
 | zero=>intro m;rfl
 | succ k ih =>
  intro m
  have h3 : 0 < 256 ^ k:=Nat.pow_pos (by omega)
  have e : c * 256 ^ (k + 1 + m) = (c * 256 ^ m * 256) * 256 ^ k:=by
   rw [Nat.pow_add,Nat.pow_succ];ac_rfl
  have e1 : (c * 256 ^ (k + 1 + m) + x) / 256 ^ k = c * 256 ^ m * 256 + x / 256 ^ k:=by
   rw [e,Nat.add_comm,Nat.add_mul_div_right _ _ h3,Nat.add_comm]
  have e2:=ih (m + 1)
  have e3 : k + (m + 1) = k + 1 + m:=by omega
  rw [e3] at e2
  rw [putB,putB,e1,byte_more,e2]
/-- The bytes of the number in bytes. -/
theorem put_num (l : List UInt8) : putB (numB l) l.length = l:=by
 induction l with
 | nil=>rfl
 | cons c r ih =>
  have h2:=numB_lt r
  have h3 : 0 < 256 ^ r.length:=Nat.pow_pos (by omega)
  have e1 : (c.toNat * 256 ^ r.length + numB r) / 256 ^ r.length = c.toNat:=by
   rw [Nat.add_comm,Nat.add_mul_div_right _ _ h3,Nat.div_eq_of_lt h2,Nat.zero_add]
  have e2:=put_more c.toNat (numB r) r.length 0
  rw [Nat.add_zero] at e2
  rw [List.length_cons,putB,numB_cons,e1,e2,ih,UInt8.ofNat_toNat]
theorem snd_num (k : Nat) : SndP (numP k) fun x=>putB x k:=by
 intro l x r h
 unfold numP at h
 split at h
 ·rename_i hk
  injection h with h;injection h with h1 h2
  subst h1;subst h2
  have e:=put_num (l.take k)
  rw [List.length_take,Nat.min_eq_left hk] at e
  show l = putB (numB (l.take k)) k ++ l.drop k
  rw [e,List.take_append_drop]
 ·cases h
theorem snd_text (lim : Nat) (hl : lim≤65535) : SndP (textP lim) textB:=by
 intro l x r h
 unfold textP at h
 split at h
 ·rename_i hk
  injection h with h;injection h with h1 h2
  obtain ⟨k1,k2,k3⟩:=hk
  have hx : x.length = textLen l:=by rw [← h1,List.length_take,List.length_drop];omega
  have e:=put_num (l.take 2)
  rw [List.length_take,Nat.min_eq_left k1] at e
  have ht : x.take 65535 = x:=List.take_of_length_le (by omega)
  have hm : min x.length 65535 = textLen l:=by omega
  rw [textB,ht,hm]
  show l = putB (numB (l.take 2)) 2 ++ x ++ r
  rw [e,← h1,← h2,List.append_assoc,List.take_append_drop,List.take_append_drop]
 ·cases h
theorem snd_id : SndP idQ idBytes:=by
 intro l x r h
 unfold idQ guardP at h
 split at h
 ·rename_i y r' e
  split at h
  ·injection h with h;injection h with h1 h2
   subst h1;subst h2
   obtain ⟨s,m,e1,e2⟩:=bind_inv e
   obtain ⟨q,m2,e3,e4⟩:=bind_inv e2
   injection e4 with e4;injection e4 with e5 e6
   subst e5;subst e6
   rw [snd_num 1 _ _ _ e1,snd_num 4 _ _ _ e3]
   unfold idBytes
   simp only [Int.toNat_natCast,List.append_assoc]
  ·cases h
 ·cases h
theorem snd_val : SndP valP bytesV:=by
 intro l x r h
 by_cases hk : tkOk l
 ·rw [valP_yes hk] at h
  injection h with h;injection h with h1 h2
  obtain ⟨k1,k2,k3,k4⟩:=hk
  match l,k1 with
  | c :: l',_ =>
   have eC : tkC (c :: l') = c.toNat:=tkC_cons c l'
   rw [h1] at k4
   by_cases c1 : tkC (c :: l') = 1
   ·have hc : c = 1:=UInt8.toNat_inj.1 (by rw [← eC,c1];rfl)
    have h8:=k2 c1
    rw [drop1_cons] at h8
    unfold tkV at h1
    unfold tkN at h2
    rw [if_pos c1,drop1_cons] at h1
    rw [if_pos c1,← List.drop_drop,drop1_cons] at h2
    have e:=put_num (l'.take 8)
    rw [List.length_take,Nat.min_eq_left h8] at e
    rw [← h1,← h2,hc]
    show 1 :: l' = (1 :: putB (numB (l'.take 8)) 8) ++ l'.drop 8
    rw [e,List.cons_append,List.take_append_drop]
   ·by_cases c2 : tkC (c :: l') = 2
    ·have hc : c = 2:=UInt8.toNat_inj.1 (by rw [← eC,c2];rfl)
     obtain ⟨t1,t2,t3⟩:=k3 c2
     rw [drop1_cons] at t1 t2 t3
     unfold tkV at h1
     unfold tkN at h2
     rw [if_neg c1,if_pos c2,drop1_cons] at h1
     rw [if_neg c1,if_pos c2,← List.drop_drop,← List.drop_drop,drop1_cons] at h2
     have e:=snd_text 40 (by omega) l' ((l'.drop 2).take (textLen l')) ((l'.drop 2).drop (textLen l')) (by unfold textP;rw [if_pos ⟨t1,t2,t3⟩])
     rw [← h1,← h2,hc]
     show 2 :: l' = (2 :: textB ((l'.drop 2).take (textLen l'))) ++ (l'.drop 2).drop (textLen l')
     rw [List.cons_append,← e]
    ·unfold tkV at h1
     unfold tkN at h2
     rw [if_neg c1,if_neg c2] at h1
     rw [if_neg c1,if_neg c2,drop1_cons] at h2
     have hz : tkC (c :: l') = 0:=by
      rw [← h1] at k4
      rcases formed_kinds k4 with e | e | e
      ·omega
      ·exact absurd (by omega) c1
      ·exact absurd (by omega) c2
     have hc : c = 0:=UInt8.toNat_inj.1 (by rw [← eC,hz];rfl)
     rw [← h1,← h2,hz,hc];rfl
 ·rw [valP_no hk] at h;cases h
theorem snd_read : SndP readP readB:=by
 intro l x r h
 obtain ⟨k,m,e1,e2⟩:=bind_inv h
 obtain ⟨v,m2,e3,e4⟩:=bind_inv e2
 injection e4 with e4;injection e4 with e5 e6
 subst e5;subst e6
 rw [snd_text 12 (by omega) _ _ _ e1,snd_num 8 _ _ _ e3]
 unfold readB
 rw [List.append_assoc]
theorem snd_write : SndP (writeP valP) (writeB bytesV):=by
 intro l x r h
 obtain ⟨k,m,e1,e2⟩:=bind_inv h
 obtain ⟨v,m2,e3,e4⟩:=bind_inv e2
 injection e4 with e4;injection e4 with e5 e6
 subst e5;subst e6
 rw [snd_text 12 (by omega) _ _ _ e1,snd_val _ _ _ e3]
 unfold writeB
 rw [List.append_assoc]
theorem snd_rep {α : Type} {p : Prs α} {enc : α→List UInt8} (hp : SndP p enc) : ∀ n l xs r,repP p n l = some (xs,r)→xs.length = n∧l = xs.flatMap enc ++ r
 | 0,l,xs,r,h=>by
  injection h with h;injection h with h1 h2
  subst h1;subst h2
  exact ⟨rfl,rfl⟩
 | n + 1,l,xs,r,h=>by
  obtain ⟨x,m,e1,e2⟩:=bind_inv h
  obtain ⟨ys,m2,e3,e4⟩:=bind_inv e2
  injection e4 with e4;injection e4 with e5 e6
  subst e5;subst e6
  obtain ⟨h1,h2⟩:=snd_rep hp n _ _ _ e3
  exact ⟨by rw [List.length_cons,h1],by rw [hp _ _ _ e1,h2,List.flatMap_cons,List.append_assoc]⟩
theorem snd_list {α : Type} {p : Prs α} {enc : α→List UInt8} (hp : SndP p enc) : SndP (listP p) fun xs=>putB xs.length 1 ++ xs.flatMap enc:=by
 intro l xs r h
 obtain ⟨n,m,e1,e2⟩:=bind_inv h
 obtain ⟨h1,h2⟩:=snd_rep hp n _ _ _ e2
 show l = putB xs.length 1 ++ xs.flatMap enc ++ r
 rw [snd_num 1 _ _ _ e1,h2,h1,List.append_assoc]
theorem snd_guard {α : Type} {p : Prs α} {enc : α→List UInt8} {c : α→Bool} (hp : SndP p enc) : SndP (guardP c p) enc:=by
 intro l x r h
 unfold guardP at h
 split at h
 ·rename_i y r' e
  split at h
  ·injection h with h;injection h with h1 h2
   subst h1;subst h2
   exact hp _ _ _ e
  ·cases h
 ·cases h
theorem guard_good {α : Type} {p : Prs α} {c : α→Bool} {l r : List UInt8} {x : α} (h : guardP c p l = some (x,r)) : c x = true:=by
 unfold guardP at h
 split at h
 ·split at h
  ·rename_i hc
   injection h with h;injection h with h1 h2
   subst h1;exact hc
  ·cases h
 ·cases h
theorem snd_txn : SndP txnF (txnB bytesV):=by
 refine snd_guard fun l x r h=>?_
 obtain ⟨i,m,e1,e2⟩:=bind_inv h
 obtain ⟨rs,m2,e3,e4⟩:=bind_inv e2
 obtain ⟨ws,m3,e5,e6⟩:=bind_inv e4
 injection e6 with e6;injection e6 with e7 e8
 subst e7;subst e8
 rw [snd_id _ _ _ e1,snd_list snd_read _ _ _ e3,snd_list snd_write _ _ _ e5]
 unfold txnB
 simp only [List.append_assoc]
theorem guard_val {α : Type} {p : Prs α} {c : α→Bool} {l r : List UInt8} {x : α} (h : guardP c p l = some (x,r)) : p l = some (x,r):=by
 unfold guardP at h
 split at h
 ·rename_i y r' e
  split at h
  ·injection h with h;injection h with h1 h2
   rw [e,h1,h2]
  ·cases h
 ·cases h
theorem yesN_of {y : Nat} (h : y≤1) : yesN (decide (y = 1)) = y:=by
 by_cases e : y = 1
 ·rw [decide_eq_true e,e];rfl
 ·rw [decide_eq_false e]
  show 0 = y
  omega
theorem snd_cm : SndP cmF cmB:=by
 intro l x r h
 have hf:=guard_good h
 obtain ⟨k,m,e1,e2⟩:=bind_inv (guard_val h)
 rw [snd_num 1 _ _ _ e1]
 unfold cmTail at e2
 split at e2
 ·rename_i hk
  subst hk
  obtain ⟨t,m2,e3,e4⟩:=bind_inv e2
  injection e4 with e4;injection e4 with e5 e6
  subst e5;subst e6
  rw [snd_txn _ _ _ e3]
  show putB 1 1 ++ (txnB bytesV t ++ _) = (putB 1 1 ++ txnB bytesV t) ++ _
  rw [List.append_assoc]
 ·split at e2
  ·rename_i hk
   subst hk
   obtain ⟨i,m2,e3,e4⟩:=bind_inv e2
   obtain ⟨g,m3,e5,e6⟩:=bind_inv e4
   obtain ⟨s,m4,e7,e8⟩:=bind_inv e6
   injection e8 with e8;injection e8 with e9 e10
   subst e9;subst e10
   rw [snd_id _ _ _ e3,snd_num 1 _ _ _ e5,snd_num 8 _ _ _ e7]
   show putB 2 1 ++ (idBytes i ++ (putB g 1 ++ (putB s 8 ++ _))) = (putB 2 1 ++ (idBytes i ++ (putB ((g : Int)).toNat 1 ++ putB s 8))) ++ _
   simp only [Int.toNat_natCast,List.append_assoc]
  ·split at e2
   ·rename_i hk
    subst hk
    obtain ⟨i,m2,e3,e4⟩:=bind_inv e2
    obtain ⟨g,m3,e5,e6⟩:=bind_inv e4
    obtain ⟨y,m4,e7,e8⟩:=bind_inv e6
    split at e8
    ·rename_i hy
     injection e8 with e8;injection e8 with e9 e10
     subst e9;subst e10
     rw [snd_id _ _ _ e3,snd_num 1 _ _ _ e5,snd_num 1 _ _ _ e7]
     show putB 3 1 ++ (idBytes i ++ (putB g 1 ++ (putB y 1 ++ _))) = (putB 3 1 ++ (idBytes i ++ (putB ((g : Int)).toNat 1 ++ putB (yesN (decide (y = 1))) 1))) ++ _
     rw [yesN_of hy]
     simp only [Int.toNat_natCast,List.append_assoc]
    ·cases e8
   ·rename_i n1 n2 n3
    injection e2 with e2;injection e2 with e3 e4
    subst e3;subst e4
    have hk : k = 0:=by
     rcases form_kinds hf with e | ⟨_,e⟩ | ⟨_,e⟩ | ⟨_,e⟩
     ·have:=congrArg Cm.k e;simp [zeroC] at this;omega
     ·have:=congrArg Cm.k e;simp at this;omega
     ·have:=congrArg Cm.k e;simp at this;omega
     ·have:=congrArg Cm.k e;simp at this;omega
    subst hk
    show putB 0 1 ++ _ = (putB 0 1 ++ []) ++ _
    rw [List.append_nil]
/-- A ballot: its round and its node. -/
abbrev Bal:=Int×Int
/-- Whether a lies ahead of b. -/
def lessB (a b : Bal) : Bool:=if a.1 = b.1 then decide (a.2 < b.2) else decide (a.1 < b.1)
def formB (n : Int) : Bool:=decide (0≤n) && decide (n < 5)
/-- The greater of two; the greatest of many, from a first one on. -/
def most2 (m b : Bal) : Bal:=if lessB m b then b else m
def mostF (x : Bal) (l : List Bal) : Bal:=l.foldl most2 x
def mostB : List Bal→Bal
 | []=>(0,0)
 | x :: l=>mostF x l
/-- What is next for node m: the ballot, and the error. -/
def nextB (a : Bal) (m : Int) : Bal×Int:=if formB m then (if a.1 = 4294967295 then ((0,0),7) else ((a.1 + 1,m),0)) else ((0,0),1)
/-- A ballot's bytes. -/
def balB (r : Nat) (n : Int) : List UInt8:=putB r 4 ++ [UInt8.ofNat (n % 256).toNat]
/-- The ballot that is next in bytes, and whether there is one. -/
def tkR (l : List UInt8) : Nat:=numB (l.take 4)
def tkNode (l : List UInt8) : Nat:=numB ((l.drop 4).take 1)
def balOk (l : List UInt8) : Prop:=5≤l.length∧tkNode l < 5
theorem tkR_lt (l : List UInt8) : tkR l < 4294967296:=by
 have h:=numB_lt (l.take 4)
 have h2 : 256 ^ (l.take 4).length≤256 ^ 4:=Nat.pow_le_pow_right (by omega) (by simp;omega)
 unfold tkR;omega
theorem tkNode_lt (l : List UInt8) : tkNode l < 256:=by
 have h:=numB_lt ((l.drop 4).take 1)
 have h2 : 256 ^ ((l.drop 4).take 1).length≤256 ^ 1:=Nat.pow_le_pow_right (by omega) (by simp;omega)
 unfold tkNode;omega
end Go.Proofs.YtcfmifongbapkaaGreatDoor
