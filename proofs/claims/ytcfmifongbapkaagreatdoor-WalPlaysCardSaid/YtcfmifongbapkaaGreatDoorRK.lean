/- Plain mathematics of layer wal: formed records, their bytes, what bytes are read as, what a disk's bytes tell. No condition. Contract of bytes.Equal. Words for a record in memory. Contracts of the document's Same and Few of transactions. Conditions: the lists lie in memory, and are no longer than a million (Same). -/
import Derived.Test.YtcfmifongbapkaaGreatDoorRJ
import Derived.Test.YtcfmifongbapkaaGreatDoorRE
import Derived.Test.YtcfmifongbapkaaGreatDoorRF
import Derived.Test.YtcfmifongbapkaaGreatDoorRA
namespace Go.Proofs.YtcfmifongbapkaaGreatDoor
set_option maxHeartbeats 1000000
set_option linter.unusedVariables false
set_option linter.unusedSimpArgs false
/-- A record: its kind, ballot, slot, command, data. -/
structure Rc where
 k : Int
 ba : Bal
 sl : Int
 cm : Cm
 da : List UInt8
def slotP (n : Int) : Prop:=0≤n∧n≤1000000
def FormR (x : Rc) : Prop :=
 (x.k = 1∧formB x.ba.2 = true∧x.sl = 0∧x.cm = zeroC∧x.da = [])∨(x.k = 2∧formB x.ba.2 = true∧slotP x.sl∧formCm x.cm = true∧x.da = []) ∨
 (x.k = 3∧x.ba = (0,0)∧slotP x.sl∧formCm x.cm = true∧x.da = [])∨(x.k = 4∧x.ba = (0,0)∧slotP x.sl∧x.cm = zeroC∧x.da.length≤59900)
noncomputable def formR (x : Rc) : Bool:=@decide (FormR x) (Classical.propDecidable _)
theorem formR_iff (x : Rc) : formR x = true↔FormR x:=⟨@of_decide_eq_true _ (Classical.propDecidable _),@decide_eq_true _ (Classical.propDecidable _)⟩
def zeroRc : Rc:=⟨0,(0,0),0,zeroC,[]⟩
/-- Its numbers are of a size that is. -/
def RcOk (x : Rc) : Prop:=(0≤x.ba.1∧x.ba.1 < 4294967296)∧CmOk x.cm
noncomputable def rcB (x : Rc) : List UInt8:=putB x.k.toNat 1 ++ (if x.k = 1 then balBytes x.ba else if x.k = 2 then balBytes x.ba ++ (putB x.sl.toNat 4 ++ cmB x.cm) else if x.k = 3 then putB x.sl.toNat 4 ++ cmB x.cm else if x.k = 4 then putB x.sl.toNat 4 ++ dataB x.da else [])
/-- Data are read: their length is that of all that is left. -/
def dataR : Prs (List UInt8):=fun l=>if 4≤l.length∧numB (l.take 4) = l.length - 4 then some (l.drop 4,[]) else none
noncomputable def rcTail (k : Nat) : Prs Rc :=
 if k = 1 then bindP balQ fun b=>pureP ⟨1,b,0,zeroC,[]⟩
 else if k = 2 then bindP balQ fun b=>bindP (numI 4) fun s=>bindP cmF fun c=>pureP ⟨2,b,s,c,[]⟩
 else if k = 3 then bindP (numI 4) fun s=>bindP cmF fun c=>pureP ⟨3,(0,0),s,c,[]⟩
 else if k = 4 then bindP (numI 4) fun s=>bindP dataR fun d=>pureP ⟨4,(0,0),s,zeroC,d⟩
 else pureP ⟨(k : Int),(0,0),0,zeroC,[]⟩
noncomputable def rcP : Prs Rc:=bindP (numP 1) rcTail
/-- What bytes are read as, all of them. -/
noncomputable def readR (l : List UInt8) : Option Rc:=match rcP l with
 | some (x,[])=>if formR x = true then some x else none
 | _=>none
theorem readR_some {l : List UInt8} {x : Rc} (h : rcP l = some (x,[])) (hf : formR x = true) : readR l = some x:=by unfold readR;rw [h];simp [hf]
theorem readR_inv {l : List UInt8} {x : Rc} (h : readR l = some x) : rcP l = some (x,[])∧formR x = true:=by
 unfold readR at h
 split at h
 ·rename_i y e
  split at h
  ·rename_i hf
   injection h with h;subst h;exact ⟨e,hf⟩
  ·cases h
 ·cases h
theorem readR_none {l : List UInt8} (h : rcP l = none) : readR l = none:=by unfold readR;rw [h]
theorem readR_more {l : List UInt8} {x : Rc} {r : List UInt8} (h : rcP l = some (x,r)) (hr : r≠[]) : readR l = none:=by
 unfold readR;rw [h]
 cases r with
 | nil=>exact absurd rfl hr
 | cons a r=>rfl
theorem readR_bad {l : List UInt8} {x : Rc} {r : List UInt8} (h : rcP l = some (x,r)) (hf : formR x = false) : readR l = none:=by
 unfold readR;rw [h]
 cases r with
 | nil=>simp [hf]
 | cons a r=>rfl
theorem dataR_yes (d : List UInt8) (h : d.length < 256 ^ 4) : dataR (dataB d) = some (d,[]):=by
 unfold dataR dataB
 rw [take_app _ _ 4 (putB_len _ _),drop_app _ _ 4 (putB_len _ _),numB_put,Nat.mod_eq_of_lt h,List.length_append,putB_len,if_pos ⟨by omega,by omega⟩]
theorem dataR_snd {l d r : List UInt8} (h : dataR l = some (d,r)) : l = dataB d∧r = []:=by
 unfold dataR at h
 split at h
 ·rename_i hc
  injection h with h;injection h with h1 h2
  refine ⟨?_,h2.symm⟩
  subst h1
  unfold dataB
  have e : (l.take 4).length = 4:=by rw [List.length_take];omega
  have e2:=put_num (l.take 4)
  rw [e] at e2
  rw [List.length_drop,← hc.2,e2,List.take_append_drop]
 ·cases h
/-- What is written is read. -/
theorem read_back (x : Rc) (hf : FormR x) (ho : RcOk x) : readR (rcB x) = some x:=by
 obtain ⟨k,ba,sl,cm,da⟩:=x
 obtain ⟨⟨h1,h2⟩,h3⟩:=ho
 refine readR_some ?_ ((formR_iff _).2 hf)
 unfold FormR slotP at hf
 simp only at hf h1 h2 h3
 unfold rcP rcB
 rcases hf with ⟨rfl,f1,rfl,rfl,rfl⟩ | ⟨rfl,f1,⟨f2,f3⟩,f4,rfl⟩ | ⟨rfl,rfl,⟨f2,f3⟩,f4,rfl⟩ | ⟨rfl,rfl,⟨f2,f3⟩,rfl,f5⟩
 ·show bindP (numP 1) rcTail (putB 1 1 ++ balBytes ba) = _
  rw [bind_some (back_num 1 1 _ (by decide))]
  show (bindP balQ fun b=>pureP (⟨1,b,0,zeroC,[]⟩ : Rc)) (balBytes ba) = _
  have h:=back_bal ba [] f1 h1 h2
  rw [List.append_nil] at h
  rw [bind_some h];rfl
 ·show bindP (numP 1) rcTail (putB 2 1 ++ (balBytes ba ++ (putB sl.toNat 4 ++ cmB cm))) = _
  rw [bind_some (back_num 2 1 _ (by decide))]
  show (bindP balQ fun b=>bindP (numI 4) fun s=>bindP cmF fun c=>pureP (⟨2,b,s,c,[]⟩ : Rc)) (balBytes ba ++ (putB sl.toNat 4 ++ cmB cm)) = _
  have h:=back_cm cm [] f4 h3
  rw [List.append_nil] at h
  rw [bind_some (back_bal ba _ f1 h1 h2),bind_some (back_numI sl 4 _ f2 (by omega)),bind_some h];rfl
 ·show bindP (numP 1) rcTail (putB 3 1 ++ (putB sl.toNat 4 ++ cmB cm)) = _
  rw [bind_some (back_num 3 1 _ (by decide))]
  show (bindP (numI 4) fun s=>bindP cmF fun c=>pureP (⟨3,(0,0),s,c,[]⟩ : Rc)) (putB sl.toNat 4 ++ cmB cm) = _
  have h:=back_cm cm [] f4 h3
  rw [List.append_nil] at h
  rw [bind_some (back_numI sl 4 _ f2 (by omega)),bind_some h];rfl
 ·show bindP (numP 1) rcTail (putB 4 1 ++ (putB sl.toNat 4 ++ dataB da)) = _
  rw [bind_some (back_num 4 1 _ (by decide))]
  show (bindP (numI 4) fun s=>bindP dataR fun d=>pureP (⟨4,(0,0),s,zeroC,d⟩ : Rc)) (putB sl.toNat 4 ++ dataB da) = _
  rw [bind_some (back_numI sl 4 _ f2 (by omega)),bind_some (dataR_yes da (by omega))];rfl
/-- What is read was written. -/
theorem read_snd {l : List UInt8} {x : Rc} (h : readR l = some x) : l = rcB x∧FormR x:=by
 obtain ⟨hp,hf⟩:=readR_inv h
 refine ⟨?_,(formR_iff _).1 hf⟩
 obtain ⟨k,m,e1,e2⟩:=bind_inv hp
 have hl:=snd_num 1 _ _ _ e1
 subst hl
 unfold rcTail at e2
 unfold rcB
 split at e2
 ·rename_i hk;subst hk
  obtain ⟨b,m2,e3,e4⟩:=bind_inv e2
  injection e4 with e4;injection e4 with e5 e6
  subst e5;subst e6
  rw [snd_bal _ _ _ e3,List.append_nil];rfl
 ·split at e2
  ·rename_i hk;subst hk
   obtain ⟨b,m2,e3,e4⟩:=bind_inv e2
   obtain ⟨s,m3,e5,e6⟩:=bind_inv e4
   obtain ⟨c,m4,e7,e8⟩:=bind_inv e6
   injection e8 with e8;injection e8 with e9 e10
   subst e9;subst e10
   rw [snd_bal _ _ _ e3,snd_numI 4 _ _ _ e5,snd_cm _ _ _ e7,List.append_nil];rfl
  ·split at e2
   ·rename_i hk;subst hk
    obtain ⟨s,m3,e5,e6⟩:=bind_inv e2
    obtain ⟨c,m4,e7,e8⟩:=bind_inv e6
    injection e8 with e8;injection e8 with e9 e10
    subst e9;subst e10
    rw [snd_numI 4 _ _ _ e5,snd_cm _ _ _ e7,List.append_nil];rfl
   ·split at e2
    ·rename_i hk;subst hk
     obtain ⟨s,m3,e5,e6⟩:=bind_inv e2
     obtain ⟨d,m4,e7,e8⟩:=bind_inv e6
     injection e8 with e8;injection e8 with e9 e10
     subst e9;subst e10
     rw [snd_numI 4 _ _ _ e5,(dataR_snd e7).1];rfl
    ·injection e2 with e2;injection e2 with e3 e4
     subst e3
     have:=(formR_iff _).1 hf
     unfold FormR at this
     simp only at this
     omega
/-- How long a formed record's bytes are. -/
theorem txnB_small (t : Tx Val) (h : formT formedB t = true) : (txnB bytesV t).length≤1300:=by
 have hF:=(formT_iff _ _).1 h
 have l1:=hF.rlen
 have l2:=hF.wlen
 have k1 : ∀ x ∈ t.rs,(readB x).length≤100:=fun x hx=>by
  have:=key_len (List.all_eq_true.1 hF.rkeys x.1 (List.mem_map.2 ⟨x,hx,rfl⟩))
  unfold readB;rw [List.length_append,putB_len,textB_len];omega
 have k2 : ∀ x ∈ t.ws,(writeB bytesV x).length≤100:=fun x hx=>by
  have h1:=key_len (List.all_eq_true.1 hF.wkeys x.1 (List.mem_map.2 ⟨x,hx,rfl⟩))
  have h2:=List.all_eq_true.1 hF.vals x hx
  have h3 : (bytesV x.2).length≤50:=by
   unfold bytesV
   split
   ·rw [List.length_cons,putB_len];omega
   ·split
    ·rename_i n1 n2
     unfold formedB at h2
     rw [if_neg (by omega),if_neg n1] at h2
     simp only [Bool.and_eq_true,decide_eq_true_eq] at h2
     rw [List.length_cons,textB_len];omega
    ·simp
  unfold writeB;rw [List.length_append,textB_len];omega
 have flat : ∀ {α : Type} (f : α→List UInt8) (xs : List α),(∀ x ∈ xs,(f x).length≤100)→(xs.flatMap f).length≤xs.length * 100:=by
  intro α f xs
  induction xs with
  | nil=>intro _;simp
  | cons x r ih=>intro h;rw [List.flatMap_cons,List.length_append,List.length_cons,Nat.succ_mul];have:=h x (List.mem_cons_self ..);have:=ih fun y hy=>h y (List.mem_cons_of_mem _ hy);omega
 have h1:=flat readB t.rs k1
 have h2:=flat (writeB bytesV) t.ws k2
 unfold txnB
 rw [List.length_append,List.length_append,List.length_append,List.length_append,idBytes_len,putB_len,putB_len]
 omega
theorem cmB_small (c : Cm) (hf : formCm c = true) : (cmB c).length≤1301:=by
 rcases form_kinds hf with e | ⟨h1,e⟩ | ⟨_,e⟩ | ⟨_,e⟩
 ·rw [e];decide
 ·generalize c.t = t at *
  subst e
  show (putB 1 1 ++ txnB bytesV t).length≤_
  have:=txnB_small t h1
  rw [List.length_append,putB_len];omega
 ·rw [e];show (putB 2 1 ++ (idBytes c.id ++ (putB c.g.toNat 1 ++ putB c.st 8))).length≤_
  simp [idBytes_len,putB_len]
 ·rw [e];show (putB 3 1 ++ (idBytes c.id ++ (putB c.g.toNat 1 ++ putB (yesN c.y) 1))).length≤_
  simp [idBytes_len,putB_len]
theorem rcB_max {x : Rc} (hf : FormR x) : (rcB x).length≤1400 + x.da.length∧(rcB x).length≤60000:=by
 obtain ⟨k,ba,sl,cm,da⟩:=x
 unfold FormR at hf
 simp only at hf
 rcases hf with ⟨rfl,f1,rfl,rfl,rfl⟩ | ⟨rfl,f1,f2,f4,rfl⟩ | ⟨rfl,rfl,f2,f4,rfl⟩ | ⟨rfl,rfl,f2,rfl,f5⟩
 ·show (putB 1 1 ++ balBytes ba).length≤_∧(putB 1 1 ++ balBytes ba).length≤_
  rw [List.length_append,putB_len,balBytes_len];simp
 ·show (putB 2 1 ++ (balBytes ba ++ (putB sl.toNat 4 ++ cmB cm))).length≤_∧(putB 2 1 ++ (balBytes ba ++ (putB sl.toNat 4 ++ cmB cm))).length≤_
  have:=cmB_small cm f4
  rw [List.length_append,List.length_append,List.length_append,putB_len,balBytes_len,putB_len];omega
 ·show (putB 3 1 ++ (putB sl.toNat 4 ++ cmB cm)).length≤_∧(putB 3 1 ++ (putB sl.toNat 4 ++ cmB cm)).length≤_
  have:=cmB_small cm f4
  rw [List.length_append,List.length_append,putB_len,putB_len];omega
 ·show (putB 4 1 ++ (putB sl.toNat 4 ++ dataB da)).length≤_∧(putB 4 1 ++ (putB sl.toNat 4 ++ dataB da)).length≤_
  unfold dataB
  rw [List.length_append,List.length_append,List.length_append,putB_len,putB_len,putB_len]
  simp only
  omega
/-- What bodies tell, one after the other, up to the first that is no record's; and how many bytes their frames have. -/
noncomputable def tells : List (List UInt8)→List Rc
 | []=>[]
 | b :: r=>match readR b with
  | some x=>x :: tells r
  | none=>[]
noncomputable def tellsN : List (List UInt8)→Nat
 | []=>0
 | b :: r=>match readR b with
  | some _=>8 + b.length + tellsN r
  | none=>0
noncomputable def tellB (L : List UInt8) : List Rc:=tells (allB L)
noncomputable def tellN (L : List UInt8) : Nat:=tellsN (allB L)
theorem tell_no {L : List UInt8} (h : uwErr L≠0) : tellB L = []∧tellN L = 0:=by unfold tellB tellN;rw [(all_no h).1];exact ⟨rfl,rfl⟩
theorem tell_bad {L : List UInt8} (h : uwErr L = 0) (hr : readR (bodyB L) = none) : tellB L = []∧tellN L = 0:=by
 unfold tellB tellN;rw [(all_yes h).1]
 unfold tells tellsN;rw [hr];exact ⟨rfl,rfl⟩
theorem tell_yes {L : List UInt8} {x : Rc} (h : uwErr L = 0) (hr : readR (bodyB L) = some x) : tellB L = x :: tellB (L.drop (8 + lenB L))∧tellN L = 8 + lenB L + tellN (L.drop (8 + lenB L)):=by
 have e1 : tells (bodyB L :: allB (L.drop (8 + lenB L))) = x :: tells (allB (L.drop (8 + lenB L))):=by rw [tells,hr]
 have e2 : tellsN (bodyB L :: allB (L.drop (8 + lenB L))) = 8 + (bodyB L).length + tellsN (allB (L.drop (8 + lenB L))):=by rw [tellsN,hr]
 unfold tellB tellN;rw [(all_yes h).1,e1,e2,bodyB_len h];exact ⟨rfl,rfl⟩
/-- The frames of records, one behind the other. -/
noncomputable def catR (xs : List Rc) : List UInt8:=xs.flatMap fun x=>frameB (rcB x)
theorem catR_app (xs ys : List Rc) : catR (xs ++ ys) = catR xs ++ catR ys:=by simp [catR]
theorem catR_one (x : Rc) : catR [x] = frameB (rcB x):=by simp [catR]
/-- Formed records with numbers of a size that is. -/
def Good (xs : List Rc) : Prop := ∀ x ∈ xs,FormR x∧RcOk x
theorem tell_nil : tellB [] = []∧tellN [] = 0:=tell_no (by decide)
open Go.RowKit
open Go.Lib (hid)
theorem str_cases (u v : ByteArray) : (eqB u v = true∧(u.toList == v.toList) = true)∨(eqB u v = false∧(u.toList == v.toList) = false):=by
 rw [bytes_beq]
 cases eqB u v
 ·exact .inr ⟨rfl,rfl⟩
 ·exact .inl ⟨rfl,rfl⟩
theorem bequal_any (a a' : Option Addr) (n n' c c' B B' : Nat) (l l' : List UInt8) (w : World) (h : BAt w B a n l) (h' : BAt w B' a' n' l') :
  Calls Tryz.prog 55 #[.slice a n c,.slice a' n' c'] w fun e w'=>e = .returned (.bool (eqB l l'))∧w = w':=by
 have c1:=run_convert_bytes (P:=Tryz.prog) w 34 5 9 Tryz.underlying34 Tryz.underlying5 Tryz.underlying9 B a n l c h
 have c2:=run_convert_bytes (P:=Tryz.prog) w 34 5 9 Tryz.underlying34 Tryz.underlying5 Tryz.underlying9 B' a' n' l' c' h'
 have e : eqB (⟨l.toArray⟩ : ByteArray) ⟨l'.toArray⟩ = eqB l l':=by
  by_cases hl : l = l'
  ·rw [eqB_yes hl,hl,eqB_self]
  ·rw [eqB_no hl,eqB_no (fun e=>hl (by have h:=congrArg (fun z : ByteArray=>z.data.toList) e;simpa using h))]
 rw [← e]
 clear e h h'
 generalize (⟨l.toArray⟩ : ByteArray) = s at *
 generalize (⟨l'.toArray⟩ : ByteArray) = s' at *
 rcases str_cases s s' with ⟨e,q⟩ | ⟨e,q⟩
 ·rw [e]
  clear e
  go_enter Tryz.func55,Tryz.ntmps55
  go_wp2
  go_ret
  exact ⟨by first | rfl | simp [*],rfl⟩
 ·rw [e]
  clear e
  go_enter Tryz.func55,Tryz.ntmps55
  go_wp2
  go_ret
  exact ⟨by first | rfl | simp [*],rfl⟩
/-- A record by value: its kind, ballot, slot, command, data. -/
structure RcM where
 k : Int
 br : Nat
 bn : Int
 sl : Int
 cm : CmM
 da : Option Addr
 dn : Nat
 dc : Nat
abbrev rcV (x : RcM) : Array Value:=#[.int .i64 x.k,.int .u32 ((x.br : Nat) : Int),.int .i64 x.bn,.int .i64 x.sl,.int .i64 x.cm.k,.int .i64 x.cm.s,.int .i64 x.cm.q,.slice x.cm.a x.cm.n x.cm.c,.slice x.cm.b x.cm.m x.cm.d,.int .i64 x.cm.i,.int .i64 x.cm.j,.int .i64 x.cm.g,.int .u64 ((x.cm.st : Nat) : Int),.bool x.cm.y,.slice x.da x.dn x.dc]
abbrev zeroR : RcM:=⟨0,0,0,0,zeroM,none,0,0⟩
abbrev zeroRV : Array Value:=#[.int .i64 0,.int .u32 0,.int .i64 0,.int .i64 0,.int .i64 0,.int .i64 0,.int .i64 0,.slice none 0 0,.slice none 0 0,.int .i64 0,.int .i64 0,.int .i64 0,.int .u64 0,.bool false,.slice none 0 0]
/-- What its lists and its data hold. -/
structure RcL where
 rs : List RdM
 ws : List WrM
 dl : List UInt8
abbrev noLR : RcL:=⟨[],[],[]⟩
def rcT (x : RcM) (L : RcL) : Rc:=⟨x.k,(((x.br : Nat) : Int),x.bn),x.sl,cmT x.cm L.rs L.ws,L.dl⟩
/-- Its lists and its data lie in memory. -/
structure RcAt (w : World) (x : RcM) (L : RcL) : Prop where
 cm : CmAt w x.cm L.rs L.ws
 da : BAt w w.heap.size x.da x.dn L.dl
 br : x.br < 4294967296
/-- They are of a size that is looked at. -/
structure RcF (x : RcM) : Prop where
 n : x.cm.n≤1000000
 m : x.cm.m≤1000000
 dn : x.dn≤1000000
section
variable {w w' : World} {x y : RcM} {L L' : RcL}
theorem RcAt.later (h : RcAt w x L) (hb : Below w.heap.size w w') : RcAt w' x L:=⟨h.cm.later hb,(h.da.below hb (Nat.le_refl _)).more hb.size,h.br⟩
theorem RcAt.zero : RcAt w zeroR noLR:=⟨CmAt.zero,BAt.nil,by show 0 < 4294967296;decide⟩
theorem RcF.zero : RcF zeroR:=⟨Nat.zero_le _,Nat.zero_le _,Nat.zero_le _⟩
theorem RcAt.ok (h : RcAt w x L) : RcOk (rcT x L):=by
 refine ⟨⟨?_,?_⟩,?_,?_,h.cm.st⟩
 ·show 0≤((x.br : Nat) : Int);omega
 ·have:=h.br;show ((x.br : Nat) : Int) < 4294967296;omega
 ·intro z hz
  obtain ⟨u,hu,rfl⟩:=List.mem_map.1 hz
  exact (h.cm.tx.okR u hu).2
 ·intro z hz
  obtain ⟨u,hu,rfl⟩:=List.mem_map.1 hz
  exact (h.cm.tx.okW u hu).2.1
/-- What a record's kind names of it. -/
def namedR (x : RcM) : RcM :=
 if x.k = 1 then ⟨1,x.br,x.bn,0,zeroM,none,0,0⟩ else if x.k = 2 then ⟨2,x.br,x.bn,x.sl,x.cm,none,0,0⟩
 else if x.k = 3 then ⟨3,0,0,x.sl,x.cm,none,0,0⟩ else if x.k = 4 then ⟨4,0,0,x.sl,zeroM,x.da,x.dn,x.dc⟩ else zeroR
def namedRL (x : RcM) (L : RcL) : RcL :=
 if x.k = 1 then noLR else if x.k = 2 then ⟨L.rs,L.ws,[]⟩ else if x.k = 3 then ⟨L.rs,L.ws,[]⟩ else if x.k = 4 then ⟨[],[],L.dl⟩ else noLR
theorem RcAt.named (h : RcAt w x L) : RcAt w (namedR x) (namedRL x L):=by
 unfold namedR namedRL
 split
 ·exact ⟨CmAt.zero,BAt.nil,h.br⟩
 ·split
  ·exact ⟨h.cm,BAt.nil,h.br⟩
  ·split
   ·exact ⟨h.cm,BAt.nil,by show 0 < 4294967296;decide⟩
   ·split
    ·exact ⟨CmAt.zero,h.da,by show 0 < 4294967296;decide⟩
    ·exact RcAt.zero
/-- Whether two records in memory are alike. -/
noncomputable def sameR (x y : RcM) (L L' : RcL) : Bool:=(x.k == y.k) && (eqB (((x.br : Nat) : Int),x.bn) (((y.br : Nat) : Int),y.bn) && ((x.sl == y.sl) && (sameC x.cm y.cm L.rs L'.rs L.ws L'.ws && eqB L.dl L'.dl)))
theorem sameR_iff (x y : RcM) (L L' : RcL) : sameR x y L L' = true↔rcT x L = rcT y L':=by
 unfold sameR rcT
 rw [sameC_eqB]
 simp only [Bool.and_eq_true,beq_iff_eq,eqB_iff]
 constructor
 ·rintro ⟨h1,h2,h3,h4,h5⟩
  rw [h1,h2,h3,h4,h5]
 ·intro h
  injection h with h1 h2 h3 h4 h5
  exact ⟨h1,h2,h3,h4,h5⟩
/-- A record and what its kind names of it are alike. -/
noncomputable def cleanR (x : RcM) (L : RcL) : Bool:=sameR x (namedR x) L (namedRL x L)
noncomputable def chainR (x : RcM) (L : RcL) : Bool:=formB x.bn && (decide (0≤x.sl) && (decide (x.sl≤1000000) && (formCm (cmT x.cm L.rs L.ws) && decide (x.dn≤59900))))
theorem form_rec (h : RcAt w x L) : formR (rcT x L) = (!(x.k == 0) && (cleanR x L && chainR x L)):=by
 have hl:=h.da.len
 have key : FormR (rcT x L)↔(¬ x.k = 0∧rcT x L = rcT (namedR x) (namedRL x L)∧(formB x.bn = true∧0≤x.sl∧x.sl≤1000000∧formCm (cmT x.cm L.rs L.ws) = true∧x.dn≤59900)):=by
  unfold namedR namedRL FormR slotP rcT
  simp only [Rc.mk.injEq]
  by_cases h1 : x.k = 1
  ·rw [if_pos h1,if_pos h1]
   rw [h1]
   constructor
   ·rintro (⟨_,a,b,c,d⟩ | ⟨e,_⟩ | ⟨e,_⟩ | ⟨e,_⟩)
    ·refine ⟨by decide,⟨rfl,rfl,b,c,d⟩,a,by omega,by omega,by rw [c];rfl,by rw [← hl,d];exact Nat.zero_le _⟩
    all_goals omega
   ·rintro ⟨_,⟨_,_,b,c,d⟩,a,_⟩
    exact .inl ⟨rfl,a,b,c,d⟩
  ·rw [if_neg h1,if_neg h1]
   by_cases h2 : x.k = 2
   ·rw [if_pos h2,if_pos h2]
    rw [h2]
    constructor
    ·rintro (⟨e,_⟩ | ⟨_,a,b,c,d⟩ | ⟨e,_⟩ | ⟨e,_⟩)
     ·omega
     ·exact ⟨by decide,⟨rfl,rfl,rfl,rfl,d⟩,a,b.1,b.2,c,by rw [← hl,d];exact Nat.zero_le _⟩
     all_goals omega
    ·rintro ⟨_,⟨_,_,_,_,d⟩,a,b,c,e,_⟩
     exact .inr (.inl ⟨rfl,a,⟨b,c⟩,e,d⟩)
   ·rw [if_neg h2,if_neg h2]
    by_cases h3 : x.k = 3
    ·rw [if_pos h3,if_pos h3]
     rw [h3]
     constructor
     ·rintro (⟨e,_⟩ | ⟨e,_⟩ | ⟨_,a,b,c,d⟩ | ⟨e,_⟩)
      ·omega
      ·omega
      ·refine ⟨by decide,⟨rfl,a,rfl,rfl,d⟩,?_,b.1,b.2,c,by rw [← hl,d];exact Nat.zero_le _⟩
       injection a with a1 a2
       rw [a2];rfl
      ·omega
     ·rintro ⟨_,⟨_,a,_,_,d⟩,_,b,c,e,_⟩
      exact .inr (.inr (.inl ⟨rfl,a,⟨b,c⟩,e,d⟩))
    ·rw [if_neg h3,if_neg h3]
     by_cases h4 : x.k = 4
     ·rw [if_pos h4,if_pos h4]
      rw [h4]
      constructor
      ·rintro (⟨e,_⟩ | ⟨e,_⟩ | ⟨e,_⟩ | ⟨_,a,b,c,d⟩)
       ·omega
       ·omega
       ·omega
       ·refine ⟨by decide,⟨rfl,a,rfl,c,rfl⟩,?_,b.1,b.2,by rw [c];rfl,by rw [← hl];exact d⟩
        injection a with a1 a2
        rw [a2];rfl
      ·rintro ⟨_,⟨_,a,_,c,_⟩,_,b,b2,_,d⟩
       exact .inr (.inr (.inr ⟨rfl,a,⟨b,b2⟩,c,by rw [hl];exact d⟩))
     ·rw [if_neg h4,if_neg h4]
      constructor
      ·rintro (⟨e,_⟩ | ⟨e,_⟩ | ⟨e,_⟩ | ⟨e,_⟩) <;> omega
      ·rintro ⟨h0,⟨e,_⟩,_⟩
       exact absurd e h0
 rw [Bool.eq_iff_iff,formR_iff,key]
 unfold cleanR chainR
 simp only [Bool.and_eq_true,Bool.not_eq_true',beq_eq_false_iff_ne,ne_eq,sameR_iff,decide_eq_true_eq]
end
/-- Whole loads of records as words of their own. -/
def ldK (p : Value) : Sem Value:=Instr.loadAt 36 p
def ldR (p : Value) : Sem Value:=Instr.loadAt 47 p
@[go_sem ↓ high] theorem ldK_eq (p : Value) : Instr.loadAt 36 p = ldK p:=rfl
@[go_sem ↓ high] theorem ldR_eq (p : Value) : Instr.loadAt 47 p = ldR p:=rfl
theorem BoxC.ldK {w : World} {g : Nat} {x : RcM} (h : BoxC w g (rcV x) 36) : (Go.Proofs.YtcfmifongbapkaaGreatDoor.ldK (.pointer (some ⟨g,0,none⟩))).run Tryz.prog w = .ok (.agg (rcV x)) w:=by
 unfold Go.Proofs.YtcfmifongbapkaaGreatDoor.ldK
 simp only [Instr.loadAt,Instr.sureAddr,Sem.run_bind,Sem.run_pure,Result.andThen_ok]
 exact run_loadVar_row w g 36 36 (rcV x) (0,0) _ h Tryz.underlying36 rfl (by kernel_rfl)
theorem BoxC.ldR {w : World} {g : Nat} {x : RcM} (h : BoxC w g (rcV x) 47) : (Go.Proofs.YtcfmifongbapkaaGreatDoor.ldR (.pointer (some ⟨g,0,none⟩))).run Tryz.prog w = .ok (.agg (rcV x)) w:=by
 unfold Go.Proofs.YtcfmifongbapkaaGreatDoor.ldR
 simp only [Instr.loadAt,Instr.sureAddr,Sem.run_bind,Sem.run_pure,Result.andThen_ok]
 exact run_loadVar_row w g 47 47 (rcV x) (0,0) _ h Tryz.underlying47 rfl (by kernel_rfl)
/-- A whole box is stored. -/
theorem wpList_store_k {ops : Array Oper} {rest : List Oper} {o : Oper} {a : Act} {w : World} {Q : Exit→Act→World→Prop} (hgd : o.guard = none) (x y : Operand) (ho : o.op = .store 36 x y)
  (g : Nat) (m : RcM) (hx : a.eval x = .pointer (some ⟨g,0,none⟩)) (hy : a.eval y = .agg (rcV m)) (m' : RcM) (hb : BoxC w g (rcV m') 36)
  (h : wpList Tryz.prog ops Q rest (a.put o.dst undef) (w.setRow g (rcV m))) : wpList Tryz.prog ops Q (o :: rest) a w :=
 wpList_store_row hgd 36 x y ho g (rcV m) hx hy 36 (rcV m') hb (by kernel_rfl) rfl (by simp [Value.oneCell']) h
theorem wpList_store_r {ops : Array Oper} {rest : List Oper} {o : Oper} {a : Act} {w : World} {Q : Exit→Act→World→Prop} (hgd : o.guard = none) (x y : Operand) (ho : o.op = .store 47 x y)
  (g : Nat) (m : RcM) (hx : a.eval x = .pointer (some ⟨g,0,none⟩)) (hy : a.eval y = .agg (rcV m)) (m' : RcM) (hb : BoxC w g (rcV m') 47)
  (h : wpList Tryz.prog ops Q rest (a.put o.dst undef) (w.setRow g (rcV m))) : wpList Tryz.prog ops Q (o :: rest) a w :=
 wpList_store_row hgd 47 x y ho g (rcV m) hx hy 47 (rcV m') hb (by kernel_rfl) rfl (by simp [Value.oneCell']) h
theorem Boxs.fillK {w W : World} {G : Nat} {cs : Array Value} {t : TypeId} {l : List (Nat×Array Value×TypeId)} (h : Boxs w W ((G,cs,t) :: l)) (hG : w.heap.size≤G) (hl : ∀ b ∈ l,b.1≠G) (ds : Array Value) : Boxs w (W.setRow G ds) ((G,ds,t) :: l) :=
 ⟨⟨h.1.os,h.1.tape,h.1.output,by rw [setRow_size];exact h.1.size,fun b hb=>(setRow_other W G b ds (by omega)).trans (h.1.block b hb)⟩,fun b hb=>by
  rcases List.mem_cons.1 hb with rfl | hb
  ·exact (h.get 0 _ _ _ rfl).fill ds
  ·have h2:=h.2 b (List.mem_cons_of_mem _ hb)
   exact (setRow_other W G b.1 ds (hl b hb)).trans h2⟩
theorem rSame_any (s q : Int) (a : Option Addr) (n c : Nat) (b : Option Addr) (m d : Nat) (rs : List RdM) (ws : List WrM) (s' q' : Int) (a' : Option Addr) (n' c' : Nat) (b' : Option Addr) (m' d' : Nat) (rs' : List RdM) (ws' : List WrM) (w : World)
  (h : TxAt w a n b m rs ws) (h' : TxAt w a' n' b' m' rs' ws') (hn : n≤1000000) (hm : m≤1000000) :
  Calls Tryz.prog 92 #[.agg (txV s q a n c b m d),.agg (txV s' q' a' n' c' b' m' d')] w (Says w (sameM (s,q) (s',q') rs rs' ws ws')):=by
 have H0:=hid (((Boxs.start w).more (txV s q a n c b m d) 30).more (txV s' q' a' n' c' b' m' d') 30)
 have hs : (w.alloc (.cells (txV s q a n c b m d) 30)).heap.size = w.heap.size + 1:=by simp
 rw [hs] at H0
 have HT:=hid h
 have HT':=hid h'
 have hl:=h.lenR
 have hl':=h'.lenR
 have hk:=h.lenW
 have hk':=h'.lenW
 obtain ⟨x0,x1,x2,x3⟩:=(H0.out.get 1 _ _ _ rfl).four
 obtain ⟨y0,y1,y2,y3⟩:=(H0.out.get 0 _ _ _ rfl).four
 clear h h' hs
 unfold sameM
 rcases id_cases s q s' q' with ⟨e,q1,q2⟩ | ⟨e,q1⟩ | ⟨e,q1,q2⟩
 ·rw [e,Bool.true_and]
  clear e
  by_cases hnn : n = n'
  ·subst hnn
   by_cases hmm : m = m'
   ·subst hmm
    go_enter Tryz.func92,Tryz.ntmps92
    go_wp2
    go_loopw [5] (fun i wr => ∃ k : Nat,k≤n∧i = .int .i64 k∧rs.take k = rs'.take k∧Boxs w wr [(w.heap.size + 1,txV s' q' a' n c' b' m d',30),(w.heap.size,txV s q a n c b m d,30)]) (fun i _=>n - (intOf i).toNat)
    case atStart=>exact ⟨0,Nat.zero_le _,rfl,rfl,H0.out⟩
    case round =>
     obtain ⟨k,hk3,rfl,ht,hX⟩:=hrel
     have HX:=hid hX
     clear hX H0 x0 x1 x2 x3 y0 y1 y2 y3
     obtain ⟨x0,x1,x2,x3⟩:=(HX.out.get 1 _ _ _ rfl).four
     obtain ⟨y0,y1,y2,y3⟩:=(HX.out.get 0 _ _ _ rfl).four
     by_cases hlt : k < n
     ·have hk1 : k < rs.length:=by omega
      have hk2 : k < rs'.length:=by omega
      have HG : rs[k] = rs'[k]→Hid (rs.take (k + 1) = rs'.take (k + 1)):=fun e=>eq_step ht hk1 hk2 e
      have HN : ¬ rs[k] = rs'[k]→Hid (eqB rs rs' = false):=fun e=>eq_bad hk1 hk2 e
      obtain ⟨g,off,rfl,_,z0,z1⟩:=(HT.out.later HX.out.bel).rds.at_ (i:=k) hk1
      obtain ⟨g',off',rfl,_,u0,u1⟩:=(HT'.out.later HX.out.bel).rds.at_ (i:=k) hk2
      clear ht
      generalize rs[k] = x at *
      generalize rs'[k] = y at *
      have i1 : (k : Int) < (n : Int):=by omega
      rcases rd_cases x y with rfl | ⟨hne,p1⟩ | ⟨hne,p1,p2⟩
      ·have Q:=HG rfl
       clear HG HN
       go_upto_region 6 with (fail)
       go_quiet (fail)
       go_wp2
       go_roundw
       case rel=>exact ⟨k + 1,by omega,by go_num,Q.out,HX.out.drewN _⟩
       case measure=>simp [intOf];omega
      ·have Q:=HN hne
       clear HG HN
       go_upto_region 6 with (fail)
       go_quiet (fail)
       go_wp2
       go_ret
       exact ⟨by rw [Q.out];rfl,(HX.out.drewN _).bel⟩
      ·have Q:=HN hne
       clear HG HN
       go_upto_region 6 with (fail)
       go_quiet (fail)
       go_wp2
       go_ret
       exact ⟨by rw [Q.out];rfl,(HX.out.drewN _).bel⟩
     ·have Q:=hid (eq_done ht (by omega) (by omega))
      have QR:=Q
      clear ht Q
      go_wp2
      go_loopw [6] (fun i wr => ∃ k : Nat,k≤m∧i = .int .i64 k∧ws.take k = ws'.take k∧Boxs w wr [(w.heap.size + 1,txV s' q' a' n c' b' m d',30),(w.heap.size,txV s q a n c b m d,30)]) (fun i _=>m - (intOf i).toNat)
      case atStart=>exact ⟨0,Nat.zero_le _,rfl,rfl,HX.out⟩
      case round =>
       obtain ⟨j,hj3,rfl,ht,hX⟩:=hrel
       clear HX x0 x1 x2 x3 y0 y1 y2 y3
       have HX:=hid hX
       clear hX
       obtain ⟨x0,x1,x2,x3⟩:=(HX.out.get 1 _ _ _ rfl).four
       obtain ⟨y0,y1,y2,y3⟩:=(HX.out.get 0 _ _ _ rfl).four
       by_cases hlt : j < m
       ·have hk1 : j < ws.length:=by omega
        have hk2 : j < ws'.length:=by omega
        have HG : ws[j] = ws'[j]→Hid (ws.take (j + 1) = ws'.take (j + 1)):=fun e=>eq_step ht hk1 hk2 e
        have HN : ¬ ws[j] = ws'[j]→Hid (eqB ws ws' = false):=fun e=>eq_bad hk1 hk2 e
        obtain ⟨g,off,rfl,_,z0,z1,z2,z3⟩:=(HT.out.later HX.out.bel).wrs.at_ (i:=j) hk1
        obtain ⟨g',off',rfl,_,u0,u1,u2,u3⟩:=(HT'.out.later HX.out.bel).wrs.at_ (i:=j) hk2
        clear ht
        generalize ws[j] = x at *
        generalize ws'[j] = y at *
        have i1 : (j : Int) < (m : Int):=by omega
        rcases wr_cases x y with rfl | ⟨hne,p1⟩ | ⟨hne,p1,p2⟩ | ⟨hne,p1,p2,p3⟩ | ⟨hne,p1,p2,p3,p4⟩
        ·have Q:=HG rfl
         clear HG HN
         go_upto_region 11 with (fail)
         go_quiet (fail)
         go_wp2
         go_roundw
         case rel=>exact ⟨j + 1,by omega,by go_num,Q.out,HX.out.drewN _⟩
         case measure=>simp [intOf];omega
        ·have Q:=HN hne
         clear HG HN
         go_upto_region 11 with (fail)
         go_quiet (fail)
         go_wp2
         go_ret
         exact ⟨by rw [QR.out,Q.out];rfl,(HX.out.drewN _).bel⟩
        ·have Q:=HN hne
         clear HG HN
         go_upto_region 11 with (fail)
         go_quiet (fail)
         go_wp2
         go_ret
         exact ⟨by rw [QR.out,Q.out];rfl,(HX.out.drewN _).bel⟩
        ·have Q:=HN hne
         clear HG HN
         go_upto_region 11 with (fail)
         go_quiet (fail)
         go_wp2
         go_ret
         exact ⟨by rw [QR.out,Q.out];rfl,(HX.out.drewN _).bel⟩
        ·have Q:=HN hne
         clear HG HN
         go_upto_region 11 with (fail)
         go_quiet (fail)
         go_wp2
         go_ret
         exact ⟨by rw [QR.out,Q.out];rfl,(HX.out.drewN _).bel⟩
       ·have Q:=hid (eq_done ht (by omega) (by omega))
        clear ht
        go_wp2
        go_ret
        exact ⟨by rw [QR.out,Q.out];rfl,HX.out.bel⟩
   ·have Q:=hid (eq_len (l:=ws) (l':=ws') (by omega))
    have p1 : ((m : Int) != (m' : Int)) = true:=by simp;omega
    rw [Q.out,Bool.and_false]
    go_enter Tryz.func92,Tryz.ntmps92
    go_wp2
    go_ret
    exact ⟨rfl,H0.out.bel⟩
  ·have Q:=hid (eq_len (l:=rs) (l':=rs') (by omega))
   have p1 : ((n : Int) != (n' : Int)) = true:=by simp;omega
   rw [Q.out,Bool.false_and]
   go_enter Tryz.func92,Tryz.ntmps92
   go_wp2
   go_ret
   exact ⟨rfl,H0.out.bel⟩
 ·rw [e]
  go_enter Tryz.func92,Tryz.ntmps92
  go_wp2
  go_ret
  exact ⟨rfl,H0.out.bel⟩
 ·rw [e]
  go_enter Tryz.func92,Tryz.ntmps92
  go_wp2
  go_ret
  exact ⟨rfl,H0.out.bel⟩
/-- A transaction of a size that is looked at. -/
def fewR (x : RdM) : Bool:=decide (x.1.size≤1000)
def fewW (x : WrM) : Bool:=decide (x.key.size≤1000) && decide (x.t.size≤1000)
def fewT (rs : List RdM) (ws : List WrM) : Bool:=(decide (rs.length≤12) && decide (ws.length≤12)) && (rs.all fewR && ws.all fewW)
theorem fewT_len {rs : List RdM} {ws : List WrM} (h : fewT rs ws = true) : rs.length≤12∧ws.length≤12:=by
 unfold fewT at h
 rw [Bool.and_eq_true,Bool.and_eq_true] at h
 exact ⟨of_decide_eq_true h.1.1,of_decide_eq_true h.1.2⟩
theorem rFewT_any (s q : Int) (a : Option Addr) (n c : Nat) (b : Option Addr) (m d : Nat) (rs : List RdM) (ws : List WrM) (w : World) (h : TxAt w a n b m rs ws) :
  Calls Tryz.prog 102 #[.agg (txV s q a n c b m d)] w (Says w (fewT rs ws)):=by
 have H0:=hid ((Boxs.start w).more (txV s q a n c b m d) 30)
 have HT:=hid (h.later H0.out.bel)
 have hl:=h.lenR
 have hk:=h.lenW
 obtain ⟨x0,x1,x2,x3⟩:=(H0.out.get 0 _ _ _ rfl).four
 clear h
 unfold fewT
 rw [hl,hk]
 by_cases hn : n≤12
 ·have d1 : decide ((12 : Int) < (n : Int)) = false:=by simp;omega
  by_cases hm : m≤12
  ·have d2 : decide ((12 : Int) < (m : Int)) = false:=by simp;omega
   rw [decide_eq_true hn,decide_eq_true hm,Bool.true_and,Bool.true_and]
   go_enter Tryz.func102,Tryz.ntmps102
   go_wp2
   go_loop [3] (fun i => ∃ k : Nat,k≤n∧i = .int .i64 k∧(rs.take k).all fewR = true) (fun i=>n - (intOf i).toNat)
   case atStart=>exact ⟨0,Nat.zero_le _,rfl,rfl⟩
   case round =>
    obtain ⟨k,hk3,rfl,ht⟩:=hrel
    by_cases hlt : k < n
    ·have hk1 : k < rs.length:=by omega
     have hbad:=fun e=>hid (all_bad fewR rs k hk1 e)
     have hgood:=fun e=>hid (all_next fewR rs k hk1 ht e)
     obtain ⟨g,off,rfl,_,z0,z1⟩:=HT.out.rds.at_ (i:=k) hk1
     clear ht
     generalize rs[k] = x at *
     obtain ⟨xk,xv⟩:=x
     by_cases hz : xk.size≤1000
     ·have p1 : decide ((1000 : Int) < (xk.size : Int)) = false:=by simp;omega
      have Q:=hgood (decide_eq_true hz)
      clear hbad hgood
      go_wp2
      go_round
      case rel=>exact ⟨k + 1,by omega,by go_num,Q.out⟩
      case measure=>simp [intOf];omega
     ·have p1 : decide ((1000 : Int) < (xk.size : Int)) = true:=by simp;omega
      have Q:=hbad (decide_eq_false hz)
      clear hbad hgood
      go_wp2
      go_ret
      exact ⟨by rw [Q.out];rfl,H0.out.bel⟩
    ·have Q:=hid (all_done fewR rs k (by omega) ht)
     have QR:=Q
     clear ht Q
     go_wp2
     go_loop [4] (fun i => ∃ k : Nat,k≤m∧i = .int .i64 k∧(ws.take k).all fewW = true) (fun i=>m - (intOf i).toNat)
     case atStart=>exact ⟨0,Nat.zero_le _,rfl,rfl⟩
     case round =>
      obtain ⟨j,hj3,rfl,ht⟩:=hrel
      by_cases hlt : j < m
      ·have hk1 : j < ws.length:=by omega
       have hbad:=fun e=>hid (all_bad fewW ws j hk1 e)
       have hgood:=fun e=>hid (all_next fewW ws j hk1 ht e)
       obtain ⟨g,off,rfl,_,z0,z1,z2,z3⟩:=HT.out.wrs.at_ (i:=j) hk1
       clear ht
       generalize ws[j] = x at *
       obtain ⟨xk,xa,xb,xt⟩:=x
       by_cases hz : xk.size≤1000
       ·have p1 : decide ((1000 : Int) < (xk.size : Int)) = false:=by simp;omega
        by_cases hy : xt.size≤1000
        ·have p2 : decide ((1000 : Int) < (xt.size : Int)) = false:=by simp;omega
         have Q:=hgood (by unfold fewW;rw [decide_eq_true hz,decide_eq_true hy];rfl)
         clear hbad hgood
         go_wp2
         go_round
         case rel=>exact ⟨j + 1,by omega,by go_num,Q.out⟩
         case measure=>simp [intOf];omega
        ·have p2 : decide ((1000 : Int) < (xt.size : Int)) = true:=by simp;omega
         have Q:=hbad (by unfold fewW;rw [decide_eq_false hy,Bool.and_false])
         clear hbad hgood
         go_wp2
         go_ret
         exact ⟨by rw [QR.out,Q.out];rfl,H0.out.bel⟩
       ·have p1 : decide ((1000 : Int) < (xk.size : Int)) = true:=by simp;omega
        have Q:=hbad (by unfold fewW;rw [decide_eq_false hz,Bool.false_and])
        clear hbad hgood
        go_wp2
        go_ret
        exact ⟨by rw [QR.out,Q.out];rfl,H0.out.bel⟩
      ·have Q:=hid (all_done fewW ws j (by omega) ht)
       clear ht
       go_wp2
       go_ret
       exact ⟨by rw [QR.out,Q.out];rfl,H0.out.bel⟩
  ·have d2 : decide ((12 : Int) < (m : Int)) = true:=by simp;omega
   rw [decide_eq_true hn,decide_eq_false hm]
   go_enter Tryz.func102,Tryz.ntmps102
   go_wp2
   go_ret
   exact ⟨rfl,H0.out.bel⟩
 ·have d1 : decide ((12 : Int) < (n : Int)) = true:=by simp;omega
  rw [decide_eq_false hn]
  go_enter Tryz.func102,Tryz.ntmps102
  go_wp2
  go_ret
  exact ⟨rfl,H0.out.bel⟩
end Go.Proofs.YtcfmifongbapkaaGreatDoor
