/- Plain mathematics of layer message: formed messages, their labels, their bytes; what is put is taken, and what is taken was put. No condition. Plain mathematics of layer frame: the sum of bytes, and that it tells up to four bytes side by side. Plain mathematics of layer frame: what Unwrap and All answer, in terms of lists of bytes. -/
import Derived.Test.YtcfmifongbapkaaGreatDoorRI
import Derived.Tactics
import Derived.Test.YtcfmifongbapkaaGreatDoorRA
namespace Go.Proofs.YtcfmifongbapkaaGreatDoor
set_option linter.unusedVariables false
/-- A part that is read only if it is used. -/
def optP {α : Type} (c : Bool) (p : Prs α) (z : α) : Prs α:=if c then p else pureP z
def onB (c : Bool) (l : List UInt8) : List UInt8:=if c then l else []
section
variable {α : Type} {p : Prs α} {z x : α} {c : Bool} {R : List UInt8} {enc : α→List UInt8}
end
/-- A number as an integer; a yes; a ballot; bytes with their length ahead of them. -/
def numI (k : Nat) : Prs Int:=bindP (numP k) fun n=>pureP (n : Int)
theorem back_numI (x : Int) (k : Nat) (R : List UInt8) (h0 : 0≤x) (h : x.toNat < 256 ^ k) : numI k (putB x.toNat k ++ R) = some (x,R):=by
 unfold numI
 rw [bind_some (back_num _ k _ h)]
 unfold pureP
 rw [Int.toNat_of_nonneg h0]
theorem snd_numI (k : Nat) : SndP (numI k) fun x : Int=>putB x.toNat k:=by
 intro l x r h
 obtain ⟨n,m,e1,e2⟩:=bind_inv h
 injection e2 with e2;injection e2 with e3 e4
 subst e3;subst e4
 exact snd_num k _ _ _ e1
def balBytes (b : Bal) : List UInt8:=putB b.1.toNat 4 ++ putB b.2.toNat 1
theorem balBytes_len (b : Bal) : (balBytes b).length = 5:=by unfold balBytes;rw [List.length_append,putB_len,putB_len]
def balQ : Prs Bal:=guardP (fun b=>formB b.2) (bindP (numI 4) fun r=>bindP (numI 1) fun n=>pureP (r,n))
theorem back_bal (b : Bal) (R : List UInt8) (h : formB b.2 = true) (h0 : 0≤b.1) (h1 : b.1 < 4294967296) : balQ (balBytes b ++ R) = some (b,R):=by
 have hn : 0≤b.2∧b.2 < 5:=by simpa [formB] using h
 refine guard_yes ?_ h
 unfold balBytes
 rw [List.append_assoc,bind_some (back_numI _ 4 _ h0 (by omega)),bind_some (back_numI _ 1 _ hn.1 (by omega))];rfl
theorem snd_bal : SndP balQ balBytes:=by
 refine snd_guard fun l x r h=>?_
 obtain ⟨a,m,e1,e2⟩:=bind_inv h
 obtain ⟨b,m2,e3,e4⟩:=bind_inv e2
 injection e4 with e4;injection e4 with e5 e6
 subst e5;subst e6
 rw [snd_numI 4 _ _ _ e1,snd_numI 1 _ _ _ e3]
 unfold balBytes
 rw [List.append_assoc]
def cutP (n : Nat) : Prs (List UInt8):=fun l=>if n≤l.length then some (l.take n,l.drop n) else none
def dataP : Prs (List UInt8):=bindP (numP 4) cutP
def dataB (d : List UInt8) : List UInt8:=putB d.length 4 ++ d
/-- Which kind uses what. -/
def uBal (k : Int) : Bool:=decide (1≤k) && decide (k≤5)
def uSlot (k : Int) : Bool:=decide (k = 2) || ((decide (4≤k) && decide (k≤7)) || decide (k = 15))
def uHas (k : Int) : Bool:=decide (k = 2)
def uCmd (k : Int) : Bool:=decide (k = 4) || decide (k = 6)
def uTxn (k : Int) : Bool:=decide (k = 8)
def uId (k : Int) : Bool:=decide (9≤k) && decide (k≤11)
def uGrp (k : Int) : Bool:=(decide (9≤k) && decide (k≤11)) || decide (k = 13)
def uStp (k : Int) : Bool:=decide (k = 9) || (decide (11≤k) && decide (k≤13))
def uYes (k : Int) : Bool:=decide (k = 10) || decide (k = 11)
def uNum (k : Int) : Bool:=decide (12≤k) && decide (k≤14)
def uKey (k : Int) : Bool:=decide (k = 12) || decide (k = 13)
def uVal (k : Int) : Bool:=decide (k = 13)
def uDat (k : Int) : Bool:=decide (k = 15)
/-- A message. -/
structure Mg where
 k : Int
 ba : Bal
 sl : Int
 has : Bool
 vo : Bal
 cm : Cm
 tx : Tx Val
 id : IdN
 g : Int
 st : Nat
 y : Bool
 nu : Int
 key : List UInt8
 ver : Nat
 val : Val
 err : Int
 data : List UInt8
def zeroCB (c : Cm) : Bool:=decide (c.k = 0) && (zeroTB c.t && restB c)
/-- It is formed. -/
structure FormMg (m : Mg) : Prop where
 kind : 1≤m.k∧m.k≤15
 ba : uBal m.k = true→formB m.ba.2 = true
 ba0 : uBal m.k = false→m.ba = (0,0)
 sl : 0≤m.sl∧m.sl≤1000000∧(uSlot m.k = false→m.sl = 0)
 has0 : uHas m.k = false→m.has = false
 vo : m.has = true→formB m.vo.2 = true
 vo0 : m.has = false→m.vo = (0,0)
 cm : (m.has || uCmd m.k) = true→formCm m.cm = true
 cm0 : (m.has || uCmd m.k) = false→m.cm = zeroC
 tx : uTxn m.k = true→formT formedB m.tx = true
 tx0 : uTxn m.k = false→m.tx = zeroT
 id : uId m.k = true→idB m.id = true
 id0 : uId m.k = false→m.id = (0,0)
 g : 0≤m.g∧m.g < 4∧(uGrp m.k = false→m.g = 0)
 st0 : uStp m.k = false→m.st = 0
 y0 : uYes m.k = false→m.y = false
 nu : 0≤m.nu∧m.nu≤2147483647∧(uNum m.k = false→m.nu = 0)
 key : uKey m.k = true→keyB m.key = true∨(m.k = 13∧m.key = [])
 key0 : uKey m.k = false→m.key = []
 val : (uVal m.k = false→m.ver = 0∧m.val = ⟨0,0,[]⟩∧m.err = 0)∧formedB m.val = true∧0≤m.err∧m.err≤11
 data : m.data.length≤59900∧(uDat m.k = false→m.data = [])
noncomputable def formMg (m : Mg) : Bool:=@decide (FormMg m) (Classical.propDecidable _)
def labelMg (m : Mg) : IdN:=if m.k = 8 then m.tx.id else if 9≤m.k∧m.k≤11 then m.id else if m.k = 2∨m.k = 4∨m.k = 6 then labelCm m.cm else (0,0)
/-- Its numbers are of a size that is. -/
structure MgOk (m : Mg) : Prop where
 ba : 0≤m.ba.1∧m.ba.1 < 4294967296
 vo : 0≤m.vo.1∧m.vo.1 < 4294967296
 cm : CmOk m.cm
 tx : (∀ x ∈ m.tx.rs,x.2 < 18446744073709551616)∧∀ x ∈ m.tx.ws,x.2.b < 18446744073709551616
 st : m.st < 18446744073709551616
 ver : m.ver < 18446744073709551616
 val : m.val.b < 18446744073709551616
/-- Its bytes; how it is read. -/
noncomputable def mgB (m : Mg) : List UInt8:=putB m.k.toNat 1 ++ (onB (uBal m.k) ((balBytes) m.ba) ++ (onB (uSlot m.k) ((fun x : Int=>putB x.toNat 4) m.sl) ++ (onB (uHas m.k) ((fun x=>putB (yesN x) 1) m.has) ++ (onB (m.has) ((balBytes) m.vo) ++ (onB ((m.has || uCmd m.k)) ((cmB) m.cm) ++ (onB (uTxn m.k) ((txnB bytesV) m.tx) ++ (onB (uId m.k) ((idBytes) m.id) ++ (onB (uGrp m.k) ((fun x : Int=>putB x.toNat 1) m.g) ++ (onB (uStp m.k) ((fun x=>putB x 8) m.st) ++ (onB (uYes m.k) ((fun x=>putB (yesN x) 1) m.y) ++ (onB (uNum m.k) ((fun x : Int=>putB x.toNat 4) m.nu) ++ (onB (uKey m.k) ((textB) m.key) ++ (onB (uVal m.k) ((fun x=>putB x 8) m.ver) ++ (onB (uVal m.k) ((bytesV) m.val) ++ (onB (uVal m.k) ((fun x : Int=>putB x.toNat 1) m.err) ++ (onB (uDat m.k) ((dataB) m.data)))))))))))))))))
noncomputable def mgP : Prs Mg:=bindP (numI 1) fun k=>bindP (optP (uBal k) (balQ) ((0,0))) fun ba=>bindP (optP (uSlot k) (numI 4) (0)) fun sl=>bindP (optP (uHas k) (yesP) (false)) fun has=>bindP (optP (has) (balQ) ((0,0))) fun vo=>bindP (optP ((has || uCmd k)) (cmF) (zeroC)) fun cm=>bindP (optP (uTxn k) (txnF) (zeroT)) fun tx=>bindP (optP (uId k) (idQ) ((0,0))) fun id=>bindP (optP (uGrp k) (numI 1) (0)) fun g=>bindP (optP (uStp k) (numP 8) (0)) fun st=>bindP (optP (uYes k) (yesP) (false)) fun y=>bindP (optP (uNum k) (numI 4) (0)) fun nu=>bindP (optP (uKey k) (textP 12) ([])) fun key=>bindP (optP (uVal k) (numP 8) (0)) fun ver=>bindP (optP (uVal k) (valP) (⟨0,0,[]⟩)) fun val=>bindP (optP (uVal k) (numI 1) (0)) fun err=>bindP (optP (uDat k) (dataP) ([])) fun data=>pureP (⟨k,ba,sl,has,vo,cm,tx,id,g,st,y,nu,key,ver,val,err,data⟩ : Mg)
noncomputable def mgF : Prs Mg:=guardP formMg mgP
/-- One bit of the sum. -/
def crcStep (s : Nat) : Nat:=if s % 2 = 1 then s / 2 ^^^ 3988292384 else s / 2
def crcN : Nat→Nat→Nat
 | 0,s=>s
 | k + 1,s=>crcN k (crcStep s)
def crcByte (s : Nat) (b : UInt8) : Nat:=crcN 8 (s ^^^ b.toNat)
def crcAll (s : Nat) (l : List UInt8) : Nat:=l.foldl crcByte s
/-- The sum of bytes. -/
def sumB (l : List UInt8) : Nat:=4294967295 - crcAll 4294967295 l
theorem crcStep_lt (s : Nat) (h : s < 2 ^ 32) : crcStep s < 2 ^ 32:=by
 unfold crcStep
 split
 ·exact Nat.xor_lt_two_pow (by omega) (by decide)
 ·omega
theorem crcN_lt (k s : Nat) (h : s < 2 ^ 32) : crcN k s < 2 ^ 32:=by
 induction k generalizing s with
 | zero=>exact h
 | succ k ih=>exact ih _ (crcStep_lt s h)
theorem crcByte_lt (s : Nat) (b : UInt8) (h : s < 2 ^ 32) : crcByte s b < 2 ^ 32 :=
 crcN_lt 8 _ (Nat.xor_lt_two_pow h (by have:=b.toNat_lt;omega))
theorem crcAll_lt (s : Nat) (l : List UInt8) (h : s < 2 ^ 32) : crcAll s l < 2 ^ 32:=by
 induction l generalizing s with
 | nil=>exact h
 | cons b r ih=>exact ih _ (crcByte_lt s b h)
theorem crcAll_snoc (s : Nat) (l : List UInt8) (b : UInt8) : crcAll s (l ++ [b]) = crcByte (crcAll s l) b:=by simp [crcAll]
theorem sumB_lt (l : List UInt8) : sumB l < 2 ^ 32:=by unfold sumB;omega
/-- Bytes laid over bytes. -/
def xorB : List UInt8→List UInt8→List UInt8
 | a :: x,b :: y=>(a ^^^ b) :: xorB x y
 | _,_=>[]
/-- The number in bytes, the least significant first. -/
def lendB : List UInt8→Nat
 | []=>0
 | b :: r=>256 * lendB r + b.toNat
/-- To turn all bits is to take from the greatest. -/
theorem all_turned (s : Nat) (h : s < 2 ^ 32) : s ^^^ 4294967295 = 4294967295 - s:=by
 have e : 4294967295 - s = 2 ^ 32 - (s + 1):=by omega
 rw [e]
 apply Nat.eq_of_testBit_eq
 intro i
 rw [Nat.testBit_xor,Nat.testBit_two_pow_sub_succ h]
 have h2 : (4294967295 : Nat).testBit i = decide (i < 32):=by
  rw [show (4294967295 : Nat) = 2 ^ 32 - 1 by omega,Nat.testBit_two_pow_sub_one]
 rw [h2]
 by_cases hi : i < 32
 ·simp [hi]
 ·have:=Nat.testBit_lt_two_pow (Nat.lt_of_lt_of_le h (Nat.pow_le_pow_right (by omega) (show 32≤i by omega)))
  simp [hi,this]
/-- The length that a head tells; the sum that it tells; the body that it names. -/
def lenB (L : List UInt8) : Nat:=numB (L.take 4)
def sumOf (L : List UInt8) : Nat:=numB ((L.drop 4).take 4)
def bodyB (L : List UInt8) : List UInt8:=(L.drop 8).take (lenB L)
theorem lenB_lt (L : List UInt8) : lenB L < 4294967296:=by
 have h:=numB_lt (L.take 4)
 have h2 : 256 ^ (L.take 4).length≤256 ^ 4:=Nat.pow_le_pow_right (by omega) (by simp;omega)
 unfold lenB;omega
theorem sumOf_lt (L : List UInt8) : sumOf L < 4294967296:=by
 have h:=numB_lt ((L.drop 4).take 4)
 have h2 : 256 ^ ((L.drop 4).take 4).length≤256 ^ 4:=Nat.pow_le_pow_right (by omega) (by simp;omega)
 unfold sumOf;omega
/-- What Unwrap says: 0 is OK. -/
def uwErr (L : List UInt8) : Nat:=if L.length < 8 then 4 else if 60000 < lenB L then 3 else if L.length - 8 < lenB L then 4 else if sumB (bodyB L) = sumOf L then 0 else 5
theorem uwErr_short {L : List UInt8} (h : L.length < 8) : uwErr L = 4:=by unfold uwErr;rw [if_pos h]
theorem uwErr_long {L : List UInt8} (h : 8≤L.length) (h1 : 60000 < lenB L) : uwErr L = 3:=by unfold uwErr;rw [if_neg (by omega),if_pos h1]
theorem uwErr_cut {L : List UInt8} (h : 8≤L.length) (h1 : lenB L≤60000) (h2 : L.length - 8 < lenB L) : uwErr L = 4:=by unfold uwErr;rw [if_neg (by omega),if_neg (by omega),if_pos h2]
theorem uwErr_sum {L : List UInt8} (h : 8≤L.length) (h1 : lenB L≤60000) (h2 : lenB L≤L.length - 8) (h3 : sumB (bodyB L)≠sumOf L) : uwErr L = 5:=by unfold uwErr;rw [if_neg (by omega),if_neg (by omega),if_neg (by omega),if_neg h3]
theorem uwErr_ok {L : List UInt8} (h : 8≤L.length) (h1 : lenB L≤60000) (h2 : lenB L≤L.length - 8) (h3 : sumB (bodyB L) = sumOf L) : uwErr L = 0:=by unfold uwErr;rw [if_neg (by omega),if_neg (by omega),if_neg (by omega),if_pos h3]
theorem uwErr_zero {L : List UInt8} (h : uwErr L = 0) : 8≤L.length∧lenB L≤60000∧lenB L≤L.length - 8∧sumB (bodyB L) = sumOf L:=by
 unfold uwErr at h
 split at h
 ·cases h
 ·split at h
  ·cases h
  ·split at h
   ·cases h
   ·split at h
    ·exact ⟨by omega,by omega,by omega,by assumption⟩
    ·cases h
theorem uwErr_lt (L : List UInt8) : uwErr L < 6:=by
 unfold uwErr;split;(· omega)
 split;(· omega)
 split;(· omega)
 split <;> omega
theorem bodyB_len {L : List UInt8} (h : uwErr L = 0) : (bodyB L).length = lenB L:=by
 obtain ⟨h1,h2,h3,_⟩:=uwErr_zero h
 simp [bodyB];omega
/-- The bodies of the frames that stand there, and how many bytes these have: over at most k frames. -/
def allK : Nat→List UInt8→List (List UInt8)
 | 0,_=>[]
 | k + 1,L=>if uwErr L = 0 then bodyB L :: allK k (L.drop (8 + lenB L)) else []
def usedK : Nat→List UInt8→Nat
 | 0,_=>0
 | k + 1,L=>if uwErr L = 0 then 8 + lenB L + usedK k (L.drop (8 + lenB L)) else 0
def allB (L : List UInt8) : List (List UInt8):=allK L.length L
def usedB (L : List UInt8) : Nat:=usedK L.length L
theorem fuel (k : Nat) : ∀ (j : Nat) (L : List UInt8),L.length≤k→L.length≤j→allK k L = allK j L∧usedK k L = usedK j L:=by
 induction k with
 | zero =>
  intro j L h _
  have e : uwErr L≠0:=by rw [uwErr_short (by omega)];omega
  cases j with
  | zero=>exact ⟨rfl,rfl⟩
  | succ j=>rw [allK,usedK,allK,usedK,if_neg e,if_neg e];exact ⟨rfl,rfl⟩
 | succ k ih =>
  intro j L h hj
  cases j with
  | zero =>
   have e : uwErr L≠0:=by rw [uwErr_short (by omega)];omega
   rw [allK,usedK,allK,usedK,if_neg e,if_neg e];exact ⟨rfl,rfl⟩
  | succ j =>
   by_cases e : uwErr L = 0
   ·have:=ih j (L.drop (8 + lenB L)) (by simp;omega) (by simp;omega)
    rw [allK,usedK,allK,usedK,if_pos e,if_pos e,if_pos e,if_pos e,this.1,this.2];exact ⟨rfl,rfl⟩
   ·rw [allK,usedK,allK,usedK,if_neg e,if_neg e,if_neg e,if_neg e];exact ⟨rfl,rfl⟩
theorem all_no {L : List UInt8} (h : uwErr L≠0) : allB L = []∧usedB L = 0:=by
 unfold allB usedB
 cases hl : L.length with
 | zero=>exact ⟨rfl,rfl⟩
 | succ k=>rw [allK,usedK,if_neg h,if_neg h];exact ⟨rfl,rfl⟩
theorem all_yes {L : List UInt8} (h : uwErr L = 0) : allB L = bodyB L :: allB (L.drop (8 + lenB L))∧usedB L = 8 + lenB L + usedB (L.drop (8 + lenB L)):=by
 obtain ⟨h8,_⟩:=uwErr_zero h
 unfold allB usedB
 obtain ⟨k,hk⟩ : ∃ k,L.length = k + 1:=⟨L.length - 1,by omega⟩
 have:=fuel k (L.drop (8 + lenB L)).length (L.drop (8 + lenB L)) (by simp;omega) (Nat.le_refl _)
 rw [hk,allK,usedK,if_pos h,if_pos h,this.1,this.2];exact ⟨rfl,rfl⟩
theorem used_le (L : List UInt8) : usedB L≤L.length:=by
 suffices h : ∀ k (L : List UInt8),L.length≤k→usedB L≤L.length from h _ L (Nat.le_refl _)
 intro k
 induction k with
 | zero=>intro L h;rw [(all_no (by rw [uwErr_short (by omega)];omega)).2];omega
 | succ k ih =>
  intro L h
  by_cases e : uwErr L = 0
  ·obtain ⟨h8,_,h3,_⟩:=uwErr_zero e
   have:=ih (L.drop (8 + lenB L)) (by simp;omega)
   rw [(all_yes e).2]
   simp at this;omega
  ·rw [(all_no e).2];omega
theorem all_sizes (L : List UInt8) : (∀ l ∈ allB L,l.length≤60000)∧(allB L).length * 8≤L.length:=by
 suffices h : ∀ k (L : List UInt8),L.length≤k→(∀ l ∈ allB L,l.length≤60000)∧(allB L).length * 8≤L.length from h _ L (Nat.le_refl _)
 intro k
 induction k with
 | zero=>intro L h;rw [(all_no (by rw [uwErr_short (by omega)];omega)).1];simp
 | succ k ih =>
  intro L h
  by_cases e : uwErr L = 0
  ·obtain ⟨h8,h6,h3,_⟩:=uwErr_zero e
   obtain ⟨i1,i2⟩:=ih (L.drop (8 + lenB L)) (by simp;omega)
   rw [(all_yes e).1]
   refine ⟨fun l hl=>?_,?_⟩
   ·rcases List.mem_cons.1 hl with rfl | hl
    ·rw [bodyB_len e];exact h6
    ·exact i1 l hl
   ·simp at i2 ⊢;omega
  ·rw [(all_no e).1];simp
/-- A body's frame. -/
def frameB (l : List UInt8) : List UInt8:=putB l.length 4 ++ putB (sumB l) 4 ++ l
theorem frameB_len (l : List UInt8) : (frameB l).length = 8 + l.length:=by simp [frameB,putB_len];omega
theorem frame_back (l r : List UInt8) (h : l.length≤60000) :
  lenB (frameB l ++ r) = l.length∧bodyB (frameB l ++ r) = l∧uwErr (frameB l ++ r) = 0∧(frameB l ++ r).drop (8 + l.length) = r:=by
 have p1:=putB_len l.length 4
 have p2:=putB_len (sumB l) 4
 have hs:=sumB_lt l
 have e : frameB l ++ r = putB l.length 4 ++ (putB (sumB l) 4 ++ (l ++ r)):=by simp [frameB]
 have e1 : lenB (frameB l ++ r) = l.length:=by
  unfold lenB
  rw [e,take_app _ _ 4 p1,numB_put];exact Nat.mod_eq_of_lt (by omega)
 have e2 : sumOf (frameB l ++ r) = sumB l:=by
  unfold sumOf
  rw [e,drop_app _ _ 4 p1,take_app _ _ 4 p2,numB_put];exact Nat.mod_eq_of_lt (by omega)
 have e3 : (frameB l ++ r).drop 8 = l ++ r:=by
  have : frameB l ++ r = (putB l.length 4 ++ putB (sumB l) 4) ++ (l ++ r):=by simp [frameB]
  rw [this,drop_app _ _ 8 (by rw [List.length_append,p1,p2])]
 have e4 : bodyB (frameB l ++ r) = l:=by
  unfold bodyB
  rw [e3,e1,take_app _ _ _ rfl]
 have e5 : (frameB l ++ r).length = 8 + l.length + r.length:=by rw [List.length_append,frameB_len]
 refine ⟨e1,e4,uwErr_ok (by omega) (by omega) (by omega) (by rw [e4,e2]),?_⟩
 rw [drop_app _ _ _ (frameB_len l)]
/-- Frames one behind the other. -/
def catB : List (List UInt8)→List UInt8
 | []=>[]
 | l :: r=>frameB l ++ catB r
theorem cut_err (l R : List UInt8) (k : Nat) (hl : l.length≤60000) (hk : k < 8 + l.length) : uwErr ((frameB l ++ R).take k)≠0:=by
 have hF:=frameB_len l
 have hlen : ((frameB l ++ R).take k).length = k:=by simp;omega
 by_cases h8 : k < 8
 ·rw [uwErr_short (by omega)];omega
 ·have e1 : lenB ((frameB l ++ R).take k) = l.length:=by
   rw [← (frame_back l R hl).1]
   unfold lenB
   rw [List.take_take,Nat.min_eq_left (by omega)]
  rw [uwErr_cut (by omega) (by omega) (by omega)];omega
/-- Of frames, cut off anywhere, those are found that stand there whole. -/
theorem cuts (ls : List (List UInt8)) (h : ∀ l ∈ ls,l.length≤60000) (n k : Nat) (hn : n≤ls.length) (h1 : (catB (ls.take n)).length≤k) (h2 : n = ls.length∨k < (catB (ls.take (n + 1))).length) :
  allB ((catB ls).take k) = ls.take n∧usedB ((catB ls).take k) = (catB (ls.take n)).length:=by
 induction ls generalizing n k with
 | nil =>
  have : uwErr ((catB []).take k)≠0:=by rw [uwErr_short (by simp [catB])];omega
  obtain ⟨a1,a2⟩:=all_no this
  rw [a1,a2];simp [catB]
 | cons l r ih =>
  have hl:=h l (by simp)
  have hF:=frameB_len l
  cases n with
  | zero =>
   have hk : k < 8 + l.length:=by
    rcases h2 with h2 | h2
    ·simp at h2
    ·simpa [catB,hF] using h2
   obtain ⟨a1,a2⟩:=all_no (cut_err l (catB r) k hl hk)
   rw [catB,a1,a2];simp [catB]
  | succ n =>
   rw [List.take_succ_cons,catB,List.length_append,hF] at h1
   obtain ⟨j,rfl⟩ : ∃ j,k = (8 + l.length) + j:=⟨k - (8 + l.length),by omega⟩
   have hi:=ih (fun x hx=>h x (by simp [hx])) n j (by simp at hn;omega) (by omega) (by
    rcases h2 with h2 | h2
    ·left;simp at h2;omega
    ·right;rw [List.take_succ_cons,catB,List.length_append,hF] at h2;omega)
   have e : (catB (l :: r)).take ((8 + l.length) + j) = frameB l ++ (catB r).take j:=by
    rw [catB,← hF,List.take_length_add_append]
   obtain ⟨f1,f2,f3,f4⟩:=frame_back l ((catB r).take j) hl
   obtain ⟨y1,y2⟩:=all_yes f3
   rw [f1,f4] at y1 y2
   rw [e,y1,y2,f2,hi.1,hi.2,List.take_succ_cons,catB,List.length_append,hF]
   exact ⟨rfl,rfl⟩
end Go.Proofs.YtcfmifongbapkaaGreatDoor
