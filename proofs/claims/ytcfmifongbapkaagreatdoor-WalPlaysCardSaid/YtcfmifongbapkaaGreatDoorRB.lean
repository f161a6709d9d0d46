/- Contracts of a code.Reader's methods Take and TakeText. Conditions: the reader lies in memory as New lays it. Plain mathematics: reading values out of bytes one after the other; what more bytes behind change (nothing), what is put is taken. No condition. Plain mathematics of layer config: bounds that rise and whose a key is, the groups of many keys, replicas and their places. Contracts of the document's own Same, Put and PutText. Conditions: what they are handed lies in memory; the numbers are small. What came in as a slice of bytes reads as a list of bytes. -/
import Derived.Test.YtcfmifongbapkaaGreatDoorRA
import Derived.WalkKit
import Derived.Sort.Walk0
import Derived.Deep.QuietTactic
import Derived.BigQuiet
namespace Go.Proofs.YtcfmifongbapkaaGreatDoor
set_option maxHeartbeats 1000000
open Go.RowKit
open Go.Lib (hid)
theorem or_step (x c : Nat) (hx : x < 72057594037927936) (hc : c < 256) : bits .or .u64 (IntKind.u64.wrap ((x : Int) * 256)) (IntKind.u64.wrap (c : Int)) = ((x * 256 + c : Nat) : Int):=by
 have h1 : IntKind.u64.wrap ((x : Int) * 256) = ((x * 256 : Nat) : Int):=by rw [IntKind.wrap_u64];omega
 have h2 : IntKind.u64.wrap (c : Int) = (c : Int):=by rw [IntKind.wrap_u64];omega
 rw [h1,h2,u64_or_nat _ _ (by omega) (by omega),nat_join 8 _ _ (by omega) (by omega)]
theorem num_step (l : List UInt8) (k q : Nat) (hq : q < k) (hk : k≤l.length) (h8 : k≤8) :
  bits .or .u64 (IntKind.u64.wrap ((numB ((l.take k).take q) : Int) * 256)) (IntKind.u64.wrap ((l[q]'(by omega)).toNat : Int)) = ((numB ((l.take k).take (q + 1)) : Nat) : Int):=by
 have h1 : (l.take k).take (q + 1) = (l.take k).take q ++ [l[q]'(by omega)]:=by
  rw [take_snoc _ _ (by simp;omega)];simp
 have h2:=numB_lt ((l.take k).take q)
 have h3 : ((l.take k).take q).length≤7:=by simp;omega
 have h4 : 256 ^ ((l.take k).take q).length≤256 ^ 7:=Nat.pow_le_pow_right (by omega) h3
 rw [h1,numB_snoc]
 exact or_step _ _ (by omega) (UInt8.toNat_lt _)
theorem take_yes (g : Nat) (l : List UInt8) (k : Nat) (w : World) (h : RdAt w g l true) (hk : k≤l.length) (h8 : k≤8) :
  Calls Tryz.prog 80 #[.pointer (some ⟨g,0,none⟩),.int .i64 k] w fun e w'=>e = .returned (.int .u64 (numB (l.take k) : Nat))∧RdAt w' g (l.drop k) true∧Only g w w':=by
 have hd : decide (8 < k) = false:=by simp;omega
 go_enter Tryz.func80,Tryz.ntmps80
 go_wp2_with (go_at_call 110;((with_reducible refine (next_yes g l k _ h hk).mono ?_);rintro e w1 ⟨a,n,c,rfl,hb,hr,ho⟩))
 have hlen:=hb.len
 have hnk : n = k:=by rw [← hlen];simp;omega
 subst hnk
 clear hlen
 go_loop [5,16] (fun x i => ∃ q : Nat,q≤n∧i = .int .i64 q∧x = .int .u64 (numB ((l.take n).take q) : Nat)) (fun _ i=>n - (intOf i).toNat)
 case atStart=>exact ⟨0,by omega,rfl,rfl⟩
 case round =>
  obtain ⟨q,hq,rfl,rfl⟩:=hrel
  by_cases hlt : q < n
  ·obtain ⟨b,off,rfl,hbg,hc⟩:=hb.at_ (i:=q) (by simp;omega)
   have HS:=hid (num_step l n q hlt hk h8)
   go_wp2
   go_round
   case rel=>exact ⟨q + 1,by omega,by go_num,by rw [← HS.out]⟩
   case measure=>simp [intOf];omega
  ·have HE : Hid ((l.take n).take q = l.take n):=List.take_of_length_le (by simp;omega)
   go_wp2
   go_ret
   exact ⟨by rw [HE.out];rfl,hr,ho⟩
theorem take_no (g : Nat) (l : List UInt8) (ok : Bool) (n : Int) (w : World) (h : RdAt w g l ok) (hn : ok = false∨n < 0∨8 < n∨(l.length : Int) < n) :
  Calls Tryz.prog 80 #[.pointer (some ⟨g,0,none⟩),.int .i64 n] w fun e w'=>e = .returned (.int .u64 0)∧RdAt w' g [] false∧Only g w w':=by
 by_cases h8 : 8 < n
 ·go_enter Tryz.func80,Tryz.ntmps80
  go_wp2_with (go_at_call 109;((with_reducible refine (fail_any g l ok _ h).mono ?_);rintro e w1 ⟨rfl,hr,ho⟩))
  go_ret
  exact ⟨rfl,hr,ho⟩
 ·have hn' : ok = false∨n < 0∨(l.length : Int) < n:=by
   rcases hn with h | h | h | h
   ·exact .inl h
   ·exact .inr (.inl h)
   ·exact absurd h h8
   ·exact .inr (.inr h)
  clear hn
  have H:=hid hn'
  clear hn'
  go_enter Tryz.func80,Tryz.ntmps80
  go_wp2_with (go_at_call 110;((with_reducible refine (next_no g l ok n _ h H.out).mono ?_);rintro e w1 ⟨rfl,hr,ho⟩))
  refine wp_loop_rounds 1 ?_
  rw [rounds_succ]
  go_wp2
  go_ret
  exact ⟨rfl,hr,ho⟩
/-- How long the text is that is next, as its first two bytes tell. -/
def textLen (l : List UInt8) : Nat:=numB (l.take 2)
theorem textLen_lt (l : List UInt8) : textLen l < 65536:=by
 have h:=numB_lt (l.take 2)
 have h2 : 256 ^ (l.take 2).length≤256 ^ 2:=Nat.pow_le_pow_right (by omega) (by simp;omega)
 unfold textLen;omega
theorem take2_yes (g : Nat) (l : List UInt8) (w : World) (h : RdAt w g l true) (h2 : 2≤l.length) :
  Calls Tryz.prog 80 #[.pointer (some ⟨g,0,none⟩),.int .i64 2] w fun e w'=>e = .returned (.int .u64 (textLen l : Nat))∧RdAt w' g (l.drop 2) true∧Only g w w':=take_yes g l 2 w h h2 (by omega)
/-- Whether a text of at most m bytes is there whole. -/
def textOk (l : List UInt8) (m : Int) : Prop:=2≤l.length∧(textLen l : Int)≤m∧2 + textLen l≤l.length
theorem takeText_yes (g : Nat) (l : List UInt8) (m : Int) (w : World) (h : RdAt w g l true) (hT : textOk l m) :
  Calls Tryz.prog 151 #[.pointer (some ⟨g,0,none⟩),.int .i64 m] w fun e w'=>e = .returned (.string ⟨((l.drop 2).take (textLen l)).toArray⟩)∧RdAt w' g ((l.drop 2).drop (textLen l)) true∧Only g w w':=by
 obtain ⟨h2,h3,h4⟩:=hT
 have hlt:=textLen_lt l
 have hk : textLen l≤(l.drop 2).length:=by simp;omega
 have hd : decide (m < (textLen l : Int)) = false:=by simp;omega
 go_enter Tryz.func151,Tryz.ntmps151
 go_wp2_with (first | (go_at_call 80;((with_reducible refine (take2_yes g l _ h h2).mono ?_);rintro e w1 ⟨rfl,hr,ho⟩)) | (go_at_call 110;((with_reducible refine (next_yes g (l.drop 2) (textLen l) _ hr hk).mono ?_);rintro e w2 ⟨a,n,c,rfl,hb,hr2,ho2⟩;have hcv:=run_convert_bytes (P:=Tryz.prog) w2 34 5 9 Tryz.underlying34 Tryz.underlying5 Tryz.underlying9 g a n _ c hb)))
 go_ret
 exact ⟨rfl,hr2,ho.trans ho2⟩
theorem takeText_no (g : Nat) (l : List UInt8) (ok : Bool) (m : Int) (w : World) (h : RdAt w g l ok) (hT : ¬ (ok = true∧textOk l m)) :
  Calls Tryz.prog 151 #[.pointer (some ⟨g,0,none⟩),.int .i64 m] w fun e w'=>e = .returned (.string ⟨#[]⟩)∧RdAt w' g [] false∧Only g w w':=by
 have hc0:=fun W : World=>run_convert_bytes (P:=Tryz.prog) W 34 5 9 Tryz.underlying34 Tryz.underlying5 Tryz.underlying9 0 none 0 [] 0 BAt.nil
 by_cases h1 : ok = true∧2≤l.length
 ·obtain ⟨rfl,h2⟩:=h1
  have hlt:=textLen_lt l
  have hT' : m < (textLen l : Int)∨l.length < 2 + textLen l:=by
   rcases Classical.em (m < (textLen l : Int)) with h | h
   ·exact .inl h
   ·refine .inr ?_
    rcases Classical.em (l.length < 2 + textLen l) with h' | h'
    ·exact h'
    ·exact absurd ⟨rfl,h2,by omega,by omega⟩ hT
  clear hT
  by_cases hm : m < (textLen l : Int)
  ·clear hT'
   have hd : decide (m < (textLen l : Int)) = true:=by simp;omega
   go_enter Tryz.func151,Tryz.ntmps151
   go_wp2_with (first | (go_at_call 80;((with_reducible refine (take2_yes g l _ h h2).mono ?_);rintro e w1 ⟨rfl,hr,ho⟩)) | (go_at_call 109;((with_reducible refine (fail_any g _ true _ hr).mono ?_);rintro e w2 ⟨rfl,hr2,ho2⟩)))
   go_ret
   exact ⟨rfl,hr2,ho.trans ho2⟩
  ·have hd : decide (m < (textLen l : Int)) = false:=by simp;omega
   have hlong : true = false∨(textLen l : Int) < 0∨(((l.drop 2).length : Nat) : Int) < (textLen l : Int):=.inr (.inr (by simp;omega))
   have HL:=hid hlong
   clear hT' hlong
   go_enter Tryz.func151,Tryz.ntmps151
   go_wp2_with (first | (go_at_call 80;((with_reducible refine (take2_yes g l _ h h2).mono ?_);rintro e w1 ⟨rfl,hr,ho⟩)) | (go_at_call 110;((with_reducible refine (next_no g (l.drop 2) true _ _ hr (HL.out)).mono ?_);rintro e w2 ⟨rfl,hr2,ho2⟩)))
   go_ret
   exact ⟨rfl,hr2,ho.trans ho2⟩
 ·have hn : ok = false∨(2 : Int) < 0∨(8 : Int) < 2∨(l.length : Int) < 2:=by
   cases ok
   ·exact .inl rfl
   ·refine .inr (.inr (.inr ?_))
    have : ¬ 2≤l.length:=fun h=>h1 ⟨rfl,h⟩
    omega
  have HN:=hid hn
  clear hn hT h1
  by_cases hm : m < 0
  ·go_enter Tryz.func151,Tryz.ntmps151
   go_wp2_with (first | (go_at_call 80;((with_reducible refine (take_no g l ok 2 _ h HN.out).mono ?_);rintro e w1 ⟨rfl,hr,ho⟩)) | (go_at_call 109;((with_reducible refine (fail_any g _ false _ hr).mono ?_);rintro e w2 ⟨rfl,hr2,ho2⟩)))
   go_ret
   exact ⟨rfl,hr2,ho.trans ho2⟩
  ·go_enter Tryz.func151,Tryz.ntmps151
   go_wp2_with (first | (go_at_call 80;((with_reducible refine (take_no g l ok 2 _ h HN.out).mono ?_);rintro e w1 ⟨rfl,hr,ho⟩)) | (go_at_call 110;((with_reducible refine (next_no g _ false _ _ hr (.inl rfl)).mono ?_);rintro e w2 ⟨rfl,hr2,ho2⟩)))
   go_ret
   exact ⟨rfl,hr2,ho.trans ho2⟩
/-- A way to read: the value and what is left; none, if it isn't there. -/
abbrev Prs (α : Type):=List UInt8→Option (α×List UInt8)
def pureP {α : Type} (x : α) : Prs α:=fun l=>some (x,l)
def bindP {α β : Type} (p : Prs α) (f : α→Prs β) : Prs β:=fun l=>match p l with
 | some (x,r)=>f x r
 | none=>none
/-- n values in a row. -/
def repP {α : Type} (p : Prs α) : Nat→Prs (List α)
 | 0=>pureP []
 | n + 1=>bindP p fun x=>bindP (repP p n) fun xs=>pureP (x :: xs)
section
variable {α β : Type} {p : Prs α} {f : α→Prs β} {l r s : List UInt8} {x : α} {y : β}
theorem bind_some (h : p l = some (x,r)) : bindP p f l = f x r:=by unfold bindP;rw [h]
theorem bind_none (h : p l = none) : bindP p f l = none:=by unfold bindP;rw [h]
theorem bind_inv (h : bindP p f l = some (y,s)) : ∃ x r,p l = some (x,r)∧f x r = some (y,s):=by
 unfold bindP at h
 split at h
 ·rename_i x r e;exact ⟨x,r,e,h⟩
 ·cases h
/-- What stands behind is left as it stands. -/
def ExtP (p : Prs α) : Prop := ∀ l x r s,p l = some (x,r)→p (l ++ s) = some (x,r ++ s)
/-- i values of n were read: xs, and r is left. -/
def RunP (p : Prs α) (n : Nat) (l : List UInt8) (i : Nat) (xs : List α) (r : List UInt8) : Prop :=
 i≤n∧xs.length = i∧repP p n l = match repP p (n - i) r with
  | some (ys,s)=>some (xs ++ ys,s)
  | none=>none
theorem RunP.start (p : Prs α) (n : Nat) (l : List UInt8) : RunP p n l 0 [] l:=by
 refine ⟨Nat.zero_le _,rfl,?_⟩
 rw [Nat.sub_zero]
 split
 ·rename_i ys s e;rw [e];rfl
 ·assumption
theorem RunP.next {n i : Nat} {xs : List α} {r' : List UInt8} (h : RunP p n l i xs r) (hi : i < n) (hx : p r = some (x,r')) : RunP p n l (i + 1) (xs ++ [x]) r':=by
 obtain ⟨_,h2,h3⟩:=h
 refine ⟨hi,by simp [h2],?_⟩
 rw [h3]
 have e : n - i = (n - (i + 1)) + 1:=by omega
 rw [e,repP,bind_some hx]
 cases e2 : repP p (n - (i + 1)) r' with
 | none=>rw [bind_none e2]
 | some z =>
  obtain ⟨ys,s⟩:=z
  rw [bind_some e2]
  simp [pureP]
theorem RunP.fail {n i : Nat} {xs : List α} (h : RunP p n l i xs r) (hi : i < n) (hx : p r = none) : repP p n l = none:=by
 obtain ⟨_,_,h3⟩:=h
 rw [h3]
 have e : n - i = (n - (i + 1)) + 1:=by omega
 rw [e,repP,bind_none hx]
theorem RunP.done {n : Nat} {xs : List α} (h : RunP p n l n xs r) : repP p n l = some (xs,r):=by
 obtain ⟨_,_,h3⟩:=h
 rw [h3,Nat.sub_self]
 simp [repP,pureP]
/-- What is put is taken. -/
theorem back_rep (enc : α→List UInt8) (good : α→Prop) (h : ∀ x R,good x→p (enc x ++ R) = some (x,R)) : ∀ (xs : List α) (R : List UInt8),(∀ x ∈ xs,good x)→repP p xs.length (xs.flatMap enc ++ R) = some (xs,R)
 | [],R,_=>rfl
 | x :: xs,R,hg=>by
  rw [List.length_cons,repP,List.flatMap_cons,List.append_assoc,bind_some (h x _ (hg x (by simp))),bind_some (back_rep enc good h xs R fun y hy=>hg y (by simp [hy]))]
  rfl
end
/-- A number of k bytes; a text of at most lim bytes. -/
def numP (k : Nat) : Prs Nat:=fun l=>if k≤l.length then some (numB (l.take k),l.drop k) else none
noncomputable def textP (lim : Nat) : Prs (List UInt8):=open Classical in fun l=>if textOk l lim then some ((l.drop 2).take (textLen l),(l.drop 2).drop (textLen l)) else none
theorem back_num (x k : Nat) (R : List UInt8) (h : x < 256 ^ k) : numP k (putB x k ++ R) = some (x,R):=by
 unfold numP
 rw [if_pos (by rw [List.length_append,putB_len];omega),take_app _ _ k (putB_len x k),drop_app _ _ k (putB_len x k),numB_put,Nat.mod_eq_of_lt h]
theorem back_text (t R : List UInt8) (lim : Nat) (h : t.length≤lim) (hl : lim≤65535) : textP lim (textB t ++ R) = some (t,R):=by
 have ht : t.take 65535 = t:=List.take_of_length_le (by omega)
 have hm : min t.length 65535 = t.length:=by omega
 have e : textB t ++ R = putB t.length 2 ++ (t ++ R):=by rw [textB,ht,hm,List.append_assoc]
 have hp:=putB_len t.length 2
 have e1 : textLen (putB t.length 2 ++ (t ++ R)) = t.length:=by
  rw [textLen,take_app _ _ 2 hp,numB_put];exact Nat.mod_eq_of_lt (by omega)
 rw [e]
 unfold textP
 rw [if_pos (show textOk _ lim from ⟨by rw [List.length_append,hp];omega,by rw [e1];omega,by rw [e1,List.length_append,hp,List.length_append];omega⟩),e1,drop_app _ _ 2 hp,take_app _ _ _ rfl,drop_app _ _ _ rfl]
/-- Whether the bound b isn't above the key k. -/
def leB (b k : List UInt8) : Bool := !Op.bytesLess k b
theorem leB_eq (b k : List UInt8) : (Op.bytesLess b k || b == k) = leB b k:=by
 have h1:=bytesLess_eq b k
 have h2:=bytesLess_eq k b
 unfold leB
 rw [h1,h2,Bool.eq_iff_iff]
 simp only [Bool.or_eq_true,decide_eq_true_eq,beq_iff_eq,Bool.not_eq_true',decide_eq_false_iff_not]
 constructor
 ·rintro (h | rfl)
  ·exact fun h'=>List.lt_irrefl _ (List.lt_trans h h')
  ·exact List.lt_irrefl _
 ·intro h
  by_cases hb : b < k
  ·exact .inl hb
  ·exact .inr (List.le_antisymm (List.not_lt.1 h) (List.not_lt.1 hb))
/-- The same of texts, as the model compares them. -/
theorem leS (z s : ByteArray) : (Op.bytesLess z.toList s.toList || z.toList == s.toList) = leB z.data.toList s.data.toList:=by
 rw [ByteArray.toList_eq,ByteArray.toList_eq];exact leB_eq _ _
theorem ltS (z s : ByteArray) : Op.bytesLess z.toList s.toList = !leB s.data.toList z.data.toList:=by
 rw [ByteArray.toList_eq,ByteArray.toList_eq];unfold leB;rw [Bool.not_not]
/-- How many bounds aren't above k. -/
def homeC (Bs : List (List UInt8)) (k : List UInt8) : Nat:=(Bs.filter fun b=>leB b k).length
/-- Each bound lies behind the ones ahead of it. -/
def risesB (Bs : List (List UInt8)) : Prop:=Bs.Pairwise (· < ·)
/-- The groups that are among hs, rising. -/
def groupsC (n : Nat) (hs : List Nat) : List Nat:=(List.range n).filter fun g=>decide (g ∈ hs)
/-- The replica of a place; the place of a replica. -/
def atL : List Nat→Nat→Option (Nat×Nat)
 | [],_=>none
 | r :: R,p=>if p < r then some (0,p) else (atL R (p - r)).map fun x=>(x.1 + 1,x.2)
def placeL : List Nat→Nat→Nat→Option Nat
 | [],_,_=>none
 | r :: _,0,k=>if k < r then some k else none
 | r :: R,g + 1,k=>(placeL R g k).map (· + r)
set_option linter.unusedVariables false
/-- b is answered, and nothing but the draws has gone on. -/
def Reads1 (w : World) (v : Value) (e : Ending) (w' : World) : Prop:=e = .returned v∧∃ k,w' = w.drewN k
set_option maxRecDepth 100000 in
theorem refPut_any (a : Option Addr) (m c x : Nat) (n : Int) (l : List UInt8) (w : World) (hl : BAt w w.heap.size a m l) (hlen : m≤1099511627776) (hx : x < 18446744073709551616) (hn1 : -1000≤n) (hn2 : n≤1000) :
  Calls Tryz.prog 40 #[.slice a m c,.int .u64 x,.int .i64 n] w (NewB w (l ++ putB x (held n))):=by
 obtain ⟨i0,hi,hz0,hz1,hz2⟩:=info_parts Tryz.info5
 have hml:=hl.len
 have hk8:=held_le n
 obtain ⟨k,hk⟩ : ∃ k,k = held n:=⟨_,rfl⟩
 have hkn : (k : Int) = min (max n 0) 8:=by rw [hk];unfold held;omega
 rw [← hk] at hk8 ⊢
 clear hk
 go_enter Tryz.func40,Tryz.ntmps40
 go_wp2_with (at_builtin;(refine wpList_append_bytes _ rfl _ _ 34 rfl w.heap.size 5 i0 Tryz.underlying34 hi hz0 hz1 hz2 _ 0 [] rfl (World.ownsRow_nil _ _ _ _) w.heap.size a m l c rfl hl (by omega) (Nat.le_refl _) ?_;intro v' w1 hown hg;have hin : PutIn w w1 v' (0 + m) ([] ++ l):=⟨hown,(Below.refl _ _).grown hg (Nat.le_refl _) (by intro j hj;cases hj)⟩;clear hown hg))
 go_loopw [7,8] (fun v i wr => ∃ (j : Nat) (d : List UInt8) (q : Nat),j≤8∧i = .int .i64 j∧d ++ putB x (min k (8 - j)) = putB x k∧PutIn w wr v q (l ++ d)) (fun _ i _=>8 - (intOf i).toNat)
 case atStart=>exact ⟨0,[],_,by omega,rfl,by rw [Nat.min_eq_left (by omega)];rfl,hin.cast (by simp)⟩
 case round =>
  obtain ⟨j,d,q,hj,rfl,hd,hM⟩:=hrel
  clear hin
  by_cases h8 : j < 8
  ·have hdl : q≤1099511627800:=by have h1:=congrArg List.length hd;have h2:=hM.len;simp [putB_len] at h1 h2;omega
   by_cases hge : 8 - n≤(j : Int)
   ·have e1 : min k (8 - j) = (7 - j) + 1:=by omega
    rw [e1] at hd
    have HD:=hid hd;clear hd hml e1
    obtain ⟨t,ht⟩ : ∃ t : Nat,t = 7 - j:=⟨_,rfl⟩
    have ht' : (7 : Int) - (j : Int) = (t : Int):=by omega
    have htn : min k (8 - (j + 1)) = t:=by omega
    rw [← ht] at HD
    have hown:=hM.1
    have hsz:=hM.2.size
    clear ht hkn
    have HTN:=hid htn
    clear htn
    go_upto_region 7 with (fail)
    go_wp2_with (at_builtin;(refine wpList_append_bytes _ rfl _ _ 34 rfl w.heap.size 5 i0 Tryz.underlying34 hi hz0 hz1 hz2 _ q (l ++ d) rfl (hown.alloc _) (wr.heap.size + 1) (some ⟨wr.heap.size,0,none⟩) 1 [UInt8.ofNat (x / 256 ^ t)] 1 rfl (BAt.one _ _ _ _ (byte_eq x t)) (by omega) (by simp;omega) ?_;intro v2 w2 ho2 hg2;have R:=hM.next ho2 hg2;clear ho2 hg2))
    go_roundw
    case rel=>exact ⟨j + 1,d ++ [UInt8.ofNat (x / 256 ^ t)],_,by omega,by go_num,by rw [HTN.out,← HD.out];simp [putB],R.cast (by simp)⟩
    case measure=>simp [intOf];omega
   ·have e1 : min k (8 - j) = k:=by omega
    have e2 : min k (8 - (j + 1)) = k:=by omega
    rw [e1] at hd
    have HD:=hid hd;have E2:=hid e2;clear hd hml e1 e2 hkn
    go_wp2
    go_roundw
    case rel=>exact ⟨j + 1,d,_,by omega,by go_num,by rw [E2.out];exact HD.out,hM⟩
    case measure=>simp [intOf];omega
  ·have e1 : min k (8 - j) = 0:=by omega
   rw [e1] at hd
   have HR : PutIn w wr u7 q (l ++ putB x k):=hM.cast (by rw [← hd];simp [putB])
   clear hd hM hml hkn e1
   go_wp2
   go_ret
   exact HR.out
theorem refPutText_any (a : Option Addr) (m c : Nat) (s : ByteArray) (l : List UInt8) (w : World) (hl : BAt w w.heap.size a m l) (hlen : m≤1099511627000) (hs : s.size≤maxLen) :
  Calls Tryz.prog 107 #[.slice a m c,.string s] w (NewB w (l ++ textB s.data.toList)):=by
 obtain ⟨i0,hi,hz0,hz1,hz2⟩:=info_parts Tryz.info5
 unfold maxLen at hs
 by_cases h : s.size≤65535
 ·have hd : decide ((65535 : Int) < (s.size : Int)) = false:=by simp;omega
  go_enter Tryz.func107,Tryz.ntmps107
  go_wp2_with (first | (go_at_call 40;((with_reducible refine (refPut_any _ _ _ _ _ _ _ hl (by omega) (by omega) (by omega) (by omega)).mono ?_);rintro e w1 ⟨a1,n1,c1,rfl,ho,hb⟩)) | (at_builtin;(refine wpList_append_text _ rfl _ _ 34 9 rfl w.heap.size 5 i0 Tryz.underlying34 Tryz.underlying9 hi hz0 hz1 hz2 _ n1 _ rfl ho s rfl (by have:=own_len ho;simp [putB_len,held] at this;have:=hl.len;omega) hb.size ?_;intro v2 w2 ho2 hg2;have R : PutIn w w2 v2 _ _:=PutIn.next0 ⟨ho,hb⟩ ho2 hg2;clear ho2 hg2)))
  go_ret
  refine (R.cast ?_).out
  have ht : s.data.toList.take 65535 = s.data.toList:=List.take_of_length_le (by rw [Array.length_toList];exact h)
  have hz : min s.data.toList.length 65535 = s.size:=by rw [Array.length_toList];show min s.size 65535 = _;omega
  rw [textB,ht,hz,List.append_assoc];rfl
 ·have hd : decide ((65535 : Int) < (s.size : Int)) = true:=by simp;omega
  have ht : s.data.toList.take 65535 = (s.extract 0 65535).data.toList:=by simp
  have hz : min s.data.toList.length 65535 = 65535:=by rw [Array.length_toList];show min s.size 65535 = _;omega
  have hsz : (s.extract 0 65535).size≤65535:=by rw [ByteArray.size_extract];omega
  have hT : textB s.data.toList = putB 65535 2 ++ (s.extract 0 65535).data.toList:=by rw [textB,ht,hz]
  rw [hT]
  clear ht hz hT
  have hp : Calls Tryz.prog 40 #[.slice a m c,.int .u64 65535,.int .i64 2] w (NewB w (l ++ putB 65535 2)):=refPut_any a m c 65535 2 l w hl (by omega) (by omega) (by omega) (by omega)
  go_enter Tryz.func107,Tryz.ntmps107
  go_wp2_with (first | (go_at_call 40;((with_reducible refine hp.mono ?_);rintro e w1 ⟨a1,n1,c1,rfl,ho,hb⟩)) | (at_builtin;(refine wpList_append_text _ rfl _ _ 34 9 rfl w.heap.size 5 i0 Tryz.underlying34 Tryz.underlying9 hi hz0 hz1 hz2 _ n1 _ rfl ho (s.extract 0 65535) rfl (by have:=own_len ho;simp [putB_len] at this;have:=hl.len;omega) hb.size ?_;intro v2 w2 ho2 hg2;have R : PutIn w w2 v2 _ _:=PutIn.next0 ⟨ho,hb⟩ ho2 hg2;clear ho2 hg2)))
  go_ret
  refine (R.cast ?_).out
  rw [List.append_assoc]
theorem block_lt {w : World} {p : Addr} {v : Value} (h : w.cell? p = some v) : p.block < w.heap.size:=by
 rcases Nat.lt_or_ge p.block w.heap.size with h1 | h1
 ·exact h1
 ·exfalso
  unfold World.cell? at h
  rw [Array.getElem?_eq_none h1] at h
  simp at h
end Go.Proofs.YtcfmifongbapkaaGreatDoor
