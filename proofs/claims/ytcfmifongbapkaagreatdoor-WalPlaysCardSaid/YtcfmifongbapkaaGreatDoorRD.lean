/- Plain mathematics of layer txn: ids, formed transactions, their groups and cuts, their bytes. No condition. Contracts of the document's own reader: Take, TakeText, Left, End. Conditions: it lies in memory as its literal lays it, in a block above its bytes. The program's reader and the document's, carried on: whatever is done elsewhere leaves them as they are. Words for structs in memory: a box of cells, and a row of elements of k cells each. -/
import Derived.Test.YtcfmifongbapkaaGreatDoorRB
import Derived.Test.YtcfmifongbapkaaGreatDoorRC
import Derived.Deep.QuietTactic
import Derived.BigQuiet
namespace Go.Proofs.YtcfmifongbapkaaGreatDoor
set_option maxHeartbeats 1000000
/-- Ids: a session and a number. -/
abbrev IdN:=Int×Int
def idB (x : IdN) : Bool:=(decide (1≤x.1) && decide (x.1≤8)) && (decide (1≤x.2) && decide (x.2≤1048576))
theorem idB_iff (x : IdN) : idB x = true↔(1≤x.1∧x.1≤8)∧1≤x.2∧x.2≤1048576:=by simp [idB]
def lessId (a b : IdN) : Bool:=if a.1 = b.1 then decide (a.2 < b.2) else decide (a.1 < b.1)
/-- A transaction: its id, its reads (key, version), its writes (key, value). -/
structure Tx (V : Type) where
 id : IdN
 rs : List (List UInt8×Nat)
 ws : List (List UInt8×V)
section
variable {V : Type}
def keysR (t : Tx V) : List (List UInt8):=t.rs.map (·.1)
def keysW (t : Tx V) : List (List UInt8):=t.ws.map (·.1)
/-- A transaction is formed; fv: whether a value is. -/
def formT (fv : V→Bool) (t : Tx V) : Bool :=
 (idB t.id && (decide (t.rs.length≤6) && (decide (t.ws.length≤6) && !(decide (t.rs.length = 0) && decide (t.ws.length = 0))))) &&
  (((keysR t).all keyB && adjB (keysR t)) && (((keysW t).all keyB && t.ws.all fun x=>fv x.2) && adjB (keysW t)))
structure FormT (fv : V→Bool) (t : Tx V) : Prop where
 id : idB t.id = true
 rlen : t.rs.length≤6
 wlen : t.ws.length≤6
 some : ¬ (t.rs.length = 0∧t.ws.length = 0)
 rkeys : (keysR t).all keyB = true
 radj : adjB (keysR t) = true
 wkeys : (keysW t).all keyB = true
 vals : (t.ws.all fun x=>fv x.2) = true
 wadj : adjB (keysW t) = true
theorem formT_iff (fv : V→Bool) (t : Tx V) : formT fv t = true↔FormT fv t:=by
 unfold formT
 constructor
 ·intro h
  simp only [Bool.and_eq_true,decide_eq_true_eq,Bool.not_eq_true',Bool.and_eq_false_iff,decide_eq_false_iff_not] at h
  obtain ⟨⟨a,b,c,d⟩,⟨e,f⟩,⟨g,h⟩,i⟩:=h
  exact ⟨a,b,c,by omega,e,f,g,h,i⟩
 ·rintro ⟨a,b,c,d,e,f,g,h,i⟩
  simp only [Bool.and_eq_true,decide_eq_true_eq,Bool.not_eq_true',Bool.and_eq_false_iff,decide_eq_false_iff_not]
  exact ⟨⟨a,b,c,by omega⟩,⟨e,f⟩,⟨g,h⟩,i⟩
/-- Those whose keys are the group's. -/
def cutG {α : Type} (L : List (List UInt8)) (g : Int) (l : List (List UInt8×α)) : List (List UInt8×α):=l.filter fun x=>decide ((homeC L x.1 : Int) = g)
/-- The groups that have any. -/
def groupsT (R : List Int) (L : List (List UInt8)) (fv : V→Bool) (t : Tx V) : List Nat:=if formT fv t = true∧formedC R L = true then groupsC R.length ((keysR t ++ keysW t).map (homeC L)) else []
/-- A transaction's bytes. -/
def readB (x : List UInt8×Nat) : List UInt8:=textB x.1 ++ putB x.2 8
def writeB (ev : V→List UInt8) (x : List UInt8×V) : List UInt8:=textB x.1 ++ ev x.2
def idBytes (x : IdN) : List UInt8:=putB x.1.toNat 1 ++ putB x.2.toNat 4
def txnB (ev : V→List UInt8) (t : Tx V) : List UInt8 :=
 idBytes t.id ++ (putB t.rs.length 1 ++ (t.rs.flatMap readB ++ (putB t.ws.length 1 ++ t.ws.flatMap (writeB ev))))
/-- How it is read. -/
def idP : Prs IdN:=bindP (numP 1) fun s=>bindP (numP 4) fun q=>pureP ((s : Int),(q : Int))
noncomputable def readP : Prs (List UInt8×Nat):=bindP (textP 12) fun k=>bindP (numP 8) fun v=>pureP (k,v)
noncomputable def writeP (vp : Prs V) : Prs (List UInt8×V):=bindP (textP 12) fun k=>bindP vp fun v=>pureP (k,v)
noncomputable def txnP (vp : Prs V) : Prs (Tx V) :=
 bindP idP fun i=>bindP (numP 1) fun n=>bindP (repP readP n) fun rs=>bindP (numP 1) fun m=>bindP (repP (writeP vp) m) fun ws=>pureP ⟨i,rs,ws⟩
theorem back_id (x : IdN) (R : List UInt8) (h : idB x = true) : idP (idBytes x ++ R) = some (x,R):=by
 rw [idB_iff] at h
 unfold idP idBytes
 rw [List.append_assoc,bind_some (back_num _ 1 _ (by omega)),bind_some (back_num _ 4 _ (by omega))]
 have e1 : ((x.1.toNat : Nat) : Int) = x.1:=by omega
 have e2 : ((x.2.toNat : Nat) : Int) = x.2:=by omega
 unfold pureP
 rw [e1,e2]
theorem back_read (x : List UInt8×Nat) (R : List UInt8) (h : x.1.length≤12∧x.2 < 18446744073709551616) : readP (readB x ++ R) = some (x,R):=by
 unfold readP readB
 rw [List.append_assoc,bind_some (back_text _ _ 12 h.1 (by omega)),bind_some (back_num _ 8 _ (by have:=h.2;omega))];rfl
theorem back_write {vp : Prs V} {ev : V→List UInt8} {good : V→Prop} (hv : ∀ v R,good v→vp (ev v ++ R) = some (v,R)) (x : List UInt8×V) (R : List UInt8) (h : x.1.length≤12∧good x.2) : writeP vp (writeB ev x ++ R) = some (x,R):=by
 unfold writeP writeB
 rw [List.append_assoc,bind_some (back_text _ _ 12 h.1 (by omega)),bind_some (hv _ _ h.2)];rfl
theorem key_len {l : List UInt8} (h : keyB l = true) : l.length≤12:=by
 unfold keyB at h
 rw [Bool.and_eq_true,Bool.and_eq_true] at h
 exact of_decide_eq_true h.2.2
end
open Go.RowKit
/-- The document's reader in block g: its bytes, how many were taken, and whether it is well. -/
def RefAt (w : World) (B g : Nat) (L : List UInt8) (k : Nat) (ok : Bool) : Prop :=
 ∃ a n c,w.heap[g]? = some (.cells #[.slice a n c,.int .i64 k,.bool (!ok)] 99 (0,0))∧n≤c∧c≤maxLen∧BAt w B a n L∧k≤n∧B≤g
theorem ref_cells {w : World} {g : Nat} {x y z : Value} {t : TypeId} (h : w.heap[g]? = some (.cells #[x,y,z] t (0,0))) :
  w.cell? ⟨g,0,none⟩ = some x∧w.cell? ⟨g,1,none⟩ = some y∧w.cell? ⟨g,2,none⟩ = some z∧w.frozen? ⟨g,1,none⟩ = false∧w.frozen? ⟨g,2,none⟩ = false:=by
 refine ⟨by rw [cell_of_row _ _ _ _ _ _ h];rfl,by rw [cell_of_row _ _ _ _ _ _ h];rfl,by rw [cell_of_row _ _ _ _ _ _ h];rfl,?_,?_⟩ <;> simp [World.frozen?,h]
theorem only_drewN (q : Nat) {g : Nat} {a w : World} (h : Only g a w) : Only g a (w.drewN q):=⟨h.os,h.tape,h.output,h.size,h.block⟩
theorem only_set_drewN (q g i : Nat) (w : World) (u : Value) : Only g w ((w.drewN q).setCell ⟨g,i,none⟩ u):=(only_drewN q (Only.refl g w)).trans (only_set _ g i u)
theorem ref_failed {w : World} {B g n c k q : Nat} {a : Option Addr} {L : List UInt8} {f : Bool} (hh : w.heap[g]? = some (.cells #[.slice a n c,.int .i64 k,.bool f] 99 (0,0))) (h1 : n≤c) (h2 : c≤maxLen) (hl : BAt w B a n L) (hk : k≤n) (hB : B≤g) :
  RefAt ((w.drewN q).setCell ⟨g,2,none⟩ (.bool true)) B g L k false∧Only g w ((w.drewN q).setCell ⟨g,2,none⟩ (.bool true)):=by
 have ho:=only_set_drewN q g 2 w (.bool true)
 have hh' : (w.drewN q).heap[g]? = some (.cells #[.slice a n c,.int .i64 k,.bool f] 99 (0,0)):=hh
 exact ⟨⟨a,n,c,by rw [set_row hh'];rfl,h1,h2,hl.grown ho (by have:=lt_of_heap hh;omega) hB,hk,hB⟩,ho⟩
theorem refTake_no (B g : Nat) (L : List UInt8) (k : Nat) (ok : Bool) (n : Int) (w : World) (h : RefAt w B g L k ok) (hn : ok = false∨n < 0∨8 < n∨(((L.drop k).length : Nat) : Int) < n) :
  Calls Tryz.prog 45 #[.pointer (some ⟨g,0,none⟩),.int .i64 n] w fun e w'=>e = .returned (.int .u64 0)∧RefAt w' B g L k false∧Only g w w':=by
 obtain ⟨a,m,c,hh,h1,h2,hl,hk,hBg⟩:=h
 have hlen:=hl.len
 obtain ⟨c0,c1,c2,f1,f2⟩:=ref_cells hh
 have HF:=fun q=>@ref_failed w B g m c k q a L _ hh h1 h2 hl hk hBg
 have HN : ok = false∨n < 0∨8 < n∨(m : Int) - (k : Int) < n:=by
  rcases hn with h | h | h | h
  ·exact .inl h
  ·exact .inr (.inl h)
  ·exact .inr (.inr (.inl h))
  ·refine .inr (.inr (.inr ?_));rw [List.length_drop] at h;omega
 clear hn hl hlen hh
 unfold maxLen at h2
 cases ok
 ·clear HN
  go_enter Tryz.func45,Tryz.ntmps45
  go_upto_region 1 with (fail)
  go_quiet (fail)
  go_wp2
  go_ret
  exact ⟨rfl,HF _⟩
 ·by_cases d1 : n < 0
  ·clear HN
   go_enter Tryz.func45,Tryz.ntmps45
   go_upto_region 1 with (fail)
   go_quiet (fail)
   go_wp2
   go_ret
   exact ⟨rfl,HF _⟩
  ·by_cases d2 : 8 < n
   ·clear HN
    have e1 : decide (n < 0) = false:=by simp;omega
    go_enter Tryz.func45,Tryz.ntmps45
    go_upto_region 1 with (fail)
    go_quiet (fail)
    go_wp2
    go_ret
    exact ⟨rfl,HF _⟩
   ·have d3 : (m : Int) - (k : Int) < n:=by
     rcases HN with h | h | h | h
     ·cases h
     ·omega
     ·omega
     ·exact h
    clear HN
    have e1 : decide (n < 0) = false:=by simp;omega
    have e2 : decide (8 < n) = false:=by simp;omega
    have e3 : decide ((m : Int) - (k : Int) < n) = true:=by simp;omega
    have e4 : IntKind.i64.wrap ((m : Int) - (k : Int)) = (m : Int) - (k : Int):=by rw [IntKind.wrap_i64];omega
    go_enter Tryz.func45,Tryz.ntmps45
    go_upto_region 1 with (fail)
    go_quiet (fail)
    go_wp2
    go_ret
    exact ⟨rfl,HF _⟩
theorem ref_moved {w : World} {B g n c k k' q : Nat} {a : Option Addr} {L : List UInt8} (hh : w.heap[g]? = some (.cells #[.slice a n c,.int .i64 k,.bool (!true)] 99 (0,0))) (h1 : n≤c) (h2 : c≤maxLen) (hl : BAt w B a n L) (hk : k'≤n) (hB : B≤g) :
  RefAt ((w.drewN q).setCell ⟨g,1,none⟩ (.int .i64 k')) B g L k' true∧Only g w ((w.drewN q).setCell ⟨g,1,none⟩ (.int .i64 k')):=by
 have ho:=only_set_drewN q g 1 w (.int .i64 k')
 have hh' : (w.drewN q).heap[g]? = some (.cells #[.slice a n c,.int .i64 k,.bool (!true)] 99 (0,0)):=hh
 exact ⟨⟨a,n,c,by rw [set_row hh'];rfl,h1,h2,hl.grown ho (by have:=lt_of_heap hh;omega) hB,hk,hB⟩,ho⟩
theorem refTake_yes (B g : Nat) (L : List UInt8) (k t : Nat) (w : World) (h : RefAt w B g L k true) (ht : t≤(L.drop k).length) (h8 : t≤8) :
  Calls Tryz.prog 45 #[.pointer (some ⟨g,0,none⟩),.int .i64 t] w fun e w'=>e = .returned (.int .u64 (numB ((L.drop k).take t) : Nat))∧RefAt w' B g L (k + t) true∧Only g w w':=by
 obtain ⟨a,m,c,hh,h1,h2,hl,hk,hBg⟩:=h
 have hlen:=hl.len
 have htl : t≤m - k:=by rw [List.length_drop] at ht;omega
 obtain ⟨c0,c1,c2,f1,f2⟩:=ref_cells hh
 have HF:=fun q=>@ref_moved w B g m c k (k + t) q a L hh h1 h2 hl (by omega) hBg
 clear hh
 unfold maxLen at h2
 have e1 : decide ((t : Int) < 0) = false:=by simp
 have e2 : decide (8 < (t : Int)) = false:=by simp;omega
 have e3 : decide ((m : Int) - (k : Int) < (t : Int)) = false:=by simp;omega
 have e4 : IntKind.i64.wrap ((m : Int) - (k : Int)) = (m : Int) - (k : Int):=by rw [IntKind.wrap_i64];omega
 go_enter Tryz.func45,Tryz.ntmps45
 go_upto_region 1 with (fail)
 go_quiet (fail)
 go_wp2
 clear e1 e2 e3 e4
 go_loopw [5,6] (fun x i wr => ∃ (j q : Nat),j≤t∧i = .int .i64 j∧x = .int .u64 (numB ((L.drop k).take j) : Nat)∧wr = w.drewN q) (fun _ i _=>t - (intOf i).toNat)
 case atStart=>exact ⟨0,_,by omega,rfl,rfl,rfl⟩
 case round =>
  obtain ⟨j,q,hj,rfl,rfl,rfl⟩:=hrel
  by_cases hlt : j < t
  ·obtain ⟨b,off,rfl,hbg,hc⟩:=hl.at_ (i:=k + j) (by omega)
   have hS : numB ((L.drop k).take (j + 1)) = numB ((L.drop k).take j) * 256 + (L[k + j]'(by omega)).toNat:=by
    rw [take_snoc _ _ (by rw [List.length_drop];omega),numB_snoc];simp
   have hB : numB ((L.drop k).take j) < 72057594037927936:=by
    have h3:=numB_lt ((L.drop k).take j)
    have h4 : ((L.drop k).take j).length≤7:=by simp;omega
    have h5 : 256 ^ ((L.drop k).take j).length≤256 ^ 7:=Nat.pow_le_pow_right (by omega) h4
    omega
   have hb8:=(L[k + j]'(by omega)).toNat_lt
   generalize numB ((L.drop k).take j) = X at *
   generalize (L[k + j]'(by omega)).toNat = V at *
   have HS:=Lib.hid hS
   clear hS hl hlen ht
   have g1 : IntKind.i64.wrap ((k : Int) + (j : Int)) = (k : Int) + (j : Int):=by rw [IntKind.wrap_i64];omega
   have g2 : ((k : Int) + (j : Int)).toNat = k + j:=by omega
   have g3 : 0≤(k : Int) + (j : Int):=by omega
   have g4 : IntKind.u64.wrap ((X : Int) * 256) = (X : Int) * 256:=by rw [IntKind.wrap_u64];omega
   have g5 : IntKind.u64.wrap ((X : Int) * 256 + (V : Int)) = (X : Int) * 256 + (V : Int):=by rw [IntKind.wrap_u64];omega
   have g6 : (k : Int) + (j : Int) < (m : Int):=by omega
   have g7 : IntKind.u64.wrap (V : Int) = (V : Int):=by rw [IntKind.wrap_u64];omega
   go_upto_region 8 with (fail)
   go_quiet (fail)
   clear g1 g2 g3 g4 g5 g6 g7
   go_wp2
   go_roundw
   case rel=>exact ⟨j + 1,_,by omega,by go_num,by rw [HS.out];go_num,rfl⟩
   case measure=>simp [intOf];omega
  ·obtain rfl : j = t:=by omega
   have hki : (k : Int) + (j : Int)≤9223372036854775807:=by omega
   clear hl hlen ht
   go_wp2
   go_ret
   exact ⟨rfl,HF _⟩
theorem refTake2_yes (B g : Nat) (L : List UInt8) (k : Nat) (w : World) (h : RefAt w B g L k true) (ht : 2≤(L.drop k).length) :
  Calls Tryz.prog 45 #[.pointer (some ⟨g,0,none⟩),.int .i64 2] w fun e w'=>e = .returned (.int .u64 (textLen (L.drop k) : Nat))∧RefAt w' B g L (k + 2) true∧Only g w w':=refTake_yes B g L k 2 w h ht (by omega)
theorem refTakeText_no (B g : Nat) (L : List UInt8) (k : Nat) (ok : Bool) (m : Int) (w : World) (h : RefAt w B g L k ok) (hT : ¬ (ok = true∧textOk (L.drop k) m)) :
  Calls Tryz.prog 115 #[.pointer (some ⟨g,0,none⟩),.int .i64 m] w fun e w'=>e = .returned (.string ⟨#[]⟩)∧(∃ k',RefAt w' B g L k' false)∧Only g w w':=by
 by_cases h1 : ok = true∧2≤(L.drop k).length
 ·obtain ⟨rfl,h2⟩:=h1
  have hlt:=textLen_lt (L.drop k)
  have hT' : m < (textLen (L.drop k) : Int)∨(L.drop k).length < 2 + textLen (L.drop k):=by
   rcases Classical.em (m < (textLen (L.drop k) : Int)) with h | h
   ·exact .inl h
   ·refine .inr ?_
    rcases Classical.em ((L.drop k).length < 2 + textLen (L.drop k)) with h' | h'
    ·exact h'
    ·exact absurd ⟨rfl,h2,by omega,by omega⟩ hT
  clear hT
  have hrt:=refTake2_yes B g L k w h h2
  have hld : (L.drop k).length = L.length - k:=by simp
  generalize textLen (L.drop k) = t at *
  have hT2 : m < (t : Int)∨L.length - k < 2 + t:=by rw [hld] at hT';exact hT'
  have h2' : 2≤L.length - k:=by omega
  clear hT' hld h2
  by_cases hm : m < (t : Int)
  ·clear hT2
   have hd : decide (m < (t : Int)) = true:=by simp;omega
   go_enter Tryz.func115,Tryz.ntmps115
   go_upto_region 2 with (go_at_call 45;((with_reducible refine hrt.mono ?_);rintro e w1 ⟨rfl,hr,ho⟩))
   obtain ⟨a,n,c,hh,b1,b2,hl,hk,hBg⟩:=hr
   obtain ⟨c0,c1,c2,f1,f2⟩:=ref_cells hh
   have HF:=fun q=>@ref_failed w1 B g n c (k + 2) q a L _ hh b1 b2 hl hk hBg
   clear hh hrt
   go_quiet (fail)
   go_wp2
   go_ret
   exact ⟨rfl,⟨_,(HF _).1⟩,ho.trans (HF _).2⟩
  ·have hd : decide (m < (t : Int)) = false:=by simp;omega
   go_enter Tryz.func115,Tryz.ntmps115
   go_upto_region 2 with (go_at_call 45;((with_reducible refine hrt.mono ?_);rintro e w1 ⟨rfl,hr,ho⟩))
   obtain ⟨a,n,c,hh,b1,b2,hl,hk,hBg⟩:=hr
   have hlen:=hl.len
   obtain ⟨c0,c1,c2,f1,f2⟩:=ref_cells hh
   have HF:=fun q=>@ref_failed w1 B g n c (k + 2) q a L _ hh b1 b2 hl hk hBg
   unfold maxLen at b2
   have e3 : decide ((n : Int) - ((k + 2 : Nat) : Int) < (t : Int)) = true:=by simp;omega
   have e4 : IntKind.i64.wrap ((n : Int) - ((k + 2 : Nat) : Int)) = (n : Int) - ((k + 2 : Nat) : Int):=by rw [IntKind.wrap_i64];omega
   clear hh hrt hlen hT2
   generalize k + 2 = k2 at *
   go_quiet (fail)
   go_wp2
   go_ret
   exact ⟨rfl,⟨_,(HF _).1⟩,ho.trans (HF _).2⟩
 ·have hn : ok = false∨(2 : Int) < 0∨(8 : Int) < 2∨(((L.drop k).length : Nat) : Int) < 2:=by
   cases ok
   ·exact .inl rfl
   ·refine .inr (.inr (.inr ?_))
    have : ¬ 2≤(L.drop k).length:=fun h=>h1 ⟨rfl,h⟩
    omega
  have hrt:=refTake_no B g L k ok 2 w h hn
  clear hn hT h1
  go_enter Tryz.func115,Tryz.ntmps115
  go_upto_region 2 with (go_at_call 45;((with_reducible refine hrt.mono ?_);rintro e w1 ⟨rfl,hr,ho⟩))
  obtain ⟨a,n,c,hh,b1,b2,hl,hk,hBg⟩:=hr
  obtain ⟨c0,c1,c2,f1,f2⟩:=ref_cells hh
  have HF:=fun q=>@ref_failed w1 B g n c k q a L _ hh b1 b2 hl hk hBg
  clear hh hrt
  go_quiet (fail)
  go_wp2
  go_ret
  exact ⟨rfl,⟨_,(HF _).1⟩,ho.trans (HF _).2⟩
theorem refTakeText_yes (B g : Nat) (L : List UInt8) (k : Nat) (m : Int) (w : World) (h : RefAt w B g L k true) (hT : textOk (L.drop k) m) :
  Calls Tryz.prog 115 #[.pointer (some ⟨g,0,none⟩),.int .i64 m] w fun e w'=>e = .returned (.string ⟨(((L.drop k).drop 2).take (textLen (L.drop k))).toArray⟩)∧RefAt w' B g L (k + 2 + textLen (L.drop k)) true∧Only g w w':=by
 obtain ⟨h2,h3,h4⟩:=hT
 have hlt:=textLen_lt (L.drop k)
 have hrt:=refTake2_yes B g L k w h h2
 have hld : (L.drop k).length = L.length - k:=by simp
 generalize textLen (L.drop k) = t at *
 have hd : decide (m < (t : Int)) = false:=by simp;omega
 have h5 : 2 + t≤L.length - k:=by omega
 have h6 : ((L.drop k).drop 2).take t = (L.drop (k + 2)).take t:=by rw [List.drop_drop]
 rw [h6]
 obtain ⟨k2,hk2⟩ : ∃ k2,k2 = k + 2:=⟨_,rfl⟩
 rw [← hk2] at hrt ⊢
 have h7 : k2 + t≤L.length:=by omega
 clear h2 h4 h6 hld h5 hk2
 go_enter Tryz.func115,Tryz.ntmps115
 go_upto_region 2 with (go_at_call 45;((with_reducible refine hrt.mono ?_);rintro e w1 ⟨rfl,hr,ho⟩))
 obtain ⟨a,n,c,hh,b1,b2,hl,hk,hBg⟩:=hr
 have hlen:=hl.len
 obtain ⟨c0,c1,c2,f1,f2⟩:=ref_cells hh
 have hkt : k2 + t≤n:=by omega
 have HF : ∀ q,RefAt ((w1.drewN q).setCell ⟨g,1,none⟩ (.int .i64 ((k2 : Int) + (t : Int)))) B g L (k2 + t) true∧Only g w1 ((w1.drewN q).setCell ⟨g,1,none⟩ (.int .i64 ((k2 : Int) + (t : Int)))):=fun q=>by rw [← Int.natCast_add];exact ref_moved hh b1 b2 hl hkt hBg
 unfold maxLen at b2
 clear hh hrt
 have hdr:=(hl.drop (k:=k2) (cap:=c) (by omega) b1).take (k:=t) (by omega)
 have e3 : decide ((n : Int) - (k2 : Int) < (t : Int)) = false:=by simp;omega
 have e4 : IntKind.i64.wrap ((n : Int) - (k2 : Int)) = (n : Int) - (k2 : Int):=by rw [IntKind.wrap_i64];omega
 have e5 : IntKind.i64.wrap ((k2 : Int) + (t : Int)) = (k2 : Int) + (t : Int):=by rw [IntKind.wrap_i64];omega
 have e6 : ((k2 : Int) + (t : Int)).toNat = k2 + t:=by omega
 have e7 : 0≤(k2 : Int) + (t : Int):=by omega
 clear hlen hl h7
 by_cases hc : c = k2
 ·rw [if_pos hc] at hdr
  subst hc
  have hcv : ∀ q,(convert 34 9 (.slice a t 0)).run Tryz.prog (w1.drewN q) = .ok (.string ⟨((L.drop c).take t).toArray⟩) (w1.drewN q):=fun q=>run_convert_bytes (P:=Tryz.prog) _ 34 5 9 Tryz.underlying34 Tryz.underlying5 Tryz.underlying9 B _ t _ _ (hdr.drewN q)
  go_quiet (fail)
  go_upto_region 5 with (fail)
  go_quiet (fail)
  clear hcv e3 e4 e6 e7
  go_wp2
  go_ret
  exact ⟨rfl,(HF _).1,ho.trans (HF _).2⟩
 ·rw [if_neg hc] at hdr
  have hcv : ∀ q,(convert 34 9 (.slice (a.map (·.add k2)) t (c - k2))).run Tryz.prog (w1.drewN q) = .ok (.string ⟨((L.drop k2).take t).toArray⟩) (w1.drewN q):=fun q=>run_convert_bytes (P:=Tryz.prog) _ 34 5 9 Tryz.underlying34 Tryz.underlying5 Tryz.underlying9 B _ t _ _ (hdr.drewN q)
  go_quiet (fail)
  go_upto_region 5 with (fail)
  go_quiet (fail)
  clear hcv e3 e4 e6 e7
  go_wp2
  go_ret
  exact ⟨rfl,(HF _).1,ho.trans (HF _).2⟩
theorem RdAt.keep {w w' : World} {g : Nat} {l : List UInt8} {ok : Bool} (h : RdAt w g l ok) (hk : ∀ b,b≤g→w'.heap[b]? = w.heap[b]?) : RdAt w' g l ok:=by
 obtain ⟨a,n,c,hh,h1,h2,hl,hf⟩:=h
 exact ⟨a,n,c,(hk g (Nat.le_refl _)).trans hh,h1,h2,hl.keep fun p hp=>World.cell?_of_block (hk _ (by omega)),hf⟩
theorem RdAt.lt {w : World} {g : Nat} {l : List UInt8} {ok : Bool} (h : RdAt w g l ok) : g < w.heap.size:=by
 obtain ⟨a,n,c,hh,_⟩:=h;exact lt_of_heap hh
theorem RdAt.below {w w' : World} {g : Nat} {l : List UInt8} {ok : Bool} (h : RdAt w g l ok) (hb : Below w.heap.size w w') : RdAt w' g l ok:=by
 obtain ⟨a,n,c,hh,h1,h2,hl,hf⟩:=h
 exact ⟨a,n,c,(hb.block g (lt_of_heap hh)).trans hh,h1,h2,hl.keep fun p hp=>hb.cell (by have:=lt_of_heap hh;omega),hf⟩
/-- A cell that holds a number is none of a reader's. -/
theorem RdAt.not_int {W : World} {g : Nat} {l : List UInt8} {ok : Bool} (h : RdAt W g l ok) {p : Addr} {k : IntKind} {v : Int} (hp : W.cell? p = some (.int k v)) : p.block≠g:=by
 rintro rfl
 obtain ⟨a,n,c,hh,_⟩:=h
 obtain ⟨b,off,fld⟩:=p
 cases fld with
 | some x =>
  simp only [World.cell?] at hp
  split at hp <;> simp at hp
 | none =>
  rw [cell_of_row _ _ _ _ _ _ hh] at hp
  match off,hp with
  | 0,hp=>simp at hp
  | 1,hp=>simp at hp
  | n + 2,hp=>simp at hp
theorem RefAt.keep {w w' : World} {B g k : Nat} {L : List UInt8} {ok : Bool} (h : RefAt w B g L k ok) (hk : ∀ b,b≤g→w'.heap[b]? = w.heap[b]?) : RefAt w' B g L k ok:=by
 obtain ⟨a,n,c,hh,h1,h2,hl,h3,h4⟩:=h
 exact ⟨a,n,c,(hk g (Nat.le_refl _)).trans hh,h1,h2,hl.keep fun p hp=>World.cell?_of_block (hk _ (by omega)),h3,h4⟩
theorem RefAt.lt {w : World} {B g k : Nat} {L : List UInt8} {ok : Bool} (h : RefAt w B g L k ok) : g < w.heap.size:=by
 obtain ⟨a,n,c,hh,_⟩:=h;exact lt_of_heap hh
theorem RefAt.flag {w : World} {B g k : Nat} {L : List UInt8} {ok : Bool} (h : RefAt w B g L k ok) : w.cell? ⟨g,2,none⟩ = some (.bool (!ok))∧w.frozen? ⟨g,2,none⟩ = false:=by
 obtain ⟨a,n,c,hh,_⟩:=h
 obtain ⟨_,_,c2,_,f2⟩:=ref_cells hh
 exact ⟨c2,f2⟩
theorem RefAt.fails {w : World} {B g k : Nat} {L : List UInt8} {ok : Bool} (h : RefAt w B g L k ok) : RefAt (w.setCell ⟨g,2,none⟩ (.bool true)) B g L k false:=by
 obtain ⟨a,n,c,hh,h1,h2,hl,h3,h4⟩:=h
 exact (ref_failed (q:=0) hh h1 h2 hl h3 h4).1
theorem RefAt.below {w w' : World} {B G k : Nat} {L : List UInt8} {ok : Bool} (h : RefAt w B G L k ok) (hb : Below w.heap.size w w') : RefAt w' B G L k ok:=h.keep fun b hb'=>hb.block _ (by have:=h.lt;omega)
/-- A box of cells in block g. -/
def BoxC (w : World) (g : Nat) (cs : Array Value) (t : TypeId) : Prop:=w.heap[g]? = some (.cells cs t (0,0))
section
variable {w w' : World} {g B r : Nat} {cs : Array Value} {t : TypeId}
theorem BoxC.new (w : World) (cs : Array Value) (t : TypeId) : BoxC (w.alloc (.cells cs t)) w.heap.size cs t:=heap_alloc_new _ _
theorem BoxC.lt (h : BoxC w g cs t) : g < w.heap.size:=lt_of_heap h
theorem BoxC.below (h : BoxC w g cs t) (hb : Below w.heap.size w w') : BoxC w' g cs t:=(hb.block g h.lt).trans h
theorem BoxC.only (h : BoxC w g cs t) (ho : Only r w w') (hr : g≠r) : BoxC w' g cs t:=(ho.block g h.lt (fun e=>by injection e with e;exact hr e)).trans h
theorem BoxC.grown {row : Option Nat} (h : BoxC w g cs t) (ho : w.grownBy w' row) (hr : some g≠row) : BoxC w' g cs t:=(ho.block g h.lt hr).trans h
theorem BoxC.drewN (h : BoxC w g cs t) (k : Nat) : BoxC (w.drewN k) g cs t:=h
theorem BoxC.cell (h : BoxC w g cs t) (i : Nat) (u : Value) (hu : cs[i]? = some u) : w.cell? ⟨g,i,none⟩ = some u:=by rw [cell_of_row _ _ _ _ _ _ h];exact hu
theorem BoxC.frozen (h : BoxC w g cs t) (i : Nat) : w.frozen? ⟨g,i,none⟩ = false:=by
 have h' : w.heap[g]? = some (.cells cs t (0,0)):=h
 simp [World.frozen?,h']
theorem BoxC.set (h : BoxC w g cs t) (i : Nat) (u : Value) : BoxC (w.setCell ⟨g,i,none⟩ u) g (cs.setIfInBounds i u) t:=set_row h i u
theorem BoxC.far (h : BoxC w g cs t) (i : Nat) (u : Value) (hne : g≠r) : BoxC (w.setCell ⟨r,i,none⟩ u) g cs t:=(Below.heap_setCell _ _ _ _ hne).trans h
theorem BoxC.two {x y : Value} (h : BoxC w g #[x,y] t) : w.cell? ⟨g,0,none⟩ = some x∧w.cell? ⟨g,1,none⟩ = some y:=⟨h.cell 0 x rfl,h.cell 1 y rfl⟩
end
/-- Boxes that lie there, and what was there before w stands. -/
def Boxs (w W : World) (l : List (Nat×Array Value×TypeId)) : Prop:=Below w.heap.size w W∧∀ b ∈ l,BoxC W b.1 b.2.1 b.2.2
section
variable {w W W' : World} {l : List (Nat×Array Value×TypeId)}
theorem Boxs.bel (h : Boxs w W l) : Below w.heap.size w W:=h.1
theorem Boxs.below (h : Boxs w W l) (hb : Below W.heap.size W W') : Boxs w W' l:=⟨h.1.trans (hb.mono h.1.size),fun b hb'=>(h.2 b hb').below hb⟩
theorem Boxs.drewN (h : Boxs w W l) (k : Nat) : Boxs w (W.drewN k) l:=⟨below_drewN k h.1,fun b hb=>(h.2 b hb).drewN k⟩
theorem Boxs.drew (h : Boxs w W l) : Boxs w W.drew l:=h.drewN 1
theorem Boxs.get (h : Boxs w W l) (i : Nat) (g : Nat) (cs : Array Value) (t : TypeId) (hi : l[i]? = some (g,cs,t)) : BoxC W g cs t:=h.2 _ (List.mem_of_getElem? hi)
theorem Boxs.cons (h : Boxs w W l) {g : Nat} {cs : Array Value} {t : TypeId} (hb : BoxC W g cs t) : Boxs w W ((g,cs,t) :: l):=⟨h.1,fun b hb'=>by
 rcases List.mem_cons.1 hb' with rfl | h'
 ·exact hb
 ·exact h.2 b h'⟩
/-- A box is made beside them. -/
theorem Boxs.more (h : Boxs w W l) (cs : Array Value) (t : TypeId) : Boxs w (W.alloc (.cells cs t)) ((W.heap.size,cs,t) :: l) :=
 Boxs.cons (h.below ((Below.refl _ _).alloc (Nat.le_refl _) _)) (BoxC.new W cs t)
theorem Boxs.start (w : World) : Boxs w w []:=⟨Below.refl _ _,fun b hb=>by cases hb⟩
end
theorem one_box (w : World) (cs : Array Value) (t : TypeId) : Below w.heap.size w (w.alloc (.cells cs t)):=(Below.refl _ _).alloc (Nat.le_refl _) _
/-- A slice of n elements of k cells each holds the cells xs, in a block below B. -/
def RowAt (w : World) (B : Nat) (a : Option Addr) (n k : Nat) (xs : List Value) : Prop :=
 xs.length = n * k∧(n = 0∨∃ b off,a = some ⟨b,off,none⟩∧b < B∧∀ j u,xs[j]? = some u→w.cell? ⟨b,off + j,none⟩ = some u)
section
variable {w w' : World} {B B' n k : Nat} {a : Option Addr} {xs : List Value}
theorem RowAt.nil : RowAt w B a 0 k []:=⟨by simp,.inl rfl⟩
theorem RowAt.keep (h : RowAt w B a n k xs) (hk : ∀ b,b < B→w'.heap[b]? = w.heap[b]?) : RowAt w' B a n k xs:=by
 rcases h with ⟨hn,h | ⟨b,off,ha,hb,hc⟩⟩
 ·exact ⟨hn,.inl h⟩
 ·exact ⟨hn,.inr ⟨b,off,ha,hb,fun j u hu=>(World.cell?_of_block (hk b hb)).trans (hc j u hu)⟩⟩
theorem RowAt.more (h : RowAt w B a n k xs) (hB : B≤B') : RowAt w B' a n k xs:=by
 rcases h with ⟨hn,h | ⟨b,off,ha,hb,hc⟩⟩
 ·exact ⟨hn,.inl h⟩
 ·exact ⟨hn,.inr ⟨b,off,ha,by omega,hc⟩⟩
theorem RowAt.below {C : Nat} (h : RowAt w B a n k xs) (hb : Below C w w') (hC : B≤C) : RowAt w' B a n k xs:=h.keep fun b hb'=>hb.block b (by omega)
theorem RowAt.addr (h : RowAt w B a n k xs) (hn : 0 < n) : ∃ b off,a = some ⟨b,off,none⟩∧b < B∧∀ j u,xs[j]? = some u→w.cell? ⟨b,off + j,none⟩ = some u:=by
 rcases h with ⟨_,h | h⟩
 ·omega
 ·exact h
theorem RowAt.of_own {base : Nat} {e : TypeId} {c : Nat} (h : w.ownsRow base e k (.slice a n c) n xs) : RowAt w w.heap.size a n k xs:=by
 refine ⟨h.1,?_⟩
 rcases h.2 with ⟨_,h0⟩ | ⟨g,cap,cur,hv,_,hh,_⟩
 ·exact .inl h0
 ·injection hv with hv1
  subst hv1
  refine .inr ⟨g,0,rfl,lt_of_heap hh,fun j u hu=>?_⟩
  have:=h.cells (g:=g) rfl j u hu
  rwa [add_plain] at this
/-- A block just made reads as one element. -/
theorem RowAt.one (w : World) (cs : Array Value) (t : TypeId) : RowAt (w.alloc (.cells cs t)) (w.heap.size + 1) (some ⟨w.heap.size,0,none⟩) 1 cs.size cs.toList:=by
 refine ⟨by simp,.inr ⟨w.heap.size,0,rfl,by omega,fun j u hu=>?_⟩⟩
 rw [cell_of_row _ w.heap.size _ _ t (0,0) (heap_alloc_new w _),Nat.zero_add]
 simpa using hu
end
section
variable {P : Program} (w : World)
theorem run_append_rowk (base : Nat) (t ty e : TypeId) (i : TypeInfo) (z : Value) (k bytes : Nat) (ht : P.underlying t = some (.slice e)) (hi : P.info? e = some i) (hz : i.zero = some z)
  (hsize : i.size = k) (hby : i.bytes = bytes) (hzs : z.cells.size = k) (hk : 0 < k) (v : Value) (n : Nat) (xs : List Value) (hown : w.ownsRow base e k v n xs)
  (B : Nat) (a : Option Addr) (m c : Nat) (news : List Value) (hr : RowAt w B a m k news) (h1 : ∀ u ∈ news,u.oneCell' = true)
  (h63 : n + m≤maxLen) (hlen : (n + m) * bytes≤140737488355328) (hbase : base≤w.heap.size) :
  ∃ v' w',(Builtin.append_ #[t,t] ty #[v,.slice a m c]).run P w = .ok v' w'∧w'.ownsRow base e k v' (n + m) (xs ++ news)∧w.grownBy w' v.ownBlock∧(v'.ownBlock = v.ownBlock∨v'.ownBlock = some w.heap.size):=by
 have hm:=hr.1
 rcases a with _ | ad
 ·have hm0 : m = 0:=by
   rcases hr with ⟨_,h | ⟨b,off,h,_⟩⟩
   ·exact h
   ·cases h
  subst hm0
  rw [Nat.zero_mul] at hm
  obtain rfl : news = []:=List.eq_nil_of_length_eq_zero hm
  refine ⟨v,w,?_,by simpa using hown,World.grownBy.refl w _,.inl rfl⟩
  rcases hown.2 with ⟨rfl,h0⟩ | ⟨g,cap,cur,rfl,_,_,hnc,_⟩
  ·simp [Builtin.append_,run_underlying ht,sizeOf,typeInfo,hi,Builtin.lenOf,Builtin.firstCells]
  ·simp [Builtin.append_,run_underlying ht,sizeOf,typeInfo,hi,Builtin.lenOf,Builtin.firstCells,hnc,storeCells]
 ·have hcells : ∀ j u,news[j]? = some u→w.cell? (ad.add j) = some u:=by
   intro j u hu
   rcases hr with ⟨_,h | ⟨b,off,h,_,hc⟩⟩
   ·rw [h,Nat.zero_mul] at hm
    rw [List.eq_nil_of_length_eq_zero hm] at hu;simp at hu
   ·injection h with h;subst h
    rw [add_plain];exact hc j u hu
  obtain ⟨v',w',hrun,h2,h3,_,h5⟩:=run_append_own_at (P:=P) w base t ty e i z k bytes ht hi hz hsize hby hzs hk v n xs hown ad m c news hm hcells h1 h63 hlen hbase
  exact ⟨v',w',hrun,h2,h3,h5⟩
theorem wpList_append_rowk {ops : Array Oper} {rest : List Oper} {o : Oper} {act : Act} {Q : Exit→Act→World→Prop} (hgd : o.guard = none) (s x : Operand) (t : TypeId)
  (ho : o.op = .call { callee:=.builtin .append,args:=#[s,x],argTypes:=#[t,t] })
  (base : Nat) (e : TypeId) (i : TypeInfo) (z : Value) (k bytes : Nat) (ht : P.underlying t = some (.slice e)) (hi : P.info? e = some i) (hz : i.zero = some z)
  (hsize : i.size = k) (hby : i.bytes = bytes) (hzs : z.cells.size = k) (hk : 0 < k) (v : Value) (n : Nat) (xs : List Value) (hs : act.eval s = v) (hown : w.ownsRow base e k v n xs)
  (B : Nat) (a : Option Addr) (m c : Nat) (news : List Value) (hx : act.eval x = .slice a m c) (hr : RowAt w B a m k news) (h1 : ∀ u ∈ news,u.oneCell' = true)
  (h63 : n + m≤maxLen) (hlen : (n + m) * bytes≤140737488355328) (hbase : base≤w.heap.size)
  (h : ∀ v' w',w'.ownsRow base e k v' (n + m) (xs ++ news)→w.grownBy w' v.ownBlock→(v'.ownBlock = v.ownBlock∨v'.ownBlock = some w.heap.size)→wpList P ops Q rest (act.put o.dst v') w') : wpList P ops Q (o :: rest) act w:=by
 refine wpList_plain hgd fun K hK=>?_
 obtain ⟨v',w',hrun,h2,h3,h4⟩:=run_append_rowk (P:=P) w base t o.type e i z k bytes ht hi hz hsize hby hzs hk v n xs hown B a m c news hr h1 h63 hlen hbase
 unfold Oper.wp execOp
 simp only [ho,resolve,invoke,builtin,Sem.run_bind,Sem.run_pure,Result.andThen_ok,List.map_toArray,List.map_cons,List.map_nil,hs,hx,hrun]
 exact hK _ _ (h v' w' h2 h3 h4)
end
/-- A row of k-cell elements that is the call's own, carried on. -/
theorem ownk_grown {w w' : World} {B e n k : Nat} {v : Value} {xs : List Value} {g : Option Nat} (h : w.ownsRow B e k v n xs) (hg : w.grownBy w' g) (hv : ∀ j,v.ownBlock = some j→g≠some j) : w'.ownsRow B e k v n xs:=by
 refine ⟨h.1,?_⟩
 rcases h.2 with ⟨rfl,rfl⟩ | ⟨b,cap,cur,rfl,h1,hh,hr⟩
 ·exact .inl ⟨rfl,rfl⟩
 ·refine .inr ⟨b,cap,cur,rfl,h1,?_,hr⟩
  rw [hg.block b (lt_of_heap hh) (fun e=>hv b rfl e.symm)];exact hh
theorem ownk_below {w w' : World} {B e n k : Nat} {v : Value} {xs : List Value} (h : w.ownsRow B e k v n xs) (hb : Below w.heap.size w w') : w'.ownsRow B e k v n xs :=
 ownk_grown (g:=none) h ⟨hb.os,hb.tape,hb.output,hb.size,fun b hb' _=>hb.block b hb'⟩ (fun _ _ h=>by cases h)
theorem ownk_form {w : World} {base k : Nat} {e : TypeId} {v : Value} {n : Nat} {xs : List Value} (h : w.ownsRow base e k v n xs) :
  ∃ a c,v = .slice a n c∧n≤c∧c≤maxLen:=by
 rcases h.2 with ⟨rfl,rfl⟩ | ⟨g,cap,cur,rfl,hb,hh,hnc,hcm,_⟩
 ·exact ⟨none,0,rfl,Nat.le_refl _,by unfold maxLen;omega⟩
 ·exact ⟨_,cap,rfl,hnc,hcm⟩
/-- The cells of a list of structs, k cells each: cell j of element i. -/
theorem flat_get {α : Type} (f : α→List Value) (k : Nat) (hf : ∀ x,(f x).length = k) (l : List α) (i j : Nat) (hi : i < l.length) (hj : j < k) : (l.flatMap f)[i * k + j]? = (f l[i])[j]?:=by
 induction l generalizing i with
 | nil=>simp at hi
 | cons x r ih =>
  rw [List.flatMap_cons]
  cases i with
  | zero=>rw [Nat.zero_mul,Nat.zero_add,List.getElem?_append_left (by rw [hf];exact hj)];rfl
  | succ i =>
   have hk : (i + 1) * k + j = k + (i * k + j):=by rw [Nat.succ_mul];omega
   rw [hk,List.getElem?_append_right (by rw [hf];omega),hf,Nat.add_sub_cancel_left]
   exact ih i (by simpa using hi)
theorem flat_len {α : Type} (f : α→List Value) (k : Nat) (hf : ∀ x,(f x).length = k) (l : List α) : (l.flatMap f).length = l.length * k:=by
 induction l with
 | nil=>simp
 | cons x r ih=>rw [List.flatMap_cons,List.length_append,hf,ih,List.length_cons,Nat.succ_mul];omega
end Go.Proofs.YtcfmifongbapkaaGreatDoor
