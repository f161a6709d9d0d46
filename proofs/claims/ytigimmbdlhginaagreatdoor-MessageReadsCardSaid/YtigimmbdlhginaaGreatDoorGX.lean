/- Words for a message in memory. No condition. Contracts of message.fields, and of the document's uses. -/
import Derived.Test.YtigimmbdlhginaaGreatDoorGI
import Derived.Test.YtigimmbdlhginaaGreatDoorGS
import Derived.OwnWalk
import Derived.WalkSpells
namespace Go.Proofs.YtigimmbdlhginaaGreatDoor
set_option maxHeartbeats 1000000
open Go.RowKit
set_option linter.unusedVariables false
/-- A message by value: its kind, ballot (round, node), slot, whether it has a vote, the voted ballot, the command, the transaction (id, reads, writes), the id, group, stamp, yes, number, key, version, value, error, data. -/
structure MgM where
 k : Int
 br : Nat
 bn : Int
 sl : Int
 has : Bool
 vr : Nat
 vn : Int
 cm : CmM
 s : Int
 q : Int
 a : Option Addr
 n : Nat
 c : Nat
 b : Option Addr
 m : Nat
 d : Nat
 i : Int
 j : Int
 g : Int
 st : Nat
 y : Bool
 nu : Int
 key : ByteArray
 ver : Nat
 vk : Int
 vb : Nat
 vt : ByteArray
 er : Int
 da : Option Addr
 dn : Nat
 dc : Nat
abbrev mgV (x : MgM) : Array Value:=#[.int .i64 x.k,.int .u32 ((x.br : Nat) : Int),.int .i64 x.bn,.int .i64 x.sl,.bool x.has,.int .u32 ((x.vr : Nat) : Int),.int .i64 x.vn,.int .i64 x.cm.k,.int .i64 x.cm.s,.int .i64 x.cm.q,.slice x.cm.a x.cm.n x.cm.c,.slice x.cm.b x.cm.m x.cm.d,.int .i64 x.cm.i,.int .i64 x.cm.j,.int .i64 x.cm.g,.int .u64 ((x.cm.st : Nat) : Int),.bool x.cm.y,.int .i64 x.s,.int .i64 x.q,.slice x.a x.n x.c,.slice x.b x.m x.d,.int .i64 x.i,.int .i64 x.j,.int .i64 x.g,.int .u64 ((x.st : Nat) : Int),.bool x.y,.int .i64 x.nu,.string x.key,.int .u64 ((x.ver : Nat) : Int),.int .i64 x.vk,.int .u64 ((x.vb : Nat) : Int),.string x.vt,.int .i64 x.er,.slice x.da x.dn x.dc]
abbrev zeroG (k : Int) : MgM:=⟨k,0,0,0,false,0,0,zeroM,0,0,none,0,0,none,0,0,0,0,0,0,false,0,⟨#[]⟩,0,0,0,⟨#[]⟩,0,none,0,0⟩
abbrev zeroGV (k : Int) : Array Value:=#[.int .i64 k,.int .u32 0,.int .i64 0,.int .i64 0,.bool false,.int .u32 0,.int .i64 0,.int .i64 0,.int .i64 0,.int .i64 0,.slice none 0 0,.slice none 0 0,.int .i64 0,.int .i64 0,.int .i64 0,.int .u64 0,.bool false,.int .i64 0,.int .i64 0,.slice none 0 0,.slice none 0 0,.int .i64 0,.int .i64 0,.int .i64 0,.int .u64 0,.bool false,.int .i64 0,.string ⟨#[]⟩,.int .u64 0,.int .i64 0,.int .u64 0,.string ⟨#[]⟩,.int .i64 0,.slice none 0 0]
/-- What its lists and its data hold. -/
structure MgL where
 rs : List RdM
 ws : List WrM
 rt : List RdM
 wt : List WrM
 dl : List UInt8
abbrev noL : MgL:=⟨[],[],[],[],[]⟩
def mgT (x : MgM) (L : MgL) : Mg:=⟨x.k,(((x.br : Nat) : Int),x.bn),x.sl,x.has,(((x.vr : Nat) : Int),x.vn),cmT x.cm L.rs L.ws,txT (x.s,x.q) L.rt L.wt,(x.i,x.j),x.g,x.st,x.y,x.nu,x.key.data.toList,x.ver,⟨x.vk,x.vb,x.vt.data.toList⟩,x.er,L.dl⟩
/-- Its numbers are of their kinds, its texts of a size that is. -/
structure MgN (x : MgM) : Prop where
 br : x.br < 4294967296
 vr : x.vr < 4294967296
 st : x.st < 18446744073709551616
 ver : x.ver < 18446744073709551616
 vb : x.vb < 18446744073709551616
 key : x.key.size≤maxLen
 vt : x.vt.size≤maxLen
/-- Its lists and its data lie in memory. -/
structure MgAt (w : World) (x : MgM) (L : MgL) : Prop where
 cm : CmAt w x.cm L.rs L.ws
 tx : TxAt w x.a x.n x.b x.m L.rt L.wt
 da : BAt w w.heap.size x.da x.dn L.dl
 nb : MgN x
/-- They are of a size that is looked at. -/
structure MgF (x : MgM) : Prop where
 n : x.cm.n≤1000000
 m : x.cm.m≤1000000
 tn : x.n≤1000000
 tm : x.m≤1000000
 dn : x.dn≤1000000
section
variable {w w' : World} {x y : MgM} {L L' : MgL}
theorem MgAt.later (h : MgAt w x L) (hb : Below w.heap.size w w') : MgAt w' x L:=⟨h.cm.later hb,h.tx.later hb,(h.da.below hb (Nat.le_refl _)).more hb.size,h.nb⟩
theorem zeroN (k : Int) : MgN (zeroG k):=⟨by show 0 < 4294967296;decide,by show 0 < 4294967296;decide,by show 0 < 18446744073709551616;decide,by show 0 < 18446744073709551616;decide,by show 0 < 18446744073709551616;decide,Nat.zero_le _,Nat.zero_le _⟩
theorem MgAt.zero (k : Int) : MgAt w (zeroG k) noL:=⟨CmAt.zero,TxAt.nil,BAt.nil,zeroN k⟩
theorem zeroF (k : Int) : MgF (zeroG k):=⟨Nat.zero_le _,Nat.zero_le _,Nat.zero_le _,Nat.zero_le _,Nat.zero_le _⟩
theorem MgAt.ok (h : MgAt w x L) : MgOk (mgT x L):=by
 refine ⟨⟨?_,?_⟩,⟨?_,?_⟩,⟨?_,?_,h.cm.st⟩,⟨?_,?_⟩,h.nb.st,h.nb.ver,h.nb.vb⟩
 ·show 0≤((x.br : Nat) : Int);omega
 ·have:=h.nb.br;show ((x.br : Nat) : Int) < 4294967296;omega
 ·show 0≤((x.vr : Nat) : Int);omega
 ·have:=h.nb.vr;show ((x.vr : Nat) : Int) < 4294967296;omega
 ·intro z hz
  obtain ⟨u,hu,rfl⟩:=List.mem_map.1 hz
  exact (h.cm.tx.okR u hu).2
 ·intro z hz
  obtain ⟨u,hu,rfl⟩:=List.mem_map.1 hz
  exact (h.cm.tx.okW u hu).2.1
 ·intro z hz
  obtain ⟨u,hu,rfl⟩:=List.mem_map.1 hz
  exact (h.tx.okR u hu).2
 ·intro z hz
  obtain ⟨u,hu,rfl⟩:=List.mem_map.1 hz
  exact (h.tx.okW u hu).2.1
/-- What replicas tell each other; what is told of a transaction; what is asked for by a number. -/
def pxT (x : MgM) (L : MgL) : Bal×Int×Bool×Bal×Cm×List UInt8:=((((x.br : Nat) : Int),x.bn),x.sl,x.has,(((x.vr : Nat) : Int),x.vn),cmT x.cm L.rs L.ws,L.dl)
def dlT (x : MgM) (L : MgL) : Tx Val×IdN×Int×Nat×Bool:=(txT (x.s,x.q) L.rt L.wt,(x.i,x.j),x.g,x.st,x.y)
def anT (x : MgM) : Int×ByteArray×Nat×(Int×Nat×ByteArray)×Int:=(x.nu,x.key,x.ver,(x.vk,x.vb,x.vt),x.er)
theorem bytes_inj {u v : ByteArray} (h : u.data.toList = v.data.toList) : u = v:=ByteArray.ext (Array.toList_inj.1 h)
theorem mgT_inj (h : mgT x L = mgT y L') : x.k = y.k∧pxT x L = pxT y L'∧dlT x L = dlT y L'∧anT x = anT y:=by
 unfold mgT at h
 injection h with h1 h2 h3 h4 h5 h6 h7 h8 h9 h10 h11 h12 h13 h14 h15 h16 h17
 injection h15 with g1 g2 g3
 refine ⟨h1,?_,?_,?_⟩
 ·unfold pxT;rw [h2,h3,h4,h5,h6,h17]
 ·unfold dlT;rw [h7,h8,h9,h10,h11]
 ·unfold anT;rw [h12,bytes_inj h13,h14,g1,g2,bytes_inj g3,h16]
theorem mgT_of (hk : x.k = y.k) (h1 : pxT x L = pxT y L') (h2 : dlT x L = dlT y L') (h3 : anT x = anT y) : mgT x L = mgT y L':=by
 unfold pxT at h1;unfold dlT at h2;unfold anT at h3
 simp only [Prod.mk.injEq] at h1 h2 h3
 obtain ⟨⟨a1,a2⟩,a3,a4,⟨a5,a6⟩,a7,a8⟩:=h1
 obtain ⟨b1,⟨b2,b3⟩,b4,b5,b6⟩:=h2
 obtain ⟨d1,d2,d3,⟨d4,d5,d6⟩,d7⟩:=h3
 unfold mgT
 rw [hk,a1,a2,a3,a4,a5,a6,a7,a8,b1,b2,b3,b4,b5,b6,d1,d2,d3,d4,d5,d6,d7]
theorem sameC_eqB (x y : CmM) (rs rs' : List RdM) (ws ws' : List WrM) : sameC x y rs rs' ws ws' = eqB (cmT x rs ws) (cmT y rs' ws'):=by
 by_cases h : cmT x rs ws = cmT y rs' ws'
 ·rw [eqB_yes h,(sameC_iff _ _ _ _ _ _).2 h]
 ·rw [eqB_no h]
  cases e : sameC x y rs rs' ws ws'
  ·rfl
  ·exact absurd ((sameC_iff _ _ _ _ _ _).1 e) h
theorem sameM_eqB (i i' : IdN) (rs rs' : List RdM) (ws ws' : List WrM) : sameM i i' rs rs' ws ws' = eqB (txT i rs ws) (txT i' rs' ws'):=by
 by_cases h : txT i rs ws = txT i' rs' ws'
 ·obtain ⟨h1,h2,h3⟩:=txT_eq h
  rw [eqB_yes h]
  unfold sameM
  rw [eqB_yes h1,eqB_yes h2,eqB_yes h3];rfl
 ·rw [eqB_no h]
  cases e : sameM i i' rs rs' ws ws'
  ·rfl
  ·obtain ⟨h1,h2,h3⟩:=sameM_of e
   exact absurd (by rw [h1,h2,h3]) h
theorem bytes_beq (u v : ByteArray) : (u.toList == v.toList) = eqB u v:=by
 by_cases h : u = v
 ·rw [eqB_yes h,h];simp
 ·rw [eqB_no h]
  have : ¬ u.toList = v.toList:=fun e=>h (by
   rw [ByteArray.toList_eq,ByteArray.toList_eq] at e
   exact bytes_inj e)
  simpa using this
end
theorem eqB_iff {α : Type} {x y : α} : eqB x y = true↔x = y:=⟨eqB_of,eqB_yes⟩
theorem key_nil (u : ByteArray) : (eqB u ⟨#[]⟩ = true)↔u.data.toList = []:=by
 rw [eqB_iff]
 exact ⟨fun h=>by rw [h],fun h=>ByteArray.ext (Array.toList_inj.1 h)⟩
/-- A whole box is filled anew. -/
theorem BoxC.fill {w : World} {g : Nat} {cs : Array Value} {t : TypeId} (h : BoxC w g cs t) (ds : Array Value) : BoxC (w.setRow g ds) g ds t:=setRow_heap w g cs ds t (0,0) h
theorem only_fill (w : World) (g : Nat) (ds : Array Value) : Only g w (w.setRow g ds):=⟨rfl,rfl,rfl,by rw [setRow_size];exact Nat.le_refl _,fun b _ hne=>setRow_other w g b ds (fun e=>hne (by rw [e]))⟩
/-- A load whose answer is known. -/
theorem wpList_load_at {P : Program} {ops : Array Oper} {rest : List Oper} {o : Oper} {a : Act} {w : World} {Q : Exit→Act→World→Prop} (hw : Region.wanted o (yielded ops a.tmps) = true) (T : TypeId) (x : Operand) (ho : o.op = .load T x)
  (v : Value) (p : Value) (hp : a.eval x = p) (hl : (Instr.loadAt T p).run P w = .ok v w) (h : wpList P ops Q rest (a.put o.dst v) w) : wpList P ops Q (o :: rest) a w:=by
 refine wpList_step fun K hK=>?_
 rw [if_pos hw]
 unfold Oper.wp execOp
 simp only [ho,hp,Sem.run_bind,hl,Result.andThen_ok,Sem.run_pure]
 exact hK _ _ h
/-- A whole box is stored. -/
theorem wpList_store_box {ops : Array Oper} {rest : List Oper} {o : Oper} {a : Act} {w : World} {Q : Exit→Act→World→Prop} (hgd : o.guard = none) (x y : Operand) (ho : o.op = .store 40 x y)
  (g : Nat) (m : MgM) (hx : a.eval x = .pointer (some ⟨g,0,none⟩)) (hy : a.eval y = .agg (mgV m)) (m' : MgM) (hb : BoxC w g (mgV m') 40)
  (h : wpList Tryz.prog ops Q rest (a.put o.dst undef) (w.setRow g (mgV m))) : wpList Tryz.prog ops Q (o :: rest) a w :=
 wpList_store_row hgd 40 x y ho g (mgV m) hx hy 40 (mgV m') hb (by kernel_rfl) rfl (by simp [Value.oneCell']) h
/-- A whole message is loaded. -/
theorem BoxC.ldM {w : World} {g : Nat} {x : MgM} (h : BoxC w g (mgV x) 40) : (Instr.loadAt 40 (.pointer (some ⟨g,0,none⟩))).run Tryz.prog w = .ok (.agg (mgV x)) w:=by
 simp only [Instr.loadAt,Instr.sureAddr,Sem.run_bind,Sem.run_pure,Result.andThen_ok]
 exact run_loadVar_row w g 40 40 (mgV x) (0,0) _ h Tryz.underlying40 rfl (by kernel_rfl)
theorem BoxC.ldR {w : World} {g : Nat} {x : MgM} (h : BoxC w g (mgV x) 46) : (Instr.loadAt 46 (.pointer (some ⟨g,0,none⟩))).run Tryz.prog w = .ok (.agg (mgV x)) w:=by
 simp only [Instr.loadAt,Instr.sureAddr,Sem.run_bind,Sem.run_pure,Result.andThen_ok]
 exact run_loadVar_row w g 46 46 (mgV x) (0,0) _ h Tryz.underlying46 rfl (by kernel_rfl)
/-- The letters of the fields that a kind uses. -/
def letters (k : Int) : ByteArray :=
 if k = 1 then ⟨#[98]⟩ else if k = 2 then ⟨#[98,115,104]⟩ else if k = 3 then ⟨#[98]⟩ else if k = 4 then ⟨#[98,115,99]⟩ else if k = 5 then ⟨#[98,115]⟩ else if k = 6 then ⟨#[115,99]⟩ else if k = 7 then ⟨#[115]⟩ else if k = 8 then ⟨#[116]⟩ else if k = 9 then ⟨#[105,103,112]⟩ else if k = 10 then ⟨#[105,103,121]⟩ else if k = 11 then ⟨#[105,103,112,121]⟩ else if k = 12 then ⟨#[112,110,107]⟩ else if k = 13 then ⟨#[103,112,110,107,118,120,101]⟩ else if k = 14 then ⟨#[110]⟩ else if k = 15 then ⟨#[115,100]⟩ else ⟨#[]⟩
theorem fields_any (k : Int) (w : World) : Calls Tryz.prog 12 #[.int .i64 k] w fun e w'=>e = .returned (.string (letters k))∧w = w':=by
 by_cases h1 : k = 1
 ·subst h1
  go_enter Tryz.func12,Tryz.ntmps12
  go_wp2
  go_ret
  exact ⟨rfl,rfl⟩
 by_cases h2 : k = 2
 ·subst h2
  go_enter Tryz.func12,Tryz.ntmps12
  go_wp2
  go_ret
  exact ⟨rfl,rfl⟩
 by_cases h3 : k = 3
 ·subst h3
  go_enter Tryz.func12,Tryz.ntmps12
  go_wp2
  go_ret
  exact ⟨rfl,rfl⟩
 by_cases h4 : k = 4
 ·subst h4
  go_enter Tryz.func12,Tryz.ntmps12
  go_wp2
  go_ret
  exact ⟨rfl,rfl⟩
 by_cases h5 : k = 5
 ·subst h5
  go_enter Tryz.func12,Tryz.ntmps12
  go_wp2
  go_ret
  exact ⟨rfl,rfl⟩
 by_cases h6 : k = 6
 ·subst h6
  go_enter Tryz.func12,Tryz.ntmps12
  go_wp2
  go_ret
  exact ⟨rfl,rfl⟩
 by_cases h7 : k = 7
 ·subst h7
  go_enter Tryz.func12,Tryz.ntmps12
  go_wp2
  go_ret
  exact ⟨rfl,rfl⟩
 by_cases h8 : k = 8
 ·subst h8
  go_enter Tryz.func12,Tryz.ntmps12
  go_wp2
  go_ret
  exact ⟨rfl,rfl⟩
 by_cases h9 : k = 9
 ·subst h9
  go_enter Tryz.func12,Tryz.ntmps12
  go_wp2
  go_ret
  exact ⟨rfl,rfl⟩
 by_cases h10 : k = 10
 ·subst h10
  go_enter Tryz.func12,Tryz.ntmps12
  go_wp2
  go_ret
  exact ⟨rfl,rfl⟩
 by_cases h11 : k = 11
 ·subst h11
  go_enter Tryz.func12,Tryz.ntmps12
  go_wp2
  go_ret
  exact ⟨rfl,rfl⟩
 by_cases h12 : k = 12
 ·subst h12
  go_enter Tryz.func12,Tryz.ntmps12
  go_wp2
  go_ret
  exact ⟨rfl,rfl⟩
 by_cases h13 : k = 13
 ·subst h13
  go_enter Tryz.func12,Tryz.ntmps12
  go_wp2
  go_ret
  exact ⟨rfl,rfl⟩
 by_cases h14 : k = 14
 ·subst h14
  go_enter Tryz.func12,Tryz.ntmps12
  go_wp2
  go_ret
  exact ⟨rfl,rfl⟩
 by_cases h15 : k = 15
 ·subst h15
  go_enter Tryz.func12,Tryz.ntmps12
  go_wp2
  go_ret
  exact ⟨rfl,rfl⟩
 have e : letters k = ⟨#[]⟩:=by unfold letters;simp only [if_neg h1,if_neg h2,if_neg h3,if_neg h4,if_neg h5,if_neg h6,if_neg h7,if_neg h8,if_neg h9,if_neg h10,if_neg h11,if_neg h12,if_neg h13,if_neg h14,if_neg h15]
 rw [e]
 have q1 : (k == 1) = false:=by simpa using h1
 have q2 : (k == 2) = false:=by simpa using h2
 have q3 : (k == 3) = false:=by simpa using h3
 have q4 : (k == 4) = false:=by simpa using h4
 have q5 : (k == 5) = false:=by simpa using h5
 have q6 : (k == 6) = false:=by simpa using h6
 have q7 : (k == 7) = false:=by simpa using h7
 have q8 : (k == 8) = false:=by simpa using h8
 have q9 : (k == 9) = false:=by simpa using h9
 have q10 : (k == 10) = false:=by simpa using h10
 have q11 : (k == 11) = false:=by simpa using h11
 have q12 : (k == 12) = false:=by simpa using h12
 have q13 : (k == 13) = false:=by simpa using h13
 have q14 : (k == 14) = false:=by simpa using h14
 have q15 : (k == 15) = false:=by simpa using h15
 clear e h1 h2 h3 h4 h5 h6 h7 h8 h9 h10 h11 h12 h13 h14 h15
 go_enter Tryz.func12,Tryz.ntmps12
 go_wp2
 go_ret
 exact ⟨rfl,rfl⟩
/-- The names of the fields. -/
abbrev nBal : Value:=.string ⟨#[98,97,108,108,111,116]⟩
abbrev nSlot : Value:=.string ⟨#[115,108,111,116]⟩
abbrev nHas : Value:=.string ⟨#[104,97,115]⟩
abbrev nCmd : Value:=.string ⟨#[99,111,109,109,97,110,100]⟩
abbrev nTxn : Value:=.string ⟨#[116,120,110]⟩
abbrev nId : Value:=.string ⟨#[105,100]⟩
abbrev nGrp : Value:=.string ⟨#[103,114,111,117,112]⟩
abbrev nStp : Value:=.string ⟨#[115,116,97,109,112]⟩
abbrev nYes : Value:=.string ⟨#[121,101,115]⟩
abbrev nNum : Value:=.string ⟨#[110,117,109,98,101,114]⟩
abbrev nKey : Value:=.string ⟨#[107,101,121]⟩
abbrev nVal : Value:=.string ⟨#[118,97,108,117,101]⟩
abbrev nDat : Value:=.string ⟨#[100,97,116,97]⟩
theorem useBal_any (k : Int) (w : World) : Calls Tryz.prog 17 #[.int .i64 k,nBal] w fun e w'=>e = .returned (.bool (uBal k))∧w = w':=by
 unfold uBal
 by_cases h0 : 1≤k
 ·by_cases h1 : k≤5
  ·go_enter Tryz.func17,Tryz.ntmps17
   go_wp2
   go_ret
   exact ⟨by simp [*],rfl⟩
  ·go_enter Tryz.func17,Tryz.ntmps17
   go_wp2
   go_ret
   exact ⟨by simp [*],rfl⟩
 ·by_cases h1 : k≤5
  ·go_enter Tryz.func17,Tryz.ntmps17
   go_wp2
   go_ret
   exact ⟨by simp [*],rfl⟩
  ·go_enter Tryz.func17,Tryz.ntmps17
   go_wp2
   go_ret
   exact ⟨by simp [*],rfl⟩
theorem useSlot_any (k : Int) (w : World) : Calls Tryz.prog 17 #[.int .i64 k,nSlot] w fun e w'=>e = .returned (.bool (uSlot k))∧w = w':=by
 unfold uSlot
 by_cases h0 : k = 2
 ·subst h0
  go_enter Tryz.func17,Tryz.ntmps17
  go_wp2
  go_ret
  exact ⟨rfl,rfl⟩
 have q0 : (k == 2) = false:=by simpa using h0
 by_cases h1 : 4≤k
 ·by_cases h2 : k≤7
  ·by_cases h3 : k = 15
   ·subst h3
    go_enter Tryz.func17,Tryz.ntmps17
    go_wp2
    go_ret
    exact ⟨rfl,rfl⟩
   have q3 : (k == 15) = false:=by simpa using h3
   go_enter Tryz.func17,Tryz.ntmps17
   go_wp2
   go_ret
   exact ⟨by simp [*],rfl⟩
  ·by_cases h3 : k = 15
   ·subst h3
    go_enter Tryz.func17,Tryz.ntmps17
    go_wp2
    go_ret
    exact ⟨rfl,rfl⟩
   have q3 : (k == 15) = false:=by simpa using h3
   go_enter Tryz.func17,Tryz.ntmps17
   go_wp2
   go_ret
   exact ⟨by simp [*],rfl⟩
 ·by_cases h2 : k≤7
  ·by_cases h3 : k = 15
   ·subst h3
    go_enter Tryz.func17,Tryz.ntmps17
    go_wp2
    go_ret
    exact ⟨rfl,rfl⟩
   have q3 : (k == 15) = false:=by simpa using h3
   go_enter Tryz.func17,Tryz.ntmps17
   go_wp2
   go_ret
   exact ⟨by simp [*],rfl⟩
  ·by_cases h3 : k = 15
   ·subst h3
    go_enter Tryz.func17,Tryz.ntmps17
    go_wp2
    go_ret
    exact ⟨rfl,rfl⟩
   have q3 : (k == 15) = false:=by simpa using h3
   go_enter Tryz.func17,Tryz.ntmps17
   go_wp2
   go_ret
   exact ⟨by simp [*],rfl⟩
theorem useHas_any (k : Int) (w : World) : Calls Tryz.prog 17 #[.int .i64 k,nHas] w fun e w'=>e = .returned (.bool (uHas k))∧w = w':=by
 unfold uHas
 by_cases h0 : k = 2
 ·subst h0
  go_enter Tryz.func17,Tryz.ntmps17
  go_wp2
  go_ret
  exact ⟨rfl,rfl⟩
 have q0 : (k == 2) = false:=by simpa using h0
 go_enter Tryz.func17,Tryz.ntmps17
 go_wp2
 go_ret
 exact ⟨by simp [*],rfl⟩
theorem useCmd_any (k : Int) (w : World) : Calls Tryz.prog 17 #[.int .i64 k,nCmd] w fun e w'=>e = .returned (.bool (uCmd k))∧w = w':=by
 unfold uCmd
 by_cases h0 : k = 4
 ·subst h0
  go_enter Tryz.func17,Tryz.ntmps17
  go_wp2
  go_ret
  exact ⟨rfl,rfl⟩
 have q0 : (k == 4) = false:=by simpa using h0
 by_cases h1 : k = 6
 ·subst h1
  go_enter Tryz.func17,Tryz.ntmps17
  go_wp2
  go_ret
  exact ⟨rfl,rfl⟩
 have q1 : (k == 6) = false:=by simpa using h1
 go_enter Tryz.func17,Tryz.ntmps17
 go_wp2
 go_ret
 exact ⟨by simp [*],rfl⟩
theorem useTxn_any (k : Int) (w : World) : Calls Tryz.prog 17 #[.int .i64 k,nTxn] w fun e w'=>e = .returned (.bool (uTxn k))∧w = w':=by
 unfold uTxn
 by_cases h0 : k = 8
 ·subst h0
  go_enter Tryz.func17,Tryz.ntmps17
  go_wp2
  go_ret
  exact ⟨rfl,rfl⟩
 have q0 : (k == 8) = false:=by simpa using h0
 go_enter Tryz.func17,Tryz.ntmps17
 go_wp2
 go_ret
 exact ⟨by simp [*],rfl⟩
theorem useId_any (k : Int) (w : World) : Calls Tryz.prog 17 #[.int .i64 k,nId] w fun e w'=>e = .returned (.bool (uId k))∧w = w':=by
 unfold uId
 by_cases h0 : 9≤k
 ·by_cases h1 : k≤11
  ·go_enter Tryz.func17,Tryz.ntmps17
   go_wp2
   go_ret
   exact ⟨by simp [*],rfl⟩
  ·go_enter Tryz.func17,Tryz.ntmps17
   go_wp2
   go_ret
   exact ⟨by simp [*],rfl⟩
 ·by_cases h1 : k≤11
  ·go_enter Tryz.func17,Tryz.ntmps17
   go_wp2
   go_ret
   exact ⟨by simp [*],rfl⟩
  ·go_enter Tryz.func17,Tryz.ntmps17
   go_wp2
   go_ret
   exact ⟨by simp [*],rfl⟩
theorem useGrp_any (k : Int) (w : World) : Calls Tryz.prog 17 #[.int .i64 k,nGrp] w fun e w'=>e = .returned (.bool (uGrp k))∧w = w':=by
 unfold uGrp
 by_cases h0 : 9≤k
 ·by_cases h1 : k≤11
  ·by_cases h2 : k = 13
   ·subst h2
    go_enter Tryz.func17,Tryz.ntmps17
    go_wp2
    go_ret
    exact ⟨rfl,rfl⟩
   have q2 : (k == 13) = false:=by simpa using h2
   go_enter Tryz.func17,Tryz.ntmps17
   go_wp2
   go_ret
   exact ⟨by simp [*],rfl⟩
  ·by_cases h2 : k = 13
   ·subst h2
    go_enter Tryz.func17,Tryz.ntmps17
    go_wp2
    go_ret
    exact ⟨rfl,rfl⟩
   have q2 : (k == 13) = false:=by simpa using h2
   go_enter Tryz.func17,Tryz.ntmps17
   go_wp2
   go_ret
   exact ⟨by simp [*],rfl⟩
 ·by_cases h1 : k≤11
  ·by_cases h2 : k = 13
   ·subst h2
    go_enter Tryz.func17,Tryz.ntmps17
    go_wp2
    go_ret
    exact ⟨rfl,rfl⟩
   have q2 : (k == 13) = false:=by simpa using h2
   go_enter Tryz.func17,Tryz.ntmps17
   go_wp2
   go_ret
   exact ⟨by simp [*],rfl⟩
  ·by_cases h2 : k = 13
   ·subst h2
    go_enter Tryz.func17,Tryz.ntmps17
    go_wp2
    go_ret
    exact ⟨rfl,rfl⟩
   have q2 : (k == 13) = false:=by simpa using h2
   go_enter Tryz.func17,Tryz.ntmps17
   go_wp2
   go_ret
   exact ⟨by simp [*],rfl⟩
theorem useStp_any (k : Int) (w : World) : Calls Tryz.prog 17 #[.int .i64 k,nStp] w fun e w'=>e = .returned (.bool (uStp k))∧w = w':=by
 unfold uStp
 by_cases h0 : k = 9
 ·subst h0
  go_enter Tryz.func17,Tryz.ntmps17
  go_wp2
  go_ret
  exact ⟨rfl,rfl⟩
 have q0 : (k == 9) = false:=by simpa using h0
 by_cases h1 : 11≤k
 ·by_cases h2 : k≤13
  ·go_enter Tryz.func17,Tryz.ntmps17
   go_wp2
   go_ret
   exact ⟨by simp [*],rfl⟩
  ·go_enter Tryz.func17,Tryz.ntmps17
   go_wp2
   go_ret
   exact ⟨by simp [*],rfl⟩
 ·by_cases h2 : k≤13
  ·go_enter Tryz.func17,Tryz.ntmps17
   go_wp2
   go_ret
   exact ⟨by simp [*],rfl⟩
  ·go_enter Tryz.func17,Tryz.ntmps17
   go_wp2
   go_ret
   exact ⟨by simp [*],rfl⟩
theorem useYes_any (k : Int) (w : World) : Calls Tryz.prog 17 #[.int .i64 k,nYes] w fun e w'=>e = .returned (.bool (uYes k))∧w = w':=by
 unfold uYes
 by_cases h0 : k = 10
 ·subst h0
  go_enter Tryz.func17,Tryz.ntmps17
  go_wp2
  go_ret
  exact ⟨rfl,rfl⟩
 have q0 : (k == 10) = false:=by simpa using h0
 by_cases h1 : k = 11
 ·subst h1
  go_enter Tryz.func17,Tryz.ntmps17
  go_wp2
  go_ret
  exact ⟨rfl,rfl⟩
 have q1 : (k == 11) = false:=by simpa using h1
 go_enter Tryz.func17,Tryz.ntmps17
 go_wp2
 go_ret
 exact ⟨by simp [*],rfl⟩
theorem useNum_any (k : Int) (w : World) : Calls Tryz.prog 17 #[.int .i64 k,nNum] w fun e w'=>e = .returned (.bool (uNum k))∧w = w':=by
 unfold uNum
 by_cases h0 : 12≤k
 ·by_cases h1 : k≤14
  ·go_enter Tryz.func17,Tryz.ntmps17
   go_wp2
   go_ret
   exact ⟨by simp [*],rfl⟩
  ·go_enter Tryz.func17,Tryz.ntmps17
   go_wp2
   go_ret
   exact ⟨by simp [*],rfl⟩
 ·by_cases h1 : k≤14
  ·go_enter Tryz.func17,Tryz.ntmps17
   go_wp2
   go_ret
   exact ⟨by simp [*],rfl⟩
  ·go_enter Tryz.func17,Tryz.ntmps17
   go_wp2
   go_ret
   exact ⟨by simp [*],rfl⟩
theorem useKey_any (k : Int) (w : World) : Calls Tryz.prog 17 #[.int .i64 k,nKey] w fun e w'=>e = .returned (.bool (uKey k))∧w = w':=by
 unfold uKey
 by_cases h0 : k = 12
 ·subst h0
  go_enter Tryz.func17,Tryz.ntmps17
  go_wp2
  go_ret
  exact ⟨rfl,rfl⟩
 have q0 : (k == 12) = false:=by simpa using h0
 by_cases h1 : k = 13
 ·subst h1
  go_enter Tryz.func17,Tryz.ntmps17
  go_wp2
  go_ret
  exact ⟨rfl,rfl⟩
 have q1 : (k == 13) = false:=by simpa using h1
 go_enter Tryz.func17,Tryz.ntmps17
 go_wp2
 go_ret
 exact ⟨by simp [*],rfl⟩
theorem useVal_any (k : Int) (w : World) : Calls Tryz.prog 17 #[.int .i64 k,nVal] w fun e w'=>e = .returned (.bool (uVal k))∧w = w':=by
 unfold uVal
 by_cases h0 : k = 13
 ·subst h0
  go_enter Tryz.func17,Tryz.ntmps17
  go_wp2
  go_ret
  exact ⟨rfl,rfl⟩
 have q0 : (k == 13) = false:=by simpa using h0
 go_enter Tryz.func17,Tryz.ntmps17
 go_wp2
 go_ret
 exact ⟨by simp [*],rfl⟩
theorem useDat_any (k : Int) (w : World) : Calls Tryz.prog 17 #[.int .i64 k,nDat] w fun e w'=>e = .returned (.bool (uDat k))∧w = w':=by
 unfold uDat
 by_cases h0 : k = 15
 ·subst h0
  go_enter Tryz.func17,Tryz.ntmps17
  go_wp2
  go_ret
  exact ⟨rfl,rfl⟩
 have q0 : (k == 15) = false:=by simpa using h0
 go_enter Tryz.func17,Tryz.ntmps17
 go_wp2
 go_ret
 exact ⟨by simp [*],rfl⟩
end Go.Proofs.YtigimmbdlhginaaGreatDoor
