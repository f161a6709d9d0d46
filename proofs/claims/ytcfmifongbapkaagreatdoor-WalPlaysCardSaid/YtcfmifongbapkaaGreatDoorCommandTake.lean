/- Contracts of command.fail, takeYes, takeSource, takeFields and Take. Conditions: the reader lies in memory; the tables of utf8 lie there. -/
import Derived.Test.YtcfmifongbapkaaGreatDoorRQ
import Derived.Test.YtcfmifongbapkaaGreatDoorRI
import Derived.Test.YtcfmifongbapkaaGreatDoorRX
import Derived.Deep.RegionWith
namespace Go.Proofs.YtcfmifongbapkaaGreatDoor
set_option maxRecDepth 100000
set_option maxHeartbeats 4000000
open Go.RowKit
open Go.Lib (hid)
set_option linter.unusedVariables false
theorem kfail_any (g : Nat) (st : St) (W : World) (h : RS g st W) :
  Calls Tryz.prog 113 #[.pointer (some ⟨g,0,none⟩)] W fun e w'=>e = .returned (.tuple #[])∧RS g none w'∧Only g W w':=by
 obtain ⟨l,ok,hr⟩:=h.rd
 have c:=take_no g l ok (-1) W hr (.inr (.inl (by omega)))
 clear hr h
 go_enter Tryz.func113,Tryz.ntmps113
 go_wp2_with (go_at_call 80;((with_reducible refine c.mono ?_);rintro e w1 ⟨rfl,hr1,ho1⟩))
 go_end0
 exact ⟨rfl,hr1,ho1⟩
theorem kTakeYes_any (g : Nat) (st : St) (W : World) (h : RS g st W) :
  Calls Tryz.prog 133 #[.pointer (some ⟨g,0,none⟩)] W (Took1 (RS g) g (fun b=>.bool b) yesP false st W):=by
 have c1 : Calls Tryz.prog 80 #[.pointer (some ⟨g,0,none⟩),.int .i64 1] W (Took1 (RS g) g numV (numP 1) 0 st W):=takeS_any g 1 st W h (by omega)
 clear h
 go_enter Tryz.func133,Tryz.ntmps133
 go_upto_region 2 with (go_at_call 80;((with_reducible refine c1.mono ?_);rintro e w1 ⟨y,st1,rfl,hr1,ho1,hR1,hz1⟩;have D1:=hid hr1;have O1:=hid ho1;have R1:=hid hR1;have Z1:=hid hz1;clear hr1 ho1 hR1 hz1))
 by_cases hy : y≤1
 ·have i1 : ¬ (1 : Int) < ((y : Nat) : Int):=by omega
  have d1 : decide ((1 : Int) < ((y : Nat) : Int)) = false:=decide_eq_false i1
  have e1 : (((y : Nat) : Int) == 1) = decide (y = 1):=by
   by_cases h : y = 1
   ·rw [decide_eq_true h,h];rfl
   ·rw [decide_eq_false h];simp;omega
  have Q:=hid (res_yes R1.out hy)
  have Z2 : Hid (st1 = none→decide (y = 1) = false):=fun h=>by rw [Z1.out h];rfl
  go_wp2
  go_ret
  exact ⟨decide (y = 1),st1,by first | rfl | (rw [← e1];rfl),D1.out,O1.out,Q.out,Z2.out⟩
 ·have i1 : (1 : Int) < ((y : Nat) : Int):=by omega
  have e1 : (((y : Nat) : Int) == 1) = false:=by simp;omega
  have Q:=hid (res_yes_no R1.out hy false)
  go_wp2_with (go_at_call 113;((with_reducible refine (kfail_any g _ _ D1.out).mono ?_);rintro e w2 ⟨rfl,hr2,ho2⟩;have D2:=hid hr2;have O2:=hid (O1.out.trans ho2)))
  go_ret
  exact ⟨false,none,by first | rfl | (rw [← e1];rfl),D2.out,O2.out,Q.out,fun _=>rfl⟩
theorem wrap_byte (z : Nat) (h : z < 256) : IntKind.i64.wrap (z : Int) = z:=by
 simp [IntKind.wrap,IntKind.bits,IntKind.signed];omega
theorem kTakeSource_any (g : Nat) (st : St) (w : World) (h : RS g st w) :
  Calls Tryz.prog 132 #[.pointer (some ⟨g,0,none⟩)] w fun e w' => ∃ (i j : Int) (G : Nat) (st' : St),e = .returned (.tuple #[.agg #[.int .i64 i,.int .i64 j],.int .i64 (G : Int)])∧RS g st' w'∧Only g w w'∧Res srcP st ((i,j),G) st'∧G < 256:=by
 have hlt:=h.lt
 have H0:=hid ((RdO.start h hlt).more #[.int .i64 0,.int .i64 0] 26)
 have c1 : ∀ s W,RS g s W→Calls Tryz.prog 80 #[.pointer (some ⟨g,0,none⟩),.int .i64 1] W (Took1 (RS g) g numV (numP 1) 0 s W):=fun s W h=>takeS_any g 1 s W h (by omega)
 clear h
 go_enter Tryz.func132,Tryz.ntmps132
 go_upto_region 2 with (go_at_call 141;((with_reducible refine (tTakeId_any g _ _ H0.out.rdr).mono ?_);rintro e w1 ⟨⟨i,j⟩,st1,rfl,hr1,ho1,hR1,hz1⟩;have H1:=hid (H0.out.only hr1 ho1);have R1:=hid hR1;clear hr1 ho1 hR1 hz1))
 have H2:=hid (H1.out.more #[.int .i64 i,.int .i64 j] 26)
 have hG : w.heap.size < w1.heap.size:=(H1.out.get 0 _ _ _ rfl).lt
 clear H0 H1
 generalize w1.alloc (.cells #[.int .i64 i,.int .i64 j] 26) = W2 at *
 generalize w1.heap.size = G at *
 have hgG : g≠G:=by omega
 have hgw : g≠w.heap.size:=by omega
 have H2d:=hid H2.out.drew
 obtain ⟨x0,x1⟩:=(H2d.out.get 0 _ _ _ rfl).two
 go_region_with (go_at_call 80;((with_reducible refine (c1 _ _ H2d.out.rdr).mono ?_);rintro e w3 ⟨z,st2,rfl,hr3,ho3,hR3,hz3⟩;have H3:=hid (H2d.out.only hr3 ho3);obtain ⟨y0,y1⟩:=(H3.out.get 0 _ _ _ rfl).two;obtain ⟨z0,z1⟩:=(H3.out.get 1 _ _ _ rfl).two;have f0:=(H3.out.get 1 _ _ _ rfl).frozen 0;have f1:=(H3.out.get 1 _ _ _ rfl).frozen 1;have R3:=hid hR3;have hz : z < 256:=num_lt hR3 hz3 (by decide);have ez:=wrap_byte z hz;clear hr3 ho3 hR3 hz3))
 all_goals (
  have H4:=(H3.out.tail.set (fun _ h=>by cases h) 0 (.int .i64 i)).set (fun _ h=>by cases h) 1 (.int .i64 j)
  go_wp2
  exact bodyPost_ret (v:=.tuple #[.agg #[.int .i64 i,.int .i64 j],.int .i64 (z : Int)]) (by simp [results,Tryz.results132,go_sem,z0,z1]) rfl ⟨i,j,z,st2,rfl,H4.rdr,H4.onl,res_src R1.out R3.out,hz⟩)
/-- A transaction in memory beside a box without texts that is written to. -/
def TxB (W : World) (G : Nat) (cs : Array Value) (t : TypeId) (a : Option Addr) (n : Nat) (b : Option Addr) (m : Nat) (rs : List RdM) (ws : List WrM) : Prop:=(BoxC W G cs t∧NoStr cs)∧TxAt W a n b m rs ws
theorem NoStr.set {cs : Array Value} (h : NoStr cs) (i : Nat) (u : Value) (hu : ∀ z,u≠.string z) : NoStr (cs.setIfInBounds i u):=by
 intro j z e
 rw [Array.getElem?_setIfInBounds] at e
 split at e
 ·split at e
  ·injection e with e;exact hu z e
  ·cases e
 ·exact h j z e
theorem TxB.set {W : World} {G : Nat} {cs : Array Value} {t : TypeId} {a : Option Addr} {n : Nat} {b : Option Addr} {m : Nat} {rs : List RdM} {ws : List WrM} (h : TxB W G cs t a n b m rs ws) (i : Nat) (u : Value) (hu : ∀ z,u≠.string z) : TxB (W.setCell ⟨G,i,none⟩ u) G (cs.setIfInBounds i u) t a n b m rs ws :=
 ⟨⟨h.1.1.set i u,h.1.2.set i u hu⟩,h.2.set1 h.1.1 h.1.2 i u⟩
theorem noStr_cm (c0 c1 c2 c3 c4 c5 c6 c7 c8 c9 : Value) (h0 : ∀ z,c0≠.string z) (h1 : ∀ z,c1≠.string z) (h2 : ∀ z,c2≠.string z) (h3 : ∀ z,c3≠.string z) (h4 : ∀ z,c4≠.string z) (h5 : ∀ z,c5≠.string z) (h6 : ∀ z,c6≠.string z) (h7 : ∀ z,c7≠.string z) (h8 : ∀ z,c8≠.string z) (h9 : ∀ z,c9≠.string z) : NoStr #[c0,c1,c2,c3,c4,c5,c6,c7,c8,c9]:=by
 intro i z
 match i with
 | 0=>simpa using h0 z
 | 1=>simpa using h1 z
 | 2=>simpa using h2 z
 | 3=>simpa using h3 z
 | 4=>simpa using h4 z
 | 5=>simpa using h5 z
 | 6=>simpa using h6 z
 | 7=>simpa using h7 z
 | 8=>simpa using h8 z
 | 9=>simpa using h9 z
 | i + 10=>simp
/-- A box of ten cells is filled anew: its reader, boxes and rows, and a transaction. -/
theorem RdO.fill {rd : World→Prop} {g : Nat} [Keep g rd] {w W : World} {G : Nat} {u0 u1 u2 u3 u4 u5 u6 u7 u8 u9 : Value} {t : TypeId} {bs : List (Nat×Array Value×TypeId)} {Rs : List Row1} (h : RdO rd g w W ((G,#[u0,u1,u2,u3,u4,u5,u6,u7,u8,u9],t) :: bs) Rs) (hl : ∀ b ∈ bs,b.1≠G) (v0 v1 v2 v3 v4 v5 v6 v7 v8 v9 : Value) :
  RdO rd g w ((((((((((W.setCell ⟨G,0,Option.none⟩ v0).setCell ⟨G,1,Option.none⟩ v1).setCell ⟨G,2,Option.none⟩ v2).setCell ⟨G,3,Option.none⟩ v3).setCell ⟨G,4,Option.none⟩ v4).setCell ⟨G,5,Option.none⟩ v5).setCell ⟨G,6,Option.none⟩ v6).setCell ⟨G,7,Option.none⟩ v7).setCell ⟨G,8,Option.none⟩ v8).setCell ⟨G,9,Option.none⟩ v9) ((G,#[v0,v1,v2,v3,v4,v5,v6,v7,v8,v9],t) :: bs) Rs:=by
 have h0 : RdO rd g w (W.setCell ⟨G,0,Option.none⟩ v0) ((G,#[v0,u1,u2,u3,u4,u5,u6,u7,u8,u9],t) :: bs) Rs:=h.set hl 0 v0
 have h1 : RdO rd g w ((W.setCell ⟨G,0,Option.none⟩ v0).setCell ⟨G,1,Option.none⟩ v1) ((G,#[v0,v1,u2,u3,u4,u5,u6,u7,u8,u9],t) :: bs) Rs:=h0.set hl 1 v1
 have h2 : RdO rd g w (((W.setCell ⟨G,0,Option.none⟩ v0).setCell ⟨G,1,Option.none⟩ v1).setCell ⟨G,2,Option.none⟩ v2) ((G,#[v0,v1,v2,u3,u4,u5,u6,u7,u8,u9],t) :: bs) Rs:=h1.set hl 2 v2
 have h3 : RdO rd g w ((((W.setCell ⟨G,0,Option.none⟩ v0).setCell ⟨G,1,Option.none⟩ v1).setCell ⟨G,2,Option.none⟩ v2).setCell ⟨G,3,Option.none⟩ v3) ((G,#[v0,v1,v2,v3,u4,u5,u6,u7,u8,u9],t) :: bs) Rs:=h2.set hl 3 v3
 have h4 : RdO rd g w (((((W.setCell ⟨G,0,Option.none⟩ v0).setCell ⟨G,1,Option.none⟩ v1).setCell ⟨G,2,Option.none⟩ v2).setCell ⟨G,3,Option.none⟩ v3).setCell ⟨G,4,Option.none⟩ v4) ((G,#[v0,v1,v2,v3,v4,u5,u6,u7,u8,u9],t) :: bs) Rs:=h3.set hl 4 v4
 have h5 : RdO rd g w ((((((W.setCell ⟨G,0,Option.none⟩ v0).setCell ⟨G,1,Option.none⟩ v1).setCell ⟨G,2,Option.none⟩ v2).setCell ⟨G,3,Option.none⟩ v3).setCell ⟨G,4,Option.none⟩ v4).setCell ⟨G,5,Option.none⟩ v5) ((G,#[v0,v1,v2,v3,v4,v5,u6,u7,u8,u9],t) :: bs) Rs:=h4.set hl 5 v5
 have h6 : RdO rd g w (((((((W.setCell ⟨G,0,Option.none⟩ v0).setCell ⟨G,1,Option.none⟩ v1).setCell ⟨G,2,Option.none⟩ v2).setCell ⟨G,3,Option.none⟩ v3).setCell ⟨G,4,Option.none⟩ v4).setCell ⟨G,5,Option.none⟩ v5).setCell ⟨G,6,Option.none⟩ v6) ((G,#[v0,v1,v2,v3,v4,v5,v6,u7,u8,u9],t) :: bs) Rs:=h5.set hl 6 v6
 have h7 : RdO rd g w ((((((((W.setCell ⟨G,0,Option.none⟩ v0).setCell ⟨G,1,Option.none⟩ v1).setCell ⟨G,2,Option.none⟩ v2).setCell ⟨G,3,Option.none⟩ v3).setCell ⟨G,4,Option.none⟩ v4).setCell ⟨G,5,Option.none⟩ v5).setCell ⟨G,6,Option.none⟩ v6).setCell ⟨G,7,Option.none⟩ v7) ((G,#[v0,v1,v2,v3,v4,v5,v6,v7,u8,u9],t) :: bs) Rs:=h6.set hl 7 v7
 have h8 : RdO rd g w (((((((((W.setCell ⟨G,0,Option.none⟩ v0).setCell ⟨G,1,Option.none⟩ v1).setCell ⟨G,2,Option.none⟩ v2).setCell ⟨G,3,Option.none⟩ v3).setCell ⟨G,4,Option.none⟩ v4).setCell ⟨G,5,Option.none⟩ v5).setCell ⟨G,6,Option.none⟩ v6).setCell ⟨G,7,Option.none⟩ v7).setCell ⟨G,8,Option.none⟩ v8) ((G,#[v0,v1,v2,v3,v4,v5,v6,v7,v8,u9],t) :: bs) Rs:=h7.set hl 8 v8
 have h9 : RdO rd g w ((((((((((W.setCell ⟨G,0,Option.none⟩ v0).setCell ⟨G,1,Option.none⟩ v1).setCell ⟨G,2,Option.none⟩ v2).setCell ⟨G,3,Option.none⟩ v3).setCell ⟨G,4,Option.none⟩ v4).setCell ⟨G,5,Option.none⟩ v5).setCell ⟨G,6,Option.none⟩ v6).setCell ⟨G,7,Option.none⟩ v7).setCell ⟨G,8,Option.none⟩ v8).setCell ⟨G,9,Option.none⟩ v9) ((G,#[v0,v1,v2,v3,v4,v5,v6,v7,v8,v9],t) :: bs) Rs:=h8.set hl 9 v9
 exact h9
theorem TxB.fill {W : World} {G : Nat} {u0 u1 u2 u3 u4 u5 u6 u7 u8 u9 : Value} {t : TypeId} {a : Option Addr} {n : Nat} {b : Option Addr} {m : Nat} {rs : List RdM} {ws : List WrM} (h : TxB W G #[u0,u1,u2,u3,u4,u5,u6,u7,u8,u9] t a n b m rs ws) (v0 v1 v2 v3 v4 v5 v6 v7 v8 v9 : Value) (h0 : ∀ z,v0≠.string z) (h1 : ∀ z,v1≠.string z) (h2 : ∀ z,v2≠.string z) (h3 : ∀ z,v3≠.string z) (h4 : ∀ z,v4≠.string z) (h5 : ∀ z,v5≠.string z) (h6 : ∀ z,v6≠.string z) (h7 : ∀ z,v7≠.string z) (h8 : ∀ z,v8≠.string z) (h9 : ∀ z,v9≠.string z) : TxAt ((((((((((W.setCell ⟨G,0,Option.none⟩ v0).setCell ⟨G,1,Option.none⟩ v1).setCell ⟨G,2,Option.none⟩ v2).setCell ⟨G,3,Option.none⟩ v3).setCell ⟨G,4,Option.none⟩ v4).setCell ⟨G,5,Option.none⟩ v5).setCell ⟨G,6,Option.none⟩ v6).setCell ⟨G,7,Option.none⟩ v7).setCell ⟨G,8,Option.none⟩ v8).setCell ⟨G,9,Option.none⟩ v9) a n b m rs ws:=((((((((((h.set 0 v0 h0).set 1 v1 h1).set 2 v2 h2).set 3 v3 h3).set 4 v4 h4).set 5 v5 h5).set 6 v6 h6).set 7 v7 h7).set 8 v8 h8).set 9 v9 h9).2
/-- A command's fields are taken, formed or not. -/
def GotF (rd : St→World→Prop) (g : Nat) (st : St) (w : World) (e : Ending) (w' : World) : Prop :=
 ∃ (x : CmM) (rs : List RdM) (ws : List WrM) (st' : St),e = .returned (.agg (cmV x))∧rd st' w'∧Only g w w'∧CmAt w' x rs ws∧((x.n≤255∧x.m≤255)∧NewP w.heap.size x.a∧NewP w.heap.size x.b)∧Res cmP st (cmT x rs ws) st'
/-- A command is taken; a zero one where it fails. -/
def GotC (rd : St→World→Prop) (g : Nat) (st : St) (w : World) (e : Ending) (w' : World) : Prop :=
 ∃ (x : CmM) (rs : List RdM) (ws : List WrM) (st' : St),e = .returned (.agg (cmV x))∧rd st' w'∧Only g w w'∧CmAt w' x rs ws∧((x.n≤255∧x.m≤255)∧NewP w.heap.size x.a∧NewP w.heap.size x.b)∧Res cmF st (cmT x rs ws) st'∧(st' = none→cmT x rs ws = zeroC)
section
variable {st st1 st2 st3 st4 : St}
theorem res_begin {k : Nat} {i : IdN} {rs : List RdM} {ws : List WrM} (h1 : Res (numP 1) st k st1) (hk : k = 1) (h2 : Res txnF st1 (txT i rs ws) st2) : Res cmP st ⟨(k : Int),txT i rs ws,(0,0),0,0,false⟩ st2:=by
 unfold cmP
 refine Res.bind (x:=k) h1 ?_
 subst hk
 exact Res.bind (x:=txT i rs ws) h2 (Res.pure _ _)
theorem res_stamp {k : Nat} {i j : Int} {G s : Nat} (h1 : Res (numP 1) st k st1) (hk : k = 2) (h2 : Res srcP st1 ((i,j),G) st2) (h3 : Res (numP 8) st2 s st3) : Res cmP st ⟨(k : Int),zeroT,(i,j),(G : Int),s,false⟩ st3:=by
 unfold cmP
 refine Res.bind (x:=k) h1 ?_
 subst hk
 have h4:=Res.bind (f:=fun x : IdN×Nat=>bindP (numP 8) fun s=>pureP (⟨2,zeroT,x.1,(x.2 : Int),s,false⟩ : Cm)) h2 (Res.bind (x:=s) h3 (Res.pure _ _))
 have e : cmTail 2 = bindP srcP fun x=>bindP (numP 8) fun s=>pureP ⟨2,zeroT,x.1,(x.2 : Int),s,false⟩:=by
  unfold cmTail srcP
  rw [if_neg (by omega),if_pos rfl,bind_assoc]
  congr 1;funext i
  rw [bind_assoc];congr 1
 rw [e];exact h4
theorem res_vote {k : Nat} {i j : Int} {G : Nat} {y : Bool} (h1 : Res (numP 1) st k st1) (hk : k = 3) (h2 : Res srcP st1 ((i,j),G) st2) (h3 : Res yesP st2 y st3) : Res cmP st ⟨(k : Int),zeroT,(i,j),(G : Int),0,y⟩ st3:=by
 unfold cmP
 refine Res.bind (x:=k) h1 ?_
 subst hk
 have h4:=Res.bind (f:=fun x : IdN×Nat=>bindP yesP fun y=>pureP (⟨3,zeroT,x.1,(x.2 : Int),0,y⟩ : Cm)) h2 (Res.bind (x:=y) h3 (Res.pure _ _))
 have e : cmTail 3 = bindP srcP fun x=>bindP yesP fun y=>pureP ⟨3,zeroT,x.1,(x.2 : Int),0,y⟩:=by
  unfold cmTail srcP yesP
  rw [if_neg (by omega),if_neg (by omega),if_pos rfl,bind_assoc]
  congr 1;funext i
  rw [bind_assoc];congr 1;funext g
  rw [bind_pure_l,bind_assoc]
  congr 1;funext y
  split
  ·rw [bind_pure_l]
  ·rfl
 rw [e];exact h4
theorem res_none {k : Nat} (h1 : Res (numP 1) st k st1) (n1 : ¬ k = 1) (n2 : ¬ k = 2) (n3 : ¬ k = 3) : Res cmP st ⟨(k : Int),zeroT,(0,0),0,0,false⟩ st1:=by
 unfold cmP
 refine Res.bind (x:=k) h1 ?_
 unfold cmTail
 rw [if_neg n1,if_neg n2,if_neg n3]
 exact Res.pure _ _
end
theorem kTakeFields_any (g : Nat) (st : St) (w : World) (h : RS g st w) (hU : Tabs w) :
  Calls Tryz.prog 112 #[.pointer (some ⟨g,0,none⟩)] w (GotF (RS g) g st w):=by
 have hlt:=h.lt
 have H0:=hid ((RdO.start h hlt).more zeroV 33)
 have c1 : ∀ s W,RS g s W→Calls Tryz.prog 80 #[.pointer (some ⟨g,0,none⟩),.int .i64 1] W (Took1 (RS g) g numV (numP 1) 0 s W):=fun s W h=>takeS_any g 1 s W h (by omega)
 have c8 : ∀ s W,RS g s W→Calls Tryz.prog 80 #[.pointer (some ⟨g,0,none⟩),.int .i64 8] W (Took1 (RS g) g numV (numP 8) 0 s W):=fun s W h=>takeS_any g 8 s W h (by omega)
 obtain ⟨l0,ok0,hrd0⟩:=h.rd
 have HT : Hid (∀ W,Only g w W→Tabs W):=fun W ho=>hU.only hrd0 ho
 clear h hrd0 hU
 go_enter Tryz.func112,Tryz.ntmps112
 go_upto_region 2 with (go_at_call 80;((with_reducible refine (c1 _ _ H0.out.rdr).mono ?_);rintro e w1 ⟨k,st1,rfl,hr1,ho1,hR1,hz1⟩;have H1:=hid (H0.out.only hr1 ho1);have R1:=hid hR1;have hk : k < 256:=num_lt hR1 hz1 (by decide);clear hr1 ho1 hR1 hz1))
 have H2:=hid (H1.out.more #[.int .i64 ((k : Nat) : Int),.int .i64 0,.int .i64 0,.slice none 0 0,.slice none 0 0,.int .i64 0,.int .i64 0,.int .i64 0,.int .u64 0,.bool false] 33)
 have hG : w.heap.size < w1.heap.size:=(H1.out.get 0 _ _ _ rfl).lt
 clear H0 H1
 generalize w1.alloc (.cells #[.int .i64 ((k : Nat) : Int),.int .i64 0,.int .i64 0,.slice none 0 0,.slice none 0 0,.int .i64 0,.int .i64 0,.int .i64 0,.int .u64 0,.bool false] 33) = W2 at *
 generalize w1.heap.size = G at *
 have hgG : g≠G:=by omega
 have hgw : g≠w.heap.size:=by omega
 have hGw : G≠w.heap.size:=by omega
 have hl1 : ∀ x ∈ ([(w.heap.size,zeroV,33)] : List (Nat×Array Value×TypeId)),x.1≠G:=by simp;omega
 obtain ⟨x0,x1,x2,x3,x4,x5,x6,x7,x8,x9⟩:=(H2.out.get 0 _ _ _ rfl).ten;have e0:=(H2.out.get 0 _ _ _ rfl).frozen 0;have e1:=(H2.out.get 0 _ _ _ rfl).frozen 1;have e2:=(H2.out.get 0 _ _ _ rfl).frozen 2;have e3:=(H2.out.get 0 _ _ _ rfl).frozen 3;have e4:=(H2.out.get 0 _ _ _ rfl).frozen 4;have e5:=(H2.out.get 0 _ _ _ rfl).frozen 5;have e6:=(H2.out.get 0 _ _ _ rfl).frozen 6;have e7:=(H2.out.get 0 _ _ _ rfl).frozen 7;have e8:=(H2.out.get 0 _ _ _ rfl).frozen 8;have e9:=(H2.out.get 0 _ _ _ rfl).frozen 9;obtain ⟨z0,z1,z2,z3,z4,z5,z6,z7,z8,z9⟩:=(H2.out.get 1 _ _ _ rfl).ten;have f0:=(H2.out.get 1 _ _ _ rfl).frozen 0;have f1:=(H2.out.get 1 _ _ _ rfl).frozen 1;have f2:=(H2.out.get 1 _ _ _ rfl).frozen 2;have f3:=(H2.out.get 1 _ _ _ rfl).frozen 3;have f4:=(H2.out.get 1 _ _ _ rfl).frozen 4;have f5:=(H2.out.get 1 _ _ _ rfl).frozen 5;have f6:=(H2.out.get 1 _ _ _ rfl).frozen 6;have f7:=(H2.out.get 1 _ _ _ rfl).frozen 7;have f8:=(H2.out.get 1 _ _ _ rfl).frozen 8;have f9:=(H2.out.get 1 _ _ _ rfl).frozen 9
 by_cases h1 : k = 1
 ·have q1 : (((k : Nat) : Int) == 1) = true:=by simp;omega
  have K1:=hid h1
  clear h1
  go_upto_region 11 with (go_at_call 131;((with_reducible refine (tTake_any g _ _ H2.out.rdr (HT.out _ H2.out.onl)).mono ?_);rintro e w3 ⟨s,q,a,n,c,b,m,d,rs,ws,st2,rfl,hr3,ho3,hT3,⟨hn3,na3,nb3⟩,hR3,hz3⟩;have H3:=hid (H2.out.only hr3 ho3);have R3:=hid hR3;have T3:=hid hT3;have N3 : Hid (NewP w.heap.size a∧NewP w.heap.size b):=⟨na3.mono H2.out.size,nb3.mono H2.out.size⟩;clear na3 nb3;(clear x0 x1 x2 x3 x4 x5 x6 x7 x8 x9 e0 e1 e2 e3 e4 e5 e6 e7 e8 e9 z0 z1 z2 z3 z4 z5 z6 z7 z8 z9 f0 f1 f2 f3 f4 f5 f6 f7 f8 f9);obtain ⟨x0,x1,x2,x3,x4,x5,x6,x7,x8,x9⟩:=(H3.out.get 0 _ _ _ rfl).ten;have e0:=(H3.out.get 0 _ _ _ rfl).frozen 0;have e1:=(H3.out.get 0 _ _ _ rfl).frozen 1;have e2:=(H3.out.get 0 _ _ _ rfl).frozen 2;have e3:=(H3.out.get 0 _ _ _ rfl).frozen 3;have e4:=(H3.out.get 0 _ _ _ rfl).frozen 4;have e5:=(H3.out.get 0 _ _ _ rfl).frozen 5;have e6:=(H3.out.get 0 _ _ _ rfl).frozen 6;have e7:=(H3.out.get 0 _ _ _ rfl).frozen 7;have e8:=(H3.out.get 0 _ _ _ rfl).frozen 8;have e9:=(H3.out.get 0 _ _ _ rfl).frozen 9;obtain ⟨z0,z1,z2,z3,z4,z5,z6,z7,z8,z9⟩:=(H3.out.get 1 _ _ _ rfl).ten;have f0:=(H3.out.get 1 _ _ _ rfl).frozen 0;have f1:=(H3.out.get 1 _ _ _ rfl).frozen 1;have f2:=(H3.out.get 1 _ _ _ rfl).frozen 2;have f3:=(H3.out.get 1 _ _ _ rfl).frozen 3;have f4:=(H3.out.get 1 _ _ _ rfl).frozen 4;have f5:=(H3.out.get 1 _ _ _ rfl).frozen 5;have f6:=(H3.out.get 1 _ _ _ rfl).frozen 6;have f7:=(H3.out.get 1 _ _ _ rfl).frozen 7;have f8:=(H3.out.get 1 _ _ _ rfl).frozen 8;have f9:=(H3.out.get 1 _ _ _ rfl).frozen 9;clear hr3 ho3 hT3 hR3 hz3))
  have H4 : Hid (RdO (RS g st2) g w ((((w3.setCell ⟨G,1,none⟩ (.int .i64 s)).setCell ⟨G,2,none⟩ (.int .i64 q)).setCell ⟨G,3,none⟩ (.slice a n c)).setCell ⟨G,4,none⟩ (.slice b m d)) [(G,#[.int .i64 ((k : Nat) : Int),.int .i64 s,.int .i64 q,.slice a n c,.slice b m d,.int .i64 0,.int .i64 0,.int .i64 0,.int .u64 0,.bool false],33),(w.heap.size,zeroV,33)] []):=((((H3.out.set hl1 1 (.int .i64 s)).set hl1 2 (.int .i64 q)).set hl1 3 (.slice a n c)).set hl1 4 (.slice b m d))
  have T4 : Hid (TxAt ((((w3.setCell ⟨G,1,none⟩ (.int .i64 s)).setCell ⟨G,2,none⟩ (.int .i64 q)).setCell ⟨G,3,none⟩ (.slice a n c)).setCell ⟨G,4,none⟩ (.slice b m d)) a n b m rs ws):=((((show TxB w3 G _ 33 a n b m rs ws from ⟨⟨H3.out.get 0 _ _ _ rfl,noStr_cm _ _ _ _ _ _ _ _ _ _ (by simp) (by simp) (by simp) (by simp) (by simp) (by simp) (by simp) (by simp) (by simp) (by simp) ⟩,T3.out⟩).set 1 (.int .i64 s) (by simp)).set 2 (.int .i64 q) (by simp)).set 3 (.slice a n c) (by simp)).set 4 (.slice b m d) (by simp) |>.2
  (clear x0 x1 x2 x3 x4 x5 x6 x7 x8 x9 e0 e1 e2 e3 e4 e5 e6 e7 e8 e9 z0 z1 z2 z3 z4 z5 z6 z7 z8 z9 f0 f1 f2 f3 f4 f5 f6 f7 f8 f9)
  clear H2 H3 T3
  generalize (((w3.setCell ⟨G,1,none⟩ (.int .i64 s)).setCell ⟨G,2,none⟩ (.int .i64 q)).setCell ⟨G,3,none⟩ (.slice a n c)).setCell ⟨G,4,none⟩ (.slice b m d) = W4 at *
  have hl2 : ∀ x ∈ ([(G,#[.int .i64 ((k : Nat) : Int),.int .i64 s,.int .i64 q,.slice a n c,.slice b m d,.int .i64 0,.int .i64 0,.int .i64 0,.int .u64 0,.bool false],33)] : List (Nat×Array Value×TypeId)),x.1≠w.heap.size:=by simp;omega
  have TB : Hid (TxB W4 w.heap.size zeroV 33 a n b m rs ws):=⟨⟨H4.out.get 1 _ _ _ rfl,noStr_cm _ _ _ _ _ _ _ _ _ _ (by simp) (by simp) (by simp) (by simp) (by simp) (by simp) (by simp) (by simp) (by simp) (by simp) ⟩,T4.out⟩
  have RR:=hid (res_begin R1.out K1.out R3.out)
  obtain ⟨x0,x1,x2,x3,x4,x5,x6,x7,x8,x9⟩:=(H4.out.get 0 _ _ _ rfl).ten;have e0:=(H4.out.get 0 _ _ _ rfl).frozen 0;have e1:=(H4.out.get 0 _ _ _ rfl).frozen 1;have e2:=(H4.out.get 0 _ _ _ rfl).frozen 2;have e3:=(H4.out.get 0 _ _ _ rfl).frozen 3;have e4:=(H4.out.get 0 _ _ _ rfl).frozen 4;have e5:=(H4.out.get 0 _ _ _ rfl).frozen 5;have e6:=(H4.out.get 0 _ _ _ rfl).frozen 6;have e7:=(H4.out.get 0 _ _ _ rfl).frozen 7;have e8:=(H4.out.get 0 _ _ _ rfl).frozen 8;have e9:=(H4.out.get 0 _ _ _ rfl).frozen 9;obtain ⟨z0,z1,z2,z3,z4,z5,z6,z7,z8,z9⟩:=(H4.out.get 1 _ _ _ rfl).ten;have f0:=(H4.out.get 1 _ _ _ rfl).frozen 0;have f1:=(H4.out.get 1 _ _ _ rfl).frozen 1;have f2:=(H4.out.get 1 _ _ _ rfl).frozen 2;have f3:=(H4.out.get 1 _ _ _ rfl).frozen 3;have f4:=(H4.out.get 1 _ _ _ rfl).frozen 4;have f5:=(H4.out.get 1 _ _ _ rfl).frozen 5;have f6:=(H4.out.get 1 _ _ _ rfl).frozen 6;have f7:=(H4.out.get 1 _ _ _ rfl).frozen 7;have f8:=(H4.out.get 1 _ _ _ rfl).frozen 8;have f9:=(H4.out.get 1 _ _ _ rfl).frozen 9
  go_wp2
  have F:=H4.out.swap.fill hl2 (.int .i64 ((k : Nat) : Int)) (.int .i64 s) (.int .i64 q) (.slice a n c) (.slice b m d) (.int .i64 0) (.int .i64 0) (.int .i64 0) (.int .u64 0) (.bool false)
  have FT:=TB.out.fill (.int .i64 ((k : Nat) : Int)) (.int .i64 s) (.int .i64 q) (.slice a n c) (.slice b m d) (.int .i64 0) (.int .i64 0) (.int .i64 0) (.int .u64 0) (.bool false) (by simp) (by simp) (by simp) (by simp) (by simp) (by simp) (by simp) (by simp) (by simp) (by simp) 
  exact bodyPost_ret (v:=.agg #[.int .i64 ((k : Nat) : Int),.int .i64 s,.int .i64 q,.slice a n c,.slice b m d,.int .i64 0,.int .i64 0,.int .i64 0,.int .u64 0,.bool false]) (by simp [results,Tryz.results112,go_sem,z0,z1,z2,z3,z4,z5,z6,z7,z8,z9]) rfl ⟨⟨(k : Int),s,q,a,n,c,b,m,d,0,0,0,0,false⟩,rs,ws,st2,rfl,F.rdr,F.onl,⟨FT,by show 0 < 18446744073709551616;decide⟩,⟨hn3,N3.out⟩,RR.out⟩
 have q1 : (((k : Nat) : Int) == 1) = false:=by simp;omega
 by_cases h2 : k = 2
 ·have q2 : (((k : Nat) : Int) == 2) = true:=by simp;omega
  have K1:=hid h2
  clear h2
  go_upto_region 7 with (go_at_call 132;((with_reducible refine (kTakeSource_any g _ _ H2.out.rdr).mono ?_);rintro e w3 ⟨i,j,D,st2,rfl,hr3,ho3,hR3,hD3⟩;have H3:=hid (H2.out.only hr3 ho3);have R3:=hid hR3;(clear x0 x1 x2 x3 x4 x5 x6 x7 x8 x9 e0 e1 e2 e3 e4 e5 e6 e7 e8 e9 z0 z1 z2 z3 z4 z5 z6 z7 z8 z9 f0 f1 f2 f3 f4 f5 f6 f7 f8 f9);obtain ⟨x0,x1,x2,x3,x4,x5,x6,x7,x8,x9⟩:=(H3.out.get 0 _ _ _ rfl).ten;have e0:=(H3.out.get 0 _ _ _ rfl).frozen 0;have e1:=(H3.out.get 0 _ _ _ rfl).frozen 1;have e2:=(H3.out.get 0 _ _ _ rfl).frozen 2;have e3:=(H3.out.get 0 _ _ _ rfl).frozen 3;have e4:=(H3.out.get 0 _ _ _ rfl).frozen 4;have e5:=(H3.out.get 0 _ _ _ rfl).frozen 5;have e6:=(H3.out.get 0 _ _ _ rfl).frozen 6;have e7:=(H3.out.get 0 _ _ _ rfl).frozen 7;have e8:=(H3.out.get 0 _ _ _ rfl).frozen 8;have e9:=(H3.out.get 0 _ _ _ rfl).frozen 9;obtain ⟨z0,z1,z2,z3,z4,z5,z6,z7,z8,z9⟩:=(H3.out.get 1 _ _ _ rfl).ten;have f0:=(H3.out.get 1 _ _ _ rfl).frozen 0;have f1:=(H3.out.get 1 _ _ _ rfl).frozen 1;have f2:=(H3.out.get 1 _ _ _ rfl).frozen 2;have f3:=(H3.out.get 1 _ _ _ rfl).frozen 3;have f4:=(H3.out.get 1 _ _ _ rfl).frozen 4;have f5:=(H3.out.get 1 _ _ _ rfl).frozen 5;have f6:=(H3.out.get 1 _ _ _ rfl).frozen 6;have f7:=(H3.out.get 1 _ _ _ rfl).frozen 7;have f8:=(H3.out.get 1 _ _ _ rfl).frozen 8;have f9:=(H3.out.get 1 _ _ _ rfl).frozen 9;clear hr3 ho3 hR3))
  have H4 : Hid (RdO (RS g st2) g w (((w3.setCell ⟨G,5,none⟩ (.int .i64 i)).setCell ⟨G,6,none⟩ (.int .i64 j)).setCell ⟨G,7,none⟩ (.int .i64 ((D : Nat) : Int))) [(G,#[.int .i64 ((k : Nat) : Int),.int .i64 0,.int .i64 0,.slice none 0 0,.slice none 0 0,.int .i64 i,.int .i64 j,.int .i64 ((D : Nat) : Int),.int .u64 0,.bool false],33),(w.heap.size,zeroV,33)] []):=(((H3.out.set hl1 5 (.int .i64 i)).set hl1 6 (.int .i64 j)).set hl1 7 (.int .i64 ((D : Nat) : Int)))
  (clear x0 x1 x2 x3 x4 x5 x6 x7 x8 x9 e0 e1 e2 e3 e4 e5 e6 e7 e8 e9 z0 z1 z2 z3 z4 z5 z6 z7 z8 z9 f0 f1 f2 f3 f4 f5 f6 f7 f8 f9)
  clear H2 H3
  generalize ((w3.setCell ⟨G,5,none⟩ (.int .i64 i)).setCell ⟨G,6,none⟩ (.int .i64 j)).setCell ⟨G,7,none⟩ (.int .i64 ((D : Nat) : Int)) = W4 at *
  obtain ⟨x0,x1,x2,x3,x4,x5,x6,x7,x8,x9⟩:=(H4.out.get 0 _ _ _ rfl).ten;have e0:=(H4.out.get 0 _ _ _ rfl).frozen 0;have e1:=(H4.out.get 0 _ _ _ rfl).frozen 1;have e2:=(H4.out.get 0 _ _ _ rfl).frozen 2;have e3:=(H4.out.get 0 _ _ _ rfl).frozen 3;have e4:=(H4.out.get 0 _ _ _ rfl).frozen 4;have e5:=(H4.out.get 0 _ _ _ rfl).frozen 5;have e6:=(H4.out.get 0 _ _ _ rfl).frozen 6;have e7:=(H4.out.get 0 _ _ _ rfl).frozen 7;have e8:=(H4.out.get 0 _ _ _ rfl).frozen 8;have e9:=(H4.out.get 0 _ _ _ rfl).frozen 9;obtain ⟨z0,z1,z2,z3,z4,z5,z6,z7,z8,z9⟩:=(H4.out.get 1 _ _ _ rfl).ten;have f0:=(H4.out.get 1 _ _ _ rfl).frozen 0;have f1:=(H4.out.get 1 _ _ _ rfl).frozen 1;have f2:=(H4.out.get 1 _ _ _ rfl).frozen 2;have f3:=(H4.out.get 1 _ _ _ rfl).frozen 3;have f4:=(H4.out.get 1 _ _ _ rfl).frozen 4;have f5:=(H4.out.get 1 _ _ _ rfl).frozen 5;have f6:=(H4.out.get 1 _ _ _ rfl).frozen 6;have f7:=(H4.out.get 1 _ _ _ rfl).frozen 7;have f8:=(H4.out.get 1 _ _ _ rfl).frozen 8;have f9:=(H4.out.get 1 _ _ _ rfl).frozen 9
  go_upto_region 11 with (go_at_call 80;((with_reducible refine (c8 _ _ H4.out.rdr).mono ?_);rintro e w5 ⟨s,st3,rfl,hr5,ho5,hR5,hz5⟩;have H5:=hid (H4.out.only hr5 ho5);have R5:=hid hR5;have hs8 : s < 18446744073709551616:=num_lt hR5 hz5 (by decide);(clear x0 x1 x2 x3 x4 x5 x6 x7 x8 x9 e0 e1 e2 e3 e4 e5 e6 e7 e8 e9 z0 z1 z2 z3 z4 z5 z6 z7 z8 z9 f0 f1 f2 f3 f4 f5 f6 f7 f8 f9);obtain ⟨x0,x1,x2,x3,x4,x5,x6,x7,x8,x9⟩:=(H5.out.get 0 _ _ _ rfl).ten;have e0:=(H5.out.get 0 _ _ _ rfl).frozen 0;have e1:=(H5.out.get 0 _ _ _ rfl).frozen 1;have e2:=(H5.out.get 0 _ _ _ rfl).frozen 2;have e3:=(H5.out.get 0 _ _ _ rfl).frozen 3;have e4:=(H5.out.get 0 _ _ _ rfl).frozen 4;have e5:=(H5.out.get 0 _ _ _ rfl).frozen 5;have e6:=(H5.out.get 0 _ _ _ rfl).frozen 6;have e7:=(H5.out.get 0 _ _ _ rfl).frozen 7;have e8:=(H5.out.get 0 _ _ _ rfl).frozen 8;have e9:=(H5.out.get 0 _ _ _ rfl).frozen 9;obtain ⟨z0,z1,z2,z3,z4,z5,z6,z7,z8,z9⟩:=(H5.out.get 1 _ _ _ rfl).ten;have f0:=(H5.out.get 1 _ _ _ rfl).frozen 0;have f1:=(H5.out.get 1 _ _ _ rfl).frozen 1;have f2:=(H5.out.get 1 _ _ _ rfl).frozen 2;have f3:=(H5.out.get 1 _ _ _ rfl).frozen 3;have f4:=(H5.out.get 1 _ _ _ rfl).frozen 4;have f5:=(H5.out.get 1 _ _ _ rfl).frozen 5;have f6:=(H5.out.get 1 _ _ _ rfl).frozen 6;have f7:=(H5.out.get 1 _ _ _ rfl).frozen 7;have f8:=(H5.out.get 1 _ _ _ rfl).frozen 8;have f9:=(H5.out.get 1 _ _ _ rfl).frozen 9;clear hr5 ho5 hR5 hz5))
  have H6 : Hid (RdO (RS g st3) g w (w5.setCell ⟨G,8,none⟩ (.int .u64 ((s : Nat) : Int))) [(G,#[.int .i64 ((k : Nat) : Int),.int .i64 0,.int .i64 0,.slice none 0 0,.slice none 0 0,.int .i64 i,.int .i64 j,.int .i64 ((D : Nat) : Int),.int .u64 ((s : Nat) : Int),.bool false],33),(w.heap.size,zeroV,33)] []):=H5.out.set hl1 8 (.int .u64 ((s : Nat) : Int))
  (clear x0 x1 x2 x3 x4 x5 x6 x7 x8 x9 e0 e1 e2 e3 e4 e5 e6 e7 e8 e9 z0 z1 z2 z3 z4 z5 z6 z7 z8 z9 f0 f1 f2 f3 f4 f5 f6 f7 f8 f9)
  clear H4 H5
  generalize w5.setCell ⟨G,8,none⟩ (.int .u64 ((s : Nat) : Int)) = W6 at *
  have hl2 : ∀ x ∈ ([(G,#[.int .i64 ((k : Nat) : Int),.int .i64 0,.int .i64 0,.slice none 0 0,.slice none 0 0,.int .i64 i,.int .i64 j,.int .i64 ((D : Nat) : Int),.int .u64 ((s : Nat) : Int),.bool false],33)] : List (Nat×Array Value×TypeId)),x.1≠w.heap.size:=by simp;omega
  have RR:=hid (res_stamp R1.out K1.out R3.out R5.out)
  obtain ⟨x0,x1,x2,x3,x4,x5,x6,x7,x8,x9⟩:=(H6.out.get 0 _ _ _ rfl).ten;have e0:=(H6.out.get 0 _ _ _ rfl).frozen 0;have e1:=(H6.out.get 0 _ _ _ rfl).frozen 1;have e2:=(H6.out.get 0 _ _ _ rfl).frozen 2;have e3:=(H6.out.get 0 _ _ _ rfl).frozen 3;have e4:=(H6.out.get 0 _ _ _ rfl).frozen 4;have e5:=(H6.out.get 0 _ _ _ rfl).frozen 5;have e6:=(H6.out.get 0 _ _ _ rfl).frozen 6;have e7:=(H6.out.get 0 _ _ _ rfl).frozen 7;have e8:=(H6.out.get 0 _ _ _ rfl).frozen 8;have e9:=(H6.out.get 0 _ _ _ rfl).frozen 9;obtain ⟨z0,z1,z2,z3,z4,z5,z6,z7,z8,z9⟩:=(H6.out.get 1 _ _ _ rfl).ten;have f0:=(H6.out.get 1 _ _ _ rfl).frozen 0;have f1:=(H6.out.get 1 _ _ _ rfl).frozen 1;have f2:=(H6.out.get 1 _ _ _ rfl).frozen 2;have f3:=(H6.out.get 1 _ _ _ rfl).frozen 3;have f4:=(H6.out.get 1 _ _ _ rfl).frozen 4;have f5:=(H6.out.get 1 _ _ _ rfl).frozen 5;have f6:=(H6.out.get 1 _ _ _ rfl).frozen 6;have f7:=(H6.out.get 1 _ _ _ rfl).frozen 7;have f8:=(H6.out.get 1 _ _ _ rfl).frozen 8;have f9:=(H6.out.get 1 _ _ _ rfl).frozen 9
  go_wp2
  have F:=H6.out.swap.fill hl2 (.int .i64 ((k : Nat) : Int)) (.int .i64 0) (.int .i64 0) (.slice none 0 0) (.slice none 0 0) (.int .i64 i) (.int .i64 j) (.int .i64 ((D : Nat) : Int)) (.int .u64 ((s : Nat) : Int)) (.bool false)
  exact bodyPost_ret (v:=.agg #[.int .i64 ((k : Nat) : Int),.int .i64 0,.int .i64 0,.slice none 0 0,.slice none 0 0,.int .i64 i,.int .i64 j,.int .i64 ((D : Nat) : Int),.int .u64 ((s : Nat) : Int),.bool false]) (by simp [results,Tryz.results112,go_sem,z0,z1,z2,z3,z4,z5,z6,z7,z8,z9]) rfl ⟨⟨(k : Int),0,0,none,0,0,none,0,0,i,j,(D : Int),s,false⟩,[],[],st3,rfl,F.rdr,F.onl,⟨TxAt.nil,hs8⟩,⟨⟨Nat.zero_le _,Nat.zero_le _⟩,NewP.none _,NewP.none _⟩,RR.out⟩
 have q2 : (((k : Nat) : Int) == 2) = false:=by simp;omega
 by_cases h3 : k = 3
 ·have q3 : (((k : Nat) : Int) == 3) = true:=by simp;omega
  have K1:=hid h3
  clear h3
  go_upto_region 10 with (go_at_call 132;((with_reducible refine (kTakeSource_any g _ _ H2.out.rdr).mono ?_);rintro e w3 ⟨i,j,D,st2,rfl,hr3,ho3,hR3,hD3⟩;have H3:=hid (H2.out.only hr3 ho3);have R3:=hid hR3;(clear x0 x1 x2 x3 x4 x5 x6 x7 x8 x9 e0 e1 e2 e3 e4 e5 e6 e7 e8 e9 z0 z1 z2 z3 z4 z5 z6 z7 z8 z9 f0 f1 f2 f3 f4 f5 f6 f7 f8 f9);obtain ⟨x0,x1,x2,x3,x4,x5,x6,x7,x8,x9⟩:=(H3.out.get 0 _ _ _ rfl).ten;have e0:=(H3.out.get 0 _ _ _ rfl).frozen 0;have e1:=(H3.out.get 0 _ _ _ rfl).frozen 1;have e2:=(H3.out.get 0 _ _ _ rfl).frozen 2;have e3:=(H3.out.get 0 _ _ _ rfl).frozen 3;have e4:=(H3.out.get 0 _ _ _ rfl).frozen 4;have e5:=(H3.out.get 0 _ _ _ rfl).frozen 5;have e6:=(H3.out.get 0 _ _ _ rfl).frozen 6;have e7:=(H3.out.get 0 _ _ _ rfl).frozen 7;have e8:=(H3.out.get 0 _ _ _ rfl).frozen 8;have e9:=(H3.out.get 0 _ _ _ rfl).frozen 9;obtain ⟨z0,z1,z2,z3,z4,z5,z6,z7,z8,z9⟩:=(H3.out.get 1 _ _ _ rfl).ten;have f0:=(H3.out.get 1 _ _ _ rfl).frozen 0;have f1:=(H3.out.get 1 _ _ _ rfl).frozen 1;have f2:=(H3.out.get 1 _ _ _ rfl).frozen 2;have f3:=(H3.out.get 1 _ _ _ rfl).frozen 3;have f4:=(H3.out.get 1 _ _ _ rfl).frozen 4;have f5:=(H3.out.get 1 _ _ _ rfl).frozen 5;have f6:=(H3.out.get 1 _ _ _ rfl).frozen 6;have f7:=(H3.out.get 1 _ _ _ rfl).frozen 7;have f8:=(H3.out.get 1 _ _ _ rfl).frozen 8;have f9:=(H3.out.get 1 _ _ _ rfl).frozen 9;clear hr3 ho3 hR3))
  have H4 : Hid (RdO (RS g st2) g w (((w3.setCell ⟨G,5,none⟩ (.int .i64 i)).setCell ⟨G,6,none⟩ (.int .i64 j)).setCell ⟨G,7,none⟩ (.int .i64 ((D : Nat) : Int))) [(G,#[.int .i64 ((k : Nat) : Int),.int .i64 0,.int .i64 0,.slice none 0 0,.slice none 0 0,.int .i64 i,.int .i64 j,.int .i64 ((D : Nat) : Int),.int .u64 0,.bool false],33),(w.heap.size,zeroV,33)] []):=(((H3.out.set hl1 5 (.int .i64 i)).set hl1 6 (.int .i64 j)).set hl1 7 (.int .i64 ((D : Nat) : Int)))
  (clear x0 x1 x2 x3 x4 x5 x6 x7 x8 x9 e0 e1 e2 e3 e4 e5 e6 e7 e8 e9 z0 z1 z2 z3 z4 z5 z6 z7 z8 z9 f0 f1 f2 f3 f4 f5 f6 f7 f8 f9)
  clear H2 H3
  generalize ((w3.setCell ⟨G,5,none⟩ (.int .i64 i)).setCell ⟨G,6,none⟩ (.int .i64 j)).setCell ⟨G,7,none⟩ (.int .i64 ((D : Nat) : Int)) = W4 at *
  obtain ⟨x0,x1,x2,x3,x4,x5,x6,x7,x8,x9⟩:=(H4.out.get 0 _ _ _ rfl).ten;have e0:=(H4.out.get 0 _ _ _ rfl).frozen 0;have e1:=(H4.out.get 0 _ _ _ rfl).frozen 1;have e2:=(H4.out.get 0 _ _ _ rfl).frozen 2;have e3:=(H4.out.get 0 _ _ _ rfl).frozen 3;have e4:=(H4.out.get 0 _ _ _ rfl).frozen 4;have e5:=(H4.out.get 0 _ _ _ rfl).frozen 5;have e6:=(H4.out.get 0 _ _ _ rfl).frozen 6;have e7:=(H4.out.get 0 _ _ _ rfl).frozen 7;have e8:=(H4.out.get 0 _ _ _ rfl).frozen 8;have e9:=(H4.out.get 0 _ _ _ rfl).frozen 9;obtain ⟨z0,z1,z2,z3,z4,z5,z6,z7,z8,z9⟩:=(H4.out.get 1 _ _ _ rfl).ten;have f0:=(H4.out.get 1 _ _ _ rfl).frozen 0;have f1:=(H4.out.get 1 _ _ _ rfl).frozen 1;have f2:=(H4.out.get 1 _ _ _ rfl).frozen 2;have f3:=(H4.out.get 1 _ _ _ rfl).frozen 3;have f4:=(H4.out.get 1 _ _ _ rfl).frozen 4;have f5:=(H4.out.get 1 _ _ _ rfl).frozen 5;have f6:=(H4.out.get 1 _ _ _ rfl).frozen 6;have f7:=(H4.out.get 1 _ _ _ rfl).frozen 7;have f8:=(H4.out.get 1 _ _ _ rfl).frozen 8;have f9:=(H4.out.get 1 _ _ _ rfl).frozen 9
  go_upto_region 11 with (go_at_call 133;((with_reducible refine (kTakeYes_any g _ _ H4.out.rdr).mono ?_);rintro e w5 ⟨y,st3,rfl,hr5,ho5,hR5,hz5⟩;have H5:=hid (H4.out.only hr5 ho5);have R5:=hid hR5;(clear x0 x1 x2 x3 x4 x5 x6 x7 x8 x9 e0 e1 e2 e3 e4 e5 e6 e7 e8 e9 z0 z1 z2 z3 z4 z5 z6 z7 z8 z9 f0 f1 f2 f3 f4 f5 f6 f7 f8 f9);obtain ⟨x0,x1,x2,x3,x4,x5,x6,x7,x8,x9⟩:=(H5.out.get 0 _ _ _ rfl).ten;have e0:=(H5.out.get 0 _ _ _ rfl).frozen 0;have e1:=(H5.out.get 0 _ _ _ rfl).frozen 1;have e2:=(H5.out.get 0 _ _ _ rfl).frozen 2;have e3:=(H5.out.get 0 _ _ _ rfl).frozen 3;have e4:=(H5.out.get 0 _ _ _ rfl).frozen 4;have e5:=(H5.out.get 0 _ _ _ rfl).frozen 5;have e6:=(H5.out.get 0 _ _ _ rfl).frozen 6;have e7:=(H5.out.get 0 _ _ _ rfl).frozen 7;have e8:=(H5.out.get 0 _ _ _ rfl).frozen 8;have e9:=(H5.out.get 0 _ _ _ rfl).frozen 9;obtain ⟨z0,z1,z2,z3,z4,z5,z6,z7,z8,z9⟩:=(H5.out.get 1 _ _ _ rfl).ten;have f0:=(H5.out.get 1 _ _ _ rfl).frozen 0;have f1:=(H5.out.get 1 _ _ _ rfl).frozen 1;have f2:=(H5.out.get 1 _ _ _ rfl).frozen 2;have f3:=(H5.out.get 1 _ _ _ rfl).frozen 3;have f4:=(H5.out.get 1 _ _ _ rfl).frozen 4;have f5:=(H5.out.get 1 _ _ _ rfl).frozen 5;have f6:=(H5.out.get 1 _ _ _ rfl).frozen 6;have f7:=(H5.out.get 1 _ _ _ rfl).frozen 7;have f8:=(H5.out.get 1 _ _ _ rfl).frozen 8;have f9:=(H5.out.get 1 _ _ _ rfl).frozen 9;clear hr5 ho5 hR5 hz5))
  have H6 : Hid (RdO (RS g st3) g w (w5.setCell ⟨G,9,none⟩ (.bool y)) [(G,#[.int .i64 ((k : Nat) : Int),.int .i64 0,.int .i64 0,.slice none 0 0,.slice none 0 0,.int .i64 i,.int .i64 j,.int .i64 ((D : Nat) : Int),.int .u64 0,.bool y],33),(w.heap.size,zeroV,33)] []):=H5.out.set hl1 9 (.bool y)
  (clear x0 x1 x2 x3 x4 x5 x6 x7 x8 x9 e0 e1 e2 e3 e4 e5 e6 e7 e8 e9 z0 z1 z2 z3 z4 z5 z6 z7 z8 z9 f0 f1 f2 f3 f4 f5 f6 f7 f8 f9)
  clear H4 H5
  generalize w5.setCell ⟨G,9,none⟩ (.bool y) = W6 at *
  have hl2 : ∀ x ∈ ([(G,#[.int .i64 ((k : Nat) : Int),.int .i64 0,.int .i64 0,.slice none 0 0,.slice none 0 0,.int .i64 i,.int .i64 j,.int .i64 ((D : Nat) : Int),.int .u64 0,.bool y],33)] : List (Nat×Array Value×TypeId)),x.1≠w.heap.size:=by simp;omega
  have RR:=hid (res_vote R1.out K1.out R3.out R5.out)
  obtain ⟨x0,x1,x2,x3,x4,x5,x6,x7,x8,x9⟩:=(H6.out.get 0 _ _ _ rfl).ten;have e0:=(H6.out.get 0 _ _ _ rfl).frozen 0;have e1:=(H6.out.get 0 _ _ _ rfl).frozen 1;have e2:=(H6.out.get 0 _ _ _ rfl).frozen 2;have e3:=(H6.out.get 0 _ _ _ rfl).frozen 3;have e4:=(H6.out.get 0 _ _ _ rfl).frozen 4;have e5:=(H6.out.get 0 _ _ _ rfl).frozen 5;have e6:=(H6.out.get 0 _ _ _ rfl).frozen 6;have e7:=(H6.out.get 0 _ _ _ rfl).frozen 7;have e8:=(H6.out.get 0 _ _ _ rfl).frozen 8;have e9:=(H6.out.get 0 _ _ _ rfl).frozen 9;obtain ⟨z0,z1,z2,z3,z4,z5,z6,z7,z8,z9⟩:=(H6.out.get 1 _ _ _ rfl).ten;have f0:=(H6.out.get 1 _ _ _ rfl).frozen 0;have f1:=(H6.out.get 1 _ _ _ rfl).frozen 1;have f2:=(H6.out.get 1 _ _ _ rfl).frozen 2;have f3:=(H6.out.get 1 _ _ _ rfl).frozen 3;have f4:=(H6.out.get 1 _ _ _ rfl).frozen 4;have f5:=(H6.out.get 1 _ _ _ rfl).frozen 5;have f6:=(H6.out.get 1 _ _ _ rfl).frozen 6;have f7:=(H6.out.get 1 _ _ _ rfl).frozen 7;have f8:=(H6.out.get 1 _ _ _ rfl).frozen 8;have f9:=(H6.out.get 1 _ _ _ rfl).frozen 9
  go_wp2
  have F:=H6.out.swap.fill hl2 (.int .i64 ((k : Nat) : Int)) (.int .i64 0) (.int .i64 0) (.slice none 0 0) (.slice none 0 0) (.int .i64 i) (.int .i64 j) (.int .i64 ((D : Nat) : Int)) (.int .u64 0) (.bool y)
  exact bodyPost_ret (v:=.agg #[.int .i64 ((k : Nat) : Int),.int .i64 0,.int .i64 0,.slice none 0 0,.slice none 0 0,.int .i64 i,.int .i64 j,.int .i64 ((D : Nat) : Int),.int .u64 0,.bool y]) (by simp [results,Tryz.results112,go_sem,z0,z1,z2,z3,z4,z5,z6,z7,z8,z9]) rfl ⟨⟨(k : Int),0,0,none,0,0,none,0,0,i,j,(D : Int),0,y⟩,[],[],st3,rfl,F.rdr,F.onl,⟨TxAt.nil,(by show 0 < 18446744073709551616;decide)⟩,⟨⟨Nat.zero_le _,Nat.zero_le _⟩,NewP.none _,NewP.none _⟩,RR.out⟩
 have q3 : (((k : Nat) : Int) == 3) = false:=by simp;omega
 have hl2 : ∀ x ∈ ([(G,#[.int .i64 ((k : Nat) : Int),.int .i64 0,.int .i64 0,.slice none 0 0,.slice none 0 0,.int .i64 0,.int .i64 0,.int .i64 0,.int .u64 0,.bool false],33)] : List (Nat×Array Value×TypeId)),x.1≠w.heap.size:=by simp;omega
 have RR:=hid (res_none R1.out h1 h2 h3)
 go_wp2
 have F:=H2.out.swap.fill hl2 (.int .i64 ((k : Nat) : Int)) (.int .i64 0) (.int .i64 0) (.slice none 0 0) (.slice none 0 0) (.int .i64 0) (.int .i64 0) (.int .i64 0) (.int .u64 0) (.bool false)
 exact bodyPost_ret (v:=.agg #[.int .i64 ((k : Nat) : Int),.int .i64 0,.int .i64 0,.slice none 0 0,.slice none 0 0,.int .i64 0,.int .i64 0,.int .i64 0,.int .u64 0,.bool false]) (by simp [results,Tryz.results112,go_sem,z0,z1,z2,z3,z4,z5,z6,z7,z8,z9]) rfl ⟨⟨(k : Int),0,0,none,0,0,none,0,0,0,0,0,0,false⟩,[],[],st1,rfl,F.rdr,F.onl,⟨TxAt.nil,by show 0 < 18446744073709551616;decide⟩,⟨⟨Nat.zero_le _,Nat.zero_le _⟩,NewP.none _,NewP.none _⟩,RR.out⟩
theorem kTake_any (g : Nat) (st : St) (w : World) (h : RS g st w) (hU : Tabs w) :
  Calls Tryz.prog 83 #[.pointer (some ⟨g,0,none⟩)] w (GotC (RS g) g st w):=by
 have hlt:=h.lt
 have H0:=hid ((RdO.start h hlt).more zeroV 33)
 obtain ⟨l0,ok0,hrd0⟩:=h.rd
 have HT : Hid (∀ W,Only g w W→Tabs W):=fun W ho=>hU.only hrd0 ho
 clear h hrd0 hU
 go_enter Tryz.func83,Tryz.ntmps83
 go_upto_region 2 with (go_at_call 112;((with_reducible refine (kTakeFields_any g _ _ H0.out.rdr (HT.out _ H0.out.onl)).mono ?_);rintro e w1 ⟨x,rs,ws,st1,rfl,hr1,ho1,hX1,⟨hn1,na1,nb1⟩,hR1⟩;have H1:=hid (H0.out.only hr1 ho1);have R1:=hid hR1;have T1:=hid hX1;have N1 : Hid (NewP w.heap.size x.a∧NewP w.heap.size x.b):=⟨na1.mono H0.out.size,nb1.mono H0.out.size⟩;clear na1 nb1;clear hr1 ho1 hX1 hR1))
 have H2:=hid (H1.out.more (cmV x) 33)
 have T2:=hid (T1.out.later (one_box w1 (cmV x) 33))
 have hG : w.heap.size < w1.heap.size:=(H1.out.get 0 _ _ _ rfl).lt
 clear H0 H1 T1
 generalize w1.alloc (.cells (cmV x) 33) = W2 at *
 generalize w1.heap.size = G at *
 have hgw : g≠w.heap.size:=by omega
 have cF : ∀ W,W = W2→Calls Tryz.prog 50 #[.agg (cmV x)] W (Says W (formCm (cmT x rs ws))):=fun W e=>by subst e;exact kFormed_any x rs ws _ T2.out (by omega) (by omega) (HT.out _ H2.out.onl)
 obtain ⟨x0,x1,x2,x3,x4,x5,x6,x7,x8,x9⟩:=(H2.out.get 0 _ _ _ rfl).ten;obtain ⟨z0,z1,z2,z3,z4,z5,z6,z7,z8,z9⟩:=(H2.out.get 1 _ _ _ rfl).ten;have f0:=(H2.out.get 1 _ _ _ rfl).frozen 0;have f1:=(H2.out.get 1 _ _ _ rfl).frozen 1;have f2:=(H2.out.get 1 _ _ _ rfl).frozen 2;have f3:=(H2.out.get 1 _ _ _ rfl).frozen 3;have f4:=(H2.out.get 1 _ _ _ rfl).frozen 4;have f5:=(H2.out.get 1 _ _ _ rfl).frozen 5;have f6:=(H2.out.get 1 _ _ _ rfl).frozen 6;have f7:=(H2.out.get 1 _ _ _ rfl).frozen 7;have f8:=(H2.out.get 1 _ _ _ rfl).frozen 8;have f9:=(H2.out.get 1 _ _ _ rfl).frozen 9
 cases hf : formCm (cmT x rs ws)
 ·rw [hf] at cF
  have Q:=hid (R1.out.guard_bad (c:=formCm) hf (cmT zeroM [] []))
  clear hf R1
  go_wp2_with (first | (go_at_call 50;((with_reducible refine (cF _ rfl).mono ?_);rintro e w7 ⟨rfl,hb7⟩;have H7:=hid (H2.out.below hb7))) | (go_at_call 113;((with_reducible refine (kfail_any g _ _ H7.out.rdr).mono ?_);rintro e w8 ⟨rfl,hr8,ho8⟩;have H8:=hid (H7.out.only hr8 ho8);(clear x0 x1 x2 x3 x4 x5 x6 x7 x8 x9 z0 z1 z2 z3 z4 z5 z6 z7 z8 z9 f0 f1 f2 f3 f4 f5 f6 f7 f8 f9);obtain ⟨x0,x1,x2,x3,x4,x5,x6,x7,x8,x9⟩:=(H8.out.get 0 _ _ _ rfl).ten;obtain ⟨z0,z1,z2,z3,z4,z5,z6,z7,z8,z9⟩:=(H8.out.get 1 _ _ _ rfl).ten;have f0:=(H8.out.get 1 _ _ _ rfl).frozen 0;have f1:=(H8.out.get 1 _ _ _ rfl).frozen 1;have f2:=(H8.out.get 1 _ _ _ rfl).frozen 2;have f3:=(H8.out.get 1 _ _ _ rfl).frozen 3;have f4:=(H8.out.get 1 _ _ _ rfl).frozen 4;have f5:=(H8.out.get 1 _ _ _ rfl).frozen 5;have f6:=(H8.out.get 1 _ _ _ rfl).frozen 6;have f7:=(H8.out.get 1 _ _ _ rfl).frozen 7;have f8:=(H8.out.get 1 _ _ _ rfl).frozen 8;have f9:=(H8.out.get 1 _ _ _ rfl).frozen 9)) | (go_at_call 85;((with_reducible refine (okS_any g none _ H8.out.rdr).mono ?_);rintro e w' ⟨rfl,rfl⟩)))
  have F:=H8.out.tail.fill (fun _ h=>by cases h) (.int .i64 0) (.int .i64 0) (.int .i64 0) (.slice none 0 0) (.slice none 0 0) (.int .i64 0) (.int .i64 0) (.int .i64 0) (.int .u64 0) (.bool false)
  exact bodyPost_ret (v:=.agg zeroV) (by simp [results,Tryz.results83,go_sem,z0,z1,z2,z3,z4,z5,z6,z7,z8,z9]) rfl ⟨zeroM,[],[],none,rfl,F.rdr,F.onl,CmAt.zero,⟨⟨Nat.zero_le _,Nat.zero_le _⟩,NewP.none _,NewP.none _⟩,Q.out,fun _=>rfl⟩
 rw [hf] at cF
 cases st1 with
 | none =>
  have Q:=hid (R1.out.guard_no (c:=formCm) (cmT zeroM [] []))
  clear hf R1
  go_wp2_with (first | (go_at_call 50;((with_reducible refine (cF _ rfl).mono ?_);rintro e w7 ⟨rfl,hb7⟩;have H7:=hid (H2.out.below hb7);(clear x0 x1 x2 x3 x4 x5 x6 x7 x8 x9 z0 z1 z2 z3 z4 z5 z6 z7 z8 z9 f0 f1 f2 f3 f4 f5 f6 f7 f8 f9);obtain ⟨x0,x1,x2,x3,x4,x5,x6,x7,x8,x9⟩:=(H7.out.get 0 _ _ _ rfl).ten;obtain ⟨z0,z1,z2,z3,z4,z5,z6,z7,z8,z9⟩:=(H7.out.get 1 _ _ _ rfl).ten;have f0:=(H7.out.get 1 _ _ _ rfl).frozen 0;have f1:=(H7.out.get 1 _ _ _ rfl).frozen 1;have f2:=(H7.out.get 1 _ _ _ rfl).frozen 2;have f3:=(H7.out.get 1 _ _ _ rfl).frozen 3;have f4:=(H7.out.get 1 _ _ _ rfl).frozen 4;have f5:=(H7.out.get 1 _ _ _ rfl).frozen 5;have f6:=(H7.out.get 1 _ _ _ rfl).frozen 6;have f7:=(H7.out.get 1 _ _ _ rfl).frozen 7;have f8:=(H7.out.get 1 _ _ _ rfl).frozen 8;have f9:=(H7.out.get 1 _ _ _ rfl).frozen 9)) | (go_at_call 85;((with_reducible refine (okS_any g none _ H7.out.rdr).mono ?_);rintro e w' ⟨rfl,rfl⟩)))
  have F:=H7.out.tail.fill (fun _ h=>by cases h) (.int .i64 0) (.int .i64 0) (.int .i64 0) (.slice none 0 0) (.slice none 0 0) (.int .i64 0) (.int .i64 0) (.int .i64 0) (.int .u64 0) (.bool false)
  exact bodyPost_ret (v:=.agg zeroV) (by simp [results,Tryz.results83,go_sem,z0,z1,z2,z3,z4,z5,z6,z7,z8,z9]) rfl ⟨zeroM,[],[],none,rfl,F.rdr,F.onl,CmAt.zero,⟨⟨Nat.zero_le _,Nat.zero_le _⟩,NewP.none _,NewP.none _⟩,Q.out,fun _=>rfl⟩
 | some r =>
  have Q:=hid (R1.out.guard_yes (c:=formCm) hf)
  clear hf R1
  have hl2 : ∀ z ∈ ([(G,cmV x,33)] : List (Nat×Array Value×TypeId)),z.1≠w.heap.size:=by simp;omega
  go_wp2_with (first | (go_at_call 50;((with_reducible refine (cF _ rfl).mono ?_);rintro e w7 ⟨rfl,hb7⟩;have H7:=hid (H2.out.below hb7);(clear x0 x1 x2 x3 x4 x5 x6 x7 x8 x9 z0 z1 z2 z3 z4 z5 z6 z7 z8 z9 f0 f1 f2 f3 f4 f5 f6 f7 f8 f9);obtain ⟨x0,x1,x2,x3,x4,x5,x6,x7,x8,x9⟩:=(H7.out.get 0 _ _ _ rfl).ten;obtain ⟨z0,z1,z2,z3,z4,z5,z6,z7,z8,z9⟩:=(H7.out.get 1 _ _ _ rfl).ten;have f0:=(H7.out.get 1 _ _ _ rfl).frozen 0;have f1:=(H7.out.get 1 _ _ _ rfl).frozen 1;have f2:=(H7.out.get 1 _ _ _ rfl).frozen 2;have f3:=(H7.out.get 1 _ _ _ rfl).frozen 3;have f4:=(H7.out.get 1 _ _ _ rfl).frozen 4;have f5:=(H7.out.get 1 _ _ _ rfl).frozen 5;have f6:=(H7.out.get 1 _ _ _ rfl).frozen 6;have f7:=(H7.out.get 1 _ _ _ rfl).frozen 7;have f8:=(H7.out.get 1 _ _ _ rfl).frozen 8;have f9:=(H7.out.get 1 _ _ _ rfl).frozen 9)) | (go_at_call 85;((with_reducible refine (okS_any g (some r) _ H7.out.rdr).mono ?_);rintro e w' ⟨rfl,rfl⟩)))
  have F:=H7.out.swap.fill hl2 (.int .i64 x.k) (.int .i64 x.s) (.int .i64 x.q) (.slice x.a x.n x.c) (.slice x.b x.m x.d) (.int .i64 x.i) (.int .i64 x.j) (.int .i64 x.g) (.int .u64 ((x.st : Nat) : Int)) (.bool x.y)
  have TB : TxB w7 w.heap.size zeroV 33 x.a x.n x.b x.m rs ws:=⟨⟨H7.out.get 1 _ _ _ rfl,noStr_cm _ _ _ _ _ _ _ _ _ _ (by simp) (by simp) (by simp) (by simp) (by simp) (by simp) (by simp) (by simp) (by simp) (by simp) ⟩,(T2.out.later hb7).tx⟩
  have FT:=TB.fill (.int .i64 x.k) (.int .i64 x.s) (.int .i64 x.q) (.slice x.a x.n x.c) (.slice x.b x.m x.d) (.int .i64 x.i) (.int .i64 x.j) (.int .i64 x.g) (.int .u64 ((x.st : Nat) : Int)) (.bool x.y) (by simp) (by simp) (by simp) (by simp) (by simp) (by simp) (by simp) (by simp) (by simp) (by simp) 
  exact bodyPost_ret (v:=.agg (cmV x)) (by simp [results,Tryz.results83,go_sem,z0,z1,z2,z3,z4,z5,z6,z7,z8,z9]) rfl ⟨x,rs,ws,some r,rfl,F.rdr,F.onl,⟨FT,T2.out.st⟩,⟨hn1,N1.out⟩,Q.out,fun e=>by cases e⟩
end Go.Proofs.YtcfmifongbapkaaGreatDoor
