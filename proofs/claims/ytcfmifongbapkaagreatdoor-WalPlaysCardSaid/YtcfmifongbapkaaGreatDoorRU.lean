/- Words for a reader that is taken from while the call makes boxes and rows of its own. No condition. Append of bytes onto a row of the call's own at a step of a region that draws its order. Contracts of wal.putSlot, putData, Write and framed. Conditions: the record's lists lie in memory, and are no longer than a million; the tables of utf8 lie there. -/
import Derived.Test.YtcfmifongbapkaaGreatDoorRF
import Derived.Test.YtcfmifongbapkaaGreatDoorRT
import Derived.Test.YtcfmifongbapkaaGreatDoorRA
import Derived.Test.YtcfmifongbapkaaGreatDoorRR
import Derived.Test.YtcfmifongbapkaaGreatDoorRS
import Derived.Deep.RegionHeld3
namespace Go.Proofs.YtcfmifongbapkaaGreatDoor
set_option maxRecDepth 100000
set_option maxHeartbeats 8000000
open Go.RowKit
open Go.Lib (hid)
/-- The reader, boxes and rows of the call's own; nothing else was changed. -/
def RdO (rd : World→Prop) (g : Nat) (w W : World) (bs : List (Nat×Array Value×TypeId)) (Rs : List Row1) : Prop :=
 (rd W∧Only g w W∧g < w.heap.size)∧(∀ b ∈ bs,w.heap.size≤b.1∧BoxC W b.1 b.2.1 b.2.2)∧(∀ r ∈ Rs,W.ownsRow w.heap.size r.e r.k r.v r.n r.xs∧∀ b ∈ bs,r.v.ownBlock≠some b.1)∧Rs.Pairwise Apart
theorem below_only {g : Nat} {W W' : World} (hb : Below W.heap.size W W') : Only g W W':=⟨hb.os,hb.tape,hb.output,hb.size,fun _ h _=>hb.block _ h⟩
section
variable {rd rd' : World→Prop} {g : Nat} {w W W' : World} {bs : List (Nat×Array Value×TypeId)} {Rs : List Row1} {r : Row1} {G : Nat} {cs : Array Value} {t : TypeId}
theorem RdO.start (h : rd w) (hg : g < w.heap.size) : RdO rd g w w [] []:=⟨⟨h,Only.refl _ _,hg⟩,(fun b hb=>by cases hb),(fun r hr=>by cases hr),.nil⟩
theorem RdO.rdr (h : RdO rd g w W bs Rs) : rd W:=h.1.1
theorem RdO.onl (h : RdO rd g w W bs Rs) : Only g w W:=h.1.2.1
theorem RdO.gt (h : RdO rd g w W bs Rs) : g < w.heap.size:=h.1.2.2
theorem RdO.size (h : RdO rd g w W bs Rs) : w.heap.size≤W.heap.size:=h.1.2.1.size
theorem RdO.get (h : RdO rd g w W bs Rs) (i : Nat) (G : Nat) (cs : Array Value) (t : TypeId) (hi : bs[i]? = some (G,cs,t)) : BoxC W G cs t:=(h.2.1 _ (List.mem_of_getElem? hi)).2
theorem RdO.ge (h : RdO rd g w W bs Rs) (i : Nat) (G : Nat) (cs : Array Value) (t : TypeId) (hi : bs[i]? = some (G,cs,t)) : w.heap.size≤G:=(h.2.1 _ (List.mem_of_getElem? hi)).1
theorem RdO.own (h : RdO rd g w W bs Rs) (i : Nat) (r : Row1) (hi : Rs[i]? = some r) : W.ownsRow w.heap.size r.e r.k r.v r.n r.xs:=(h.2.2.1 r (List.mem_of_getElem? hi)).1
theorem RdO.head (h : RdO rd g w W bs (r :: Rs)) : W.ownsRow w.heap.size r.e r.k r.v r.n r.xs:=(h.2.2.1 r (List.mem_cons_self ..)).1
/-- Something is done to the reader alone. -/
theorem RdO.only (h : RdO rd g w W bs Rs) (hr : rd' W') (ho : Only g W W') : RdO rd' g w W' bs Rs:=by
 refine ⟨⟨hr,h.onl.trans ho,h.gt⟩,fun b hb=>⟨(h.2.1 b hb).1,(h.2.1 b hb).2.only ho (by have:=(h.2.1 b hb).1;have:=h.gt;omega)⟩,fun r hr=>⟨ownk_grown (h.2.2.1 r hr).1 ho (fun j hj e=>?_),(h.2.2.1 r hr).2⟩,h.2.2.2⟩
 injection e with e
 have h1:=((h.2.2.1 r hr).1.lt j hj).1
 have h2:=h.gt
 omega
theorem RdO.below [Keep g rd] (h : RdO rd g w W bs Rs) (hb : Below W.heap.size W W') : RdO rd g w W' bs Rs :=
 h.only (Keep.keep (g:=g) W W' h.rdr fun b hb'=>hb.block b (by have h1:=h.gt;have h2:=h.size;omega)) (below_only hb)
theorem RdO.drew [Keep g rd] (h : RdO rd g w W bs Rs) : RdO rd g w W.drew bs Rs:=h.below (below_drewN 1 (Below.refl _ _))
theorem RdO.alloc [Keep g rd] (h : RdO rd g w W bs Rs) (o : Obj) : RdO rd g w (W.alloc o) bs Rs:=h.below ((Below.refl _ _).alloc (Nat.le_refl _) _)
/-- A box is made. -/
theorem RdO.more [Keep g rd] (h : RdO rd g w W bs Rs) (cs : Array Value) (t : TypeId) : RdO rd g w (W.alloc (.cells cs t)) ((W.heap.size,cs,t) :: bs) Rs:=by
 have h':=h.alloc (.cells cs t)
 refine ⟨h'.1,fun b hb=>?_,fun r hr=>⟨(h'.2.2.1 r hr).1,fun b hb hv=>?_⟩,h'.2.2.2⟩
 ·rcases List.mem_cons.1 hb with rfl | hb
  ·exact ⟨h.size,BoxC.new W cs t⟩
  ·exact h'.2.1 b hb
 ·rcases List.mem_cons.1 hb with rfl | hb
  ·have:=((h.2.2.1 r hr).1.lt _ hv).2;simp at this
  ·exact (h.2.2.1 r hr).2 b hb hv
/-- A cell is written, elsewhere than the reader. -/
theorem RdO.out [Keep g rd] (h : RdO rd g w W bs Rs) (hG : w.heap.size≤G) (i : Nat) (u : Value) : rd (W.setCell ⟨G,i,none⟩ u)∧Only g w (W.setCell ⟨G,i,none⟩ u):=by
 have hg:=h.gt
 have hb : ∀ b,b < w.heap.size→(W.setCell ⟨G,i,none⟩ u).heap[b]? = W.heap[b]?:=fun b hb=>Below.heap_setCell _ _ _ _ (by show b≠G;omega)
 exact ⟨Keep.keep (g:=g) W _ h.rdr fun b hb'=>hb b (by omega),⟨h.onl.os,h.onl.tape,h.onl.output,by have:=h.onl.size;simpa [World.setCell] using this,fun b hb' hne=>(hb b hb').trans (h.onl.block b hb' hne)⟩⟩
/-- A box is written to. -/
theorem RdO.set [Keep g rd] (h : RdO rd g w W ((G,cs,t) :: bs) Rs) (hl : ∀ b ∈ bs,b.1≠G) (i : Nat) (u : Value) : RdO rd g w (W.setCell ⟨G,i,none⟩ u) ((G,cs.setIfInBounds i u,t) :: bs) Rs:=by
 have hG:=h.2.1 (G,cs,t) (List.mem_cons_self ..)
 obtain ⟨h1,h2⟩:=h.out hG.1 i u
 refine ⟨⟨h1,h2,h.gt⟩,fun b hb=>?_,fun s hs=>⟨own_keep (h.2.2.1 s hs).1 fun j hj=>Below.heap_setCell _ _ _ _ ?_,fun b hb=>?_⟩,h.2.2.2⟩
 ·rcases List.mem_cons.1 hb with rfl | hb
  ·exact ⟨hG.1,hG.2.set i u⟩
  ·exact ⟨(h.2.1 b (List.mem_cons_of_mem _ hb)).1,(h.2.1 b (List.mem_cons_of_mem _ hb)).2.far i u (hl b hb)⟩
 ·show j≠G
  rintro rfl
  exact (h.2.2.1 s hs).2 (j,cs,t) (List.mem_cons_self ..) hj
 ·rcases List.mem_cons.1 hb with rfl | hb
  ·exact (h.2.2.1 s hs).2 (G,cs,t) (List.mem_cons_self ..)
  ·exact (h.2.2.1 s hs).2 b (List.mem_cons_of_mem _ hb)
theorem RdO.tail {b : Nat×Array Value×TypeId} (h : RdO rd g w W (b :: bs) Rs) : RdO rd g w W bs Rs:=⟨h.1,fun c hc=>h.2.1 c (List.mem_cons_of_mem _ hc),fun r hr=>⟨(h.2.2.1 r hr).1,fun c hc=>(h.2.2.1 r hr).2 c (List.mem_cons_of_mem _ hc)⟩,h.2.2.2⟩
/-- Two boxes change places. -/
theorem RdO.swap {a b : Nat×Array Value×TypeId} (h : RdO rd g w W (a :: b :: bs) Rs) : RdO rd g w W (b :: a :: bs) Rs:=by
 have hm : ∀ c,c ∈ b :: a :: bs→c ∈ a :: b :: bs:=fun c hc=>by
  simp only [List.mem_cons] at hc ⊢
  rcases hc with h | h | h
  ·exact .inr (.inl h)
  ·exact .inl h
  ·exact .inr (.inr h)
 exact ⟨h.1,fun c hc=>h.2.1 c (hm c hc),fun r hr=>⟨(h.2.2.1 r hr).1,fun c hc=>(h.2.2.1 r hr).2 c (hm c hc)⟩,h.2.2.2⟩
theorem RdO.none (h : RdO rd g w W bs Rs) (e : TypeId) (k : Nat) : RdO rd g w W bs (⟨e,k,.slice Option.none 0 0,0,[]⟩ :: Rs):=by
 refine ⟨h.1,h.2.1,fun r hr=>?_,.cons (fun s _ j hj=>by cases hj) h.2.2.2⟩
 rcases List.mem_cons.1 hr with rfl | hr
 ·exact ⟨World.ownsRow_nil _ _ _ _,fun _ _ hb=>by cases hb⟩
 ·exact h.2.2.1 r hr
/-- The first row grows. -/
theorem RdO.grow [Keep g rd] {v' : Value} {n' : Nat} {xs' : List Value} (h : RdO rd g w W bs (r :: Rs)) (ho : W'.ownsRow w.heap.size r.e r.k v' n' xs') (hg : W.grownBy W' r.v.ownBlock) (hat : v'.ownBlock = r.v.ownBlock∨v'.ownBlock = some W.heap.size) : RdO rd g w W' bs (⟨r.e,r.k,v',n',xs'⟩ :: Rs):=by
 have hh:=(h.2.2.1 r (List.mem_cons_self ..))
 obtain ⟨hp1,hp2⟩:=List.pairwise_cons.1 h.2.2.2
 have hgt:=h.gt
 have hsz:=h.size
 have hblk : ∀ b,b < w.heap.size→W'.heap[b]? = W.heap[b]?:=fun b hb=>hg.block b (by omega) (fun e=>by have:=(hh.1.lt b e.symm).1;omega)
 refine ⟨⟨Keep.keep (g:=g) W W' h.rdr fun b hb=>hblk b (by omega),⟨hg.os.trans h.onl.os,hg.tape.trans h.onl.tape,hg.output.trans h.onl.output,Nat.le_trans h.onl.size hg.size,fun b hb hne=>(hblk b hb).trans (h.onl.block b hb hne)⟩,h.gt⟩,fun b hb=>⟨(h.2.1 b hb).1,(h.2.1 b hb).2.grown hg (fun e=>hh.2 b hb e.symm)⟩,fun s hs=>?_,.cons (fun s hs j hj hj'=>?_) hp2⟩
 ·rcases List.mem_cons.1 hs with rfl | hs
  ·refine ⟨ho,fun b hb hv=>?_⟩
   rcases hat with e1 | e1
   ·exact hh.2 b hb (e1 ▸ hv)
   ·rw [e1] at hv;injection hv with hv
    have:=((h.2.1 b hb).2).lt
    omega
  ·have hS:=h.2.2.1 s (List.mem_cons_of_mem _ hs)
   exact ⟨ownk_grown hS.1 hg (fun j hj e=>hp1 s hs j e hj),hS.2⟩
 ·rcases hat with e1 | e1
  ·exact hp1 s hs j (e1 ▸ hj) hj'
  ·rw [show v'.ownBlock = some W.heap.size from e1] at hj
   injection hj with hj
   have:=((h.2.2.1 s (List.mem_cons_of_mem _ hs)).1.lt j hj').2
   omega
/-- A row that a call has made. -/
theorem RdO.add {e : TypeId} {k : Nat} {v : Value} {n : Nat} {xs : List Value} (h : RdO rd g w W bs Rs) (hr : rd' W') (ho : Only g W W') (hrow : W'.ownsRow W.heap.size e k v n xs) : RdO rd' g w W' bs (⟨e,k,v,n,xs⟩ :: Rs):=by
 have h':=h.only hr ho
 have hsz:=h.size
 refine ⟨h'.1,h'.2.1,fun s hs=>?_,.cons (fun s hs j hj hj'=>?_) h'.2.2.2⟩
 ·rcases List.mem_cons.1 hs with rfl | hs
  ·refine ⟨?_,fun b hb hv=>?_⟩
   ·refine ⟨hrow.1,?_⟩
    rcases hrow.2 with h0 | ⟨b,cap,cur,h1,h2,h3⟩
    ·exact .inl h0
    ·exact .inr ⟨b,cap,cur,h1,Nat.le_trans hsz h2,h3⟩
   ·have h1:=(hrow.lt _ hv).1
    have h2:=((h.2.1 b hb).2).lt
    omega
  ·exact h'.2.2.1 s hs
 ·have h1:=(hrow.lt j hj).1
  have h2:=((h.2.2.1 s hs).1.lt j hj').2
  omega
end
section
variable {P : Program} (w : World)
/-- Append onto a row of the call's own, at a step of a region that draws its order. -/
theorem step_append_rowk {ops : Array Oper} {o : Oper} {a' : Act} {K : Act→World→Prop} {Q : Exit→Act→World→Prop} {E : Prop} (hgd : o.guard = none) (s x : Operand) (t : TypeId)
  (ho : o.op = .call { callee:=.builtin .append,args:=#[s,x],argTypes:=#[t,t] })
  (base : Nat) (e : TypeId) (i : TypeInfo) (z : Value) (k bytes : Nat) (ht : P.underlying t = some (.slice e)) (hi : P.info? e = some i) (hz : i.zero = some z)
  (hsize : i.size = k) (hby : i.bytes = bytes) (hzs : z.cells.size = k) (hk : 0 < k) (v : Value) (n : Nat) (xs : List Value) (hs : a'.eval s = v) (hown : w.ownsRow base e k v n xs)
  (B : Nat) (a : Option Addr) (m c : Nat) (news : List Value) (hx : a'.eval x = .slice a m c) (hr : RowAt w B a m k news) (h1 : ∀ u ∈ news,u.oneCell' = true)
  (h63 : n + m≤maxLen) (hlen : (n + m) * bytes≤140737488355328) (hbase : base≤w.heap.size)
  (h : ∀ v' w',w'.ownsRow base e k v' (n + m) (xs ++ news)→w.grownBy w' v.ownBlock→(v'.ownBlock = v.ownBlock∨v'.ownBlock = some w.heap.size)→K (a'.put o.dst v') w') :
  if Region.wanted o (yielded ops a'.tmps) = true then Oper.wp P o a' w K Q else E:=by
 have hw : Region.wanted o (yielded ops a'.tmps) = true:=by simp [Region.wanted,hgd]
 rw [if_pos hw]
 obtain ⟨v',w',hrun,h2,h3,h4⟩:=run_append_rowk (P:=P) w base t o.type e i z k bytes ht hi hz hsize hby hzs hk v n xs hown B a m c news hr h1 h63 hlen hbase
 unfold Oper.wp execOp
 simp only [ho,resolve,invoke,builtin,Sem.run_bind,Sem.run_pure,Result.andThen_ok,List.map_toArray,List.map_cons,List.map_nil,hs,hx,hrun]
 exact h v' w' h2 h3 h4
end
set_option linter.unusedVariables false
/-- Append of bytes at a step of a region that draws its order. -/
theorem step_append_bytes {P : Program} (w : World) {ops : Array Oper} {o : Oper} {a' : Act} {K : Act→World→Prop} {Q : Exit→Act→World→Prop} {E : Prop} (hgd : o.guard = none) (s x : Operand) (t : TypeId)
  (ho : o.op = .call { callee:=.builtin .append,args:=#[s,x],argTypes:=#[t,t] })
  (base : Nat) (e : TypeId) (i : TypeInfo) (ht : P.underlying t = some (.slice e)) (hi : P.info? e = some i) (hz : i.zero = some (.int .u8 0))
  (hsize : i.size = 1) (hby : i.bytes = 1) (v : Value) (n : Nat) (l : List UInt8) (hs : a'.eval s = v) (hown : w.ownsRow base e 1 v n (bcells l))
  (B : Nat) (a : Option Addr) (m : Nat) (news : List UInt8) (c : Nat) (hx : a'.eval x = .slice a m c) (hr : BAt w B a m news)
  (hlen : n + m≤140737488355328) (hbase : base≤w.heap.size)
  (h : ∀ v' w',w'.ownsRow base e 1 v' (n + m) (bcells (l ++ news))→w.grownBy w' v.ownBlock→K (a'.put o.dst v') w') :
  if Region.wanted o (yielded ops a'.tmps) = true then Oper.wp P o a' w K Q else E:=by
 have hw : Region.wanted o (yielded ops a'.tmps) = true:=by simp [Region.wanted,hgd]
 rw [if_pos hw]
 obtain ⟨v',w',hrun,h2,h3⟩:=run_append_bytes (P:=P) w base t o.type e i ht hi hz hsize hby v n l hown B a m news c hr hlen hbase
 unfold Oper.wp execOp
 simp only [ho,resolve,invoke,builtin,Sem.run_bind,Sem.run_pure,Result.andThen_ok,List.map_toArray,List.map_cons,List.map_nil,hs,hx,hrun]
 exact h v' w' h2 h3
set_option linter.unusedSimpArgs false
theorem BoxC.all {w : World} {g : Nat} {x : RcM} (h : BoxC w g (rcV x) 36) : w.cell? ⟨g,0,none⟩ = some (.int .i64 x.k)∧w.cell? ⟨g,1,none⟩ = some (.int .u32 ((x.br : Nat) : Int))∧w.cell? ⟨g,2,none⟩ = some (.int .i64 x.bn)∧w.cell? ⟨g,3,none⟩ = some (.int .i64 x.sl)∧w.cell? ⟨g,4,none⟩ = some (.int .i64 x.cm.k)∧w.cell? ⟨g,5,none⟩ = some (.int .i64 x.cm.s)∧w.cell? ⟨g,6,none⟩ = some (.int .i64 x.cm.q)∧w.cell? ⟨g,7,none⟩ = some (.slice x.cm.a x.cm.n x.cm.c)∧w.cell? ⟨g,8,none⟩ = some (.slice x.cm.b x.cm.m x.cm.d)∧w.cell? ⟨g,9,none⟩ = some (.int .i64 x.cm.i)∧w.cell? ⟨g,10,none⟩ = some (.int .i64 x.cm.j)∧w.cell? ⟨g,11,none⟩ = some (.int .i64 x.cm.g)∧w.cell? ⟨g,12,none⟩ = some (.int .u64 ((x.cm.st : Nat) : Int))∧w.cell? ⟨g,13,none⟩ = some (.bool x.cm.y)∧w.cell? ⟨g,14,none⟩ = some (.slice x.da x.dn x.dc)∧(Go.Proofs.YtcfmifongbapkaaGreatDoor.ldK (.pointer (some ⟨g,0,none⟩))).run Tryz.prog w = .ok (.agg (rcV x)) w :=
 ⟨h.cell 0 _ rfl,h.cell 1 _ rfl,h.cell 2 _ rfl,h.cell 3 _ rfl,h.cell 4 _ rfl,h.cell 5 _ rfl,h.cell 6 _ rfl,h.cell 7 _ rfl,h.cell 8 _ rfl,h.cell 9 _ rfl,h.cell 10 _ rfl,h.cell 11 _ rfl,h.cell 12 _ rfl,h.cell 13 _ rfl,h.cell 14 _ rfl,h.ldK⟩
theorem wSlot_any (pa : Option Addr) (pk pc : Nat) (l : List UInt8) (x : RcM) (w : World) (hl : BAt w w.heap.size pa pk l) (hpk : pk≤1099000000000) (h0 : 0≤x.sl) (h1 : x.sl≤1000000) :
  Calls Tryz.prog 37 #[.slice pa pk pc,.agg (rcV x)] w (NewB w (l ++ putB x.sl.toNat 4)):=by
 have H0:=hid ((Boxs.start w).more (rcV x) 36)
 have cP : ∀ W,Below w.heap.size w W→Calls Tryz.prog 34 #[.slice pa pk pc,.int .u64 x.sl,.int .i64 4] W (NewB W (l ++ putB x.sl.toNat 4)):=fun W hW=>putM_any pa pk pc x.sl 4 l W ((hl.below hW (Nat.le_refl _)).more hW.size) (by omega) h0 (by omega)
 have x2:=(H0.out.get 0 _ _ _ rfl).cell 3 _ rfl
 clear hl
 go_enter Tryz.func37,Tryz.ntmps37
 go_wp2_with (go_at_call 34;((with_reducible refine (cP _ H0.out.bel).mono ?_);intro e w1 h1;have N1:=hid (NewB.on h1 H0.out.bel);obtain ⟨a1,n1,c1,rfl,ho1,hb1⟩:=h1))
 go_ret
 exact N1.out
theorem wData_any (pa : Option Addr) (pk pc : Nat) (l : List UInt8) (x : RcM) (L : RcL) (w : World) (hl : BAt w w.heap.size pa pk l) (hpk : pk≤1099000000000) (h : RcAt w x L) (hd : x.dn≤59900) :
  Calls Tryz.prog 38 #[.slice pa pk pc,.agg (rcV x)] w (NewB w (l ++ dataB L.dl)):=by
 obtain ⟨i0,hi,hz0,hz1,hz2⟩:=info_parts Tryz.info5
 have H0:=hid ((Boxs.start w).more (rcV x) 36)
 have hdl:=h.da.len
 have cP : ∀ W,Below w.heap.size w W→Calls Tryz.prog 34 #[.slice pa pk pc,.int .u64 ((x.dn : Nat) : Int),.int .i64 4] W (NewB W (l ++ putB x.dn 4)):=fun W hW=>put_any pa pk pc x.dn 4 l W ((hl.below hW (Nat.le_refl _)).more hW.size) (by omega) (by omega)
 have e64 : IntKind.u64.wrap ((x.dn : Nat) : Int) = ((x.dn : Nat) : Int):=by rw [IntKind.wrap_u64];omega
 have cP2 : ∀ W,Below w.heap.size w W→Calls Tryz.prog 34 #[.slice pa pk pc,.int .u64 (IntKind.u64.wrap ((x.dn : Nat) : Int)),.int .i64 4] W (NewB W (l ++ putB x.dn 4)):=fun W hW=>by rw [e64];exact cP W hW
 have HD : Hid (∀ W,Below w.heap.size w W→BAt W w.heap.size x.da x.dn L.dl):=fun W hW=>h.da.below hW (Nat.le_refl _)
 have HM : Hid (∀ z : Nat,(l ++ putB x.dn 4).length = z→z≤1099000000004):=fun z hz=>by have:=hl.len;rw [List.length_append,putB_len] at hz;omega
 have e : l ++ dataB L.dl = (l ++ putB x.dn 4) ++ L.dl:=by unfold dataB;rw [hdl,List.append_assoc]
 rw [e]
 clear e e64 hdl h hl
 go_enter Tryz.func38,Tryz.ntmps38
 go_upto_region 1 with (fail)
 have X0:=hid H0.out.drew
 have s0 : (w.alloc (.cells (rcV x) 36)).drew.cell? ⟨w.heap.size,14,none⟩ = some (.slice x.da x.dn x.dc):=(X0.out.get 0 _ _ _ rfl).cell 14 _ rfl
 go_region_held3 (fun W=>W.cell? ⟨w.heap.size,14,none⟩ = some (.slice x.da x.dn x.dc)) (first | (with_reducible exact s0) | (with_reducible exact s1) | (with_reducible exact s2))
  (first | (go_at_call 34;(first | (with_reducible refine (cP _ X0.out.bel).mono ?_) | (with_reducible refine (cP2 _ X0.out.bel).mono ?_));(rintro e v1 ⟨a1,n1,c1,rfl,ho1,hb1⟩;have X1:=hid (X0.out.below hb1);have G1 : Hid (some w.heap.size≠(Value.slice a1 n1 c1).ownBlock):=(fun e=>by have:=(ho1.lt _ e.symm).1;simp at this;omega);have s1 : v1.cell? ⟨w.heap.size,14,none⟩ = some (.slice x.da x.dn x.dc):=(X1.out.get 0 _ _ _ rfl).cell 14 _ rfl;have P1:=hid (PutIn.call X0.out.bel ho1 hb1);have hn1:=HM.out _ (own_len ho1);have Z1 : Hid (w.heap.size≤v1.heap.size):=X1.out.bel.size)) | (refine step_append_bytes _ rfl _ _ 34 rfl w.heap.size 5 i0 Tryz.underlying34 hi hz0 hz1 hz2 _ n1 (l ++ putB x.dn 4) rfl P1.out.own w.heap.size x.da x.dn L.dl x.dc rfl (HD.out _ X1.out.bel) (by omega) Z1.out ?_;intro v2 w2 ho2 hg2;have s2 : w2.cell? ⟨w.heap.size,14,none⟩ = some (.slice x.da x.dn x.dc):=((X1.out.get 0 _ _ _ rfl).grown hg2 G1.out).cell 14 _ rfl;have R2:=hid (P1.out.next0 ho2 hg2)))
 obtain ⟨a2,c2,rfl⟩:=R2.out.form
 go_wp2
 go_ret
 exact R2.out.out
/-- What Write answers where a record isn't formed. -/
def NoForm (w : World) (e : Ending) (w' : World) : Prop:=e = .returned (.tuple #[.slice none 0 0,.int .i64 2])∧Below w.heap.size w w'
theorem wWrite_no (x : RcM) (L : RcL) (w : World) (h : RcAt w x L) (hf : RcF x) (hU : Tabs w) (hF : formR (rcT x L) = false) :
  Calls Tryz.prog 10 #[.agg (rcV x)] w (NoForm w):=by
 have H0:=hid ((Boxs.start w).more (rcV x) 36)
 have cF : ∀ W,Below w.heap.size w W→Calls Tryz.prog 15 #[.agg (rcV x)] W (Says W false):=fun W hW=>by have:=wFormed_any x L W (h.later hW) hf (hU.below hW);rw [hF] at this;exact this
 have xK:=(H0.out.get 0 _ _ _ rfl).ldK
 clear h hf hU
 go_enter Tryz.func10,Tryz.ntmps10
 go_wp2_with (go_at_call 15;((with_reducible refine (cF _ H0.out.bel).mono ?_);rintro e w1 ⟨rfl,hb1⟩;have H1:=hid (H0.out.below hb1)))
 go_ret2
 exact ⟨rfl,H1.out.bel⟩
theorem wWrite_yes (x : RcM) (L : RcL) (w : World) (h : RcAt w x L) (hf : RcF x) (hU : Tabs w) (hF : formR (rcT x L) = true) :
  Calls Tryz.prog 10 #[.agg (rcV x)] w (NewB2 w (rcB (rcT x L))):=by
 have H0:=hid ((Boxs.start w).more (rcV x) 36)
 have cF : ∀ W,Below w.heap.size w W→Calls Tryz.prog 15 #[.agg (rcV x)] W (Says W true):=fun W hW=>by have:=wFormed_any x L W (h.later hW) hf (hU.below hW);rw [hF] at this;exact this
 have cS : ∀ a n c l W,BAt W W.heap.size a n l→n≤1000000→(0≤x.sl∧x.sl≤1000000)→Calls Tryz.prog 37 #[.slice a n c,.agg (rcV x)] W (NewB W (l ++ putB x.sl.toNat 4)):=fun a n c l W h1 h2 h3=>wSlot_any a n c l x W h1 (by omega) h3.1 h3.2
 have cB : ∀ a n c l W,BAt W W.heap.size a n l→n≤1000000→formB x.bn = true→Calls Tryz.prog 35 #[.slice a n c,.agg #[.int .u32 ((x.br : Nat) : Int),.int .i64 x.bn]] W (NewB W (l ++ balBytes (((x.br : Nat) : Int),x.bn))):=fun a n c l W h1 h2 h3=>by
  have h4:=bPut_any a n c x.br x.bn l W h1 (by omega) h.br
  rw [bal_put _ _ h3] at h4;exact h4
 have cC : ∀ a n c l W,BAt W W.heap.size a n l→n≤1000000→Below w.heap.size w W→formCm (cmT x.cm L.rs L.ws) = true→Calls Tryz.prog 36 #[.slice a n c,.agg (cmV x.cm)] W (NewB W (l ++ cmB (cmT x.cm L.rs L.ws))):=fun a n c l W h1 h2 hW h3=>(kPut_any a n c l x.cm L.rs L.ws W h1 (by omega) (h.cm.later hW) hf.n hf.m (hU.below hW)).mono fun e w' h=>h.cast (by unfold putC;rw [if_pos h3])
 have cD : ∀ a n c l W,BAt W W.heap.size a n l→n≤1000000→Below w.heap.size w W→x.dn≤59900→Calls Tryz.prog 38 #[.slice a n c,.agg (rcV x)] W (NewB W (l ++ dataB L.dl)):=fun a n c l W h1 h2 hW h3=>wData_any a n c l x L W h1 (by omega) (h.later hW) h3
 have hdl:=h.da.len
 have hFR:=(formR_iff _).1 hF
 clear h hf hU hF
 obtain ⟨x0,x1,x2,x3,x4,x5,x6,x7,x8,x9,x10,x11,x12,x13,x14,xK⟩:=(H0.out.get 0 _ _ _ rfl).all
 unfold FormR slotP rcT at hFR
 simp only at hFR
 unfold rcT
 unfold rcB
 simp only
 rcases hFR with ⟨hk,f1,f2,f3,f4⟩ | ⟨hk,f1,f2,f3,f4⟩ | ⟨hk,f1,f2,f3,f4⟩ | ⟨hk,f1,f2,f3,f4⟩
 ·clear hdl
  obtain ⟨k,br,bn,sl,cm,da,dn,dc⟩:=x
  simp only at hk
  subst hk
  dsimp only at cS cB cC cD cF f1 f2 f3 f4
  have cK : ∀ W,Calls Tryz.prog 34 #[.slice none 0 0,.int .u64 1,.int .i64 1] W (NewB W (putB 1 1)):=fun W=>put_any none 0 0 1 1 [] W BAt.nil (by omega) (by omega)
  show Calls _ _ _ _ (NewB2 w (putB 1 1 ++ balBytes (((br : Nat) : Int),bn)))
  clear f2 f3 f4
  go_enter Tryz.func10,Tryz.ntmps10
  go_upto_region 6 with (first | (go_at_call 15;((with_reducible refine (cF _ H0.out.bel).mono ?_);rintro e w1 ⟨rfl,hb1⟩;have H1:=hid (H0.out.below hb1);(clear x0 x1 x2 x3 x4 x5 x6 x7 x8 x9 x10 x11 x12 x13 x14 xK);obtain ⟨x0,x1,x2,x3,x4,x5,x6,x7,x8,x9,x10,x11,x12,x13,x14,xK⟩:=(H1.out.get 0 _ _ _ rfl).all)) | (go_at_call 34;((with_reducible refine (cK _).mono ?_);rintro e w2 ⟨a2,n2,c2,rfl,ho2,hb2⟩;have H2:=hid (H1.out.below hb2);(clear x0 x1 x2 x3 x4 x5 x6 x7 x8 x9 x10 x11 x12 x13 x14 xK);obtain ⟨x0,x1,x2,x3,x4,x5,x6,x7,x8,x9,x10,x11,x12,x13,x14,xK⟩:=(H2.out.get 0 _ _ _ rfl).all;have L2:=hid (BAt.of_own ho2);have hn2:=own_len ho2;rw [putB_len] at hn2;subst hn2;have P2:=hid (PutIn.call H1.out.bel ho2 hb2))))
  go_wp2_with (go_at_call 35;((with_reducible refine (cB _ _ _ _ _ L2.out (by omega) f1).mono ?_);rintro e v3 ⟨a3,n3,c3,rfl,ho3,hb3⟩;have P3:=hid (PutIn.call H2.out.bel ho3 hb3)))
  go_ret2
  exact P3.out.out2
 ·clear hdl
  obtain ⟨k,br,bn,sl,cm,da,dn,dc⟩:=x
  simp only at hk
  subst hk
  dsimp only at cS cB cC cD cF f1 f2 f3 f4
  have cK : ∀ W,Calls Tryz.prog 34 #[.slice none 0 0,.int .u64 2,.int .i64 1] W (NewB W (putB 2 1)):=fun W=>put_any none 0 0 2 1 [] W BAt.nil (by omega) (by omega)
  show Calls _ _ _ _ (NewB2 w (putB 2 1 ++ (balBytes (((br : Nat) : Int),bn) ++ (putB sl.toNat 4 ++ cmB (cmT cm L.rs L.ws)))))
  go_enter Tryz.func10,Tryz.ntmps10
  go_upto_region 8 with (first | (go_at_call 15;((with_reducible refine (cF _ H0.out.bel).mono ?_);rintro e w1 ⟨rfl,hb1⟩;have H1:=hid (H0.out.below hb1);(clear x0 x1 x2 x3 x4 x5 x6 x7 x8 x9 x10 x11 x12 x13 x14 xK);obtain ⟨x0,x1,x2,x3,x4,x5,x6,x7,x8,x9,x10,x11,x12,x13,x14,xK⟩:=(H1.out.get 0 _ _ _ rfl).all)) | (go_at_call 34;((with_reducible refine (cK _).mono ?_);rintro e w2 ⟨a2,n2,c2,rfl,ho2,hb2⟩;have H2:=hid (H1.out.below hb2);(clear x0 x1 x2 x3 x4 x5 x6 x7 x8 x9 x10 x11 x12 x13 x14 xK);obtain ⟨x0,x1,x2,x3,x4,x5,x6,x7,x8,x9,x10,x11,x12,x13,x14,xK⟩:=(H2.out.get 0 _ _ _ rfl).all;have L2:=hid (BAt.of_own ho2);have hn2:=own_len ho2;rw [putB_len] at hn2;subst hn2;have P2:=hid (PutIn.call H1.out.bel ho2 hb2))))
  have X2:=hid H2.out.drew;have L2 : Hid (BAt w2.drew w2.drew.heap.size a2 1 (putB 2 1)):=L2.out;have s2:=(X2.out.get 0 _ _ _ rfl).all;(clear x0 x1 x2 x3 x4 x5 x6 x7 x8 x9 x10 x11 x12 x13 x14 xK)
  go_region_held3 (fun W=>(W.cell? ⟨w.heap.size,0,none⟩ = some (.int .i64 2)∧W.cell? ⟨w.heap.size,1,none⟩ = some (.int .u32 ((br : Nat) : Int))∧W.cell? ⟨w.heap.size,2,none⟩ = some (.int .i64 bn)∧W.cell? ⟨w.heap.size,3,none⟩ = some (.int .i64 sl)∧W.cell? ⟨w.heap.size,4,none⟩ = some (.int .i64 cm.k)∧W.cell? ⟨w.heap.size,5,none⟩ = some (.int .i64 cm.s)∧W.cell? ⟨w.heap.size,6,none⟩ = some (.int .i64 cm.q)∧W.cell? ⟨w.heap.size,7,none⟩ = some (.slice cm.a cm.n cm.c)∧W.cell? ⟨w.heap.size,8,none⟩ = some (.slice cm.b cm.m cm.d)∧W.cell? ⟨w.heap.size,9,none⟩ = some (.int .i64 cm.i)∧W.cell? ⟨w.heap.size,10,none⟩ = some (.int .i64 cm.j)∧W.cell? ⟨w.heap.size,11,none⟩ = some (.int .i64 cm.g)∧W.cell? ⟨w.heap.size,12,none⟩ = some (.int .u64 ((cm.st : Nat) : Int))∧W.cell? ⟨w.heap.size,13,none⟩ = some (.bool cm.y)∧W.cell? ⟨w.heap.size,14,none⟩ = some (.slice da dn dc)∧(Go.Proofs.YtcfmifongbapkaaGreatDoor.ldK (.pointer (some ⟨w.heap.size,0,none⟩))).run Tryz.prog W = .ok (.agg (rcV ⟨2,br,bn,sl,cm,da,dn,dc⟩)) W)) (first | (with_reducible exact s2) | (with_reducible exact s3) | (with_reducible exact s4) | (with_reducible exact s5))
   (first | (go_at_call 35;((with_reducible refine (cB _ _ _ _ _ L2.out (by omega) f1).mono ?_);rintro e v3 ⟨a3,n3,c3,rfl,ho3,hb3⟩;have X3:=hid (X2.out.below hb3);have L3:=hid (BAt.of_own ho3);have hn3:=own_len ho3;have P3:=hid (PutIn.call X2.out.bel ho3 hb3);have s3:=(X3.out.get 0 _ _ _ rfl).all)) | (go_at_call 37;((with_reducible refine (cS _ _ _ _ _ L3.out (by have:=hn3;simp only [List.length_append,putB_len,balBytes_len] at this;omega) f2).mono ?_);rintro e v4 ⟨a4,n4,c4,rfl,ho4,hb4⟩;have X4:=hid (X3.out.below hb4);have L4:=hid (BAt.of_own ho4);have hn4:=own_len ho4;have P4:=hid (PutIn.call X3.out.bel ho4 hb4);have s4:=(X4.out.get 0 _ _ _ rfl).all)) | (go_at_call 36;((with_reducible refine (cC _ _ _ _ _ L4.out (by have:=hn4;simp only [List.length_append,putB_len,balBytes_len] at this;omega) X4.out.bel f3).mono ?_);rintro e v5 ⟨a5,n5,c5,rfl,ho5,hb5⟩;have X5:=hid (X4.out.below hb5);have L5:=hid (BAt.of_own ho5);have hn5:=own_len ho5;have P5:=hid (PutIn.call X4.out.bel ho5 hb5);have s5:=(X5.out.get 0 _ _ _ rfl).all)))
  go_wp2
  go_ret2
  have E:=P5.out.out2
  simp only [List.append_assoc] at E
  exact E
 ·clear hdl
  obtain ⟨k,br,bn,sl,cm,da,dn,dc⟩:=x
  simp only at hk
  subst hk
  dsimp only at cS cB cC cD cF f1 f2 f3 f4
  have cK : ∀ W,Calls Tryz.prog 34 #[.slice none 0 0,.int .u64 3,.int .i64 1] W (NewB W (putB 3 1)):=fun W=>put_any none 0 0 3 1 [] W BAt.nil (by omega) (by omega)
  show Calls _ _ _ _ (NewB2 w (putB 3 1 ++ (putB sl.toNat 4 ++ cmB (cmT cm L.rs L.ws))))
  go_enter Tryz.func10,Tryz.ntmps10
  go_upto_region 10 with (first | (go_at_call 15;((with_reducible refine (cF _ H0.out.bel).mono ?_);rintro e w1 ⟨rfl,hb1⟩;have H1:=hid (H0.out.below hb1);(clear x0 x1 x2 x3 x4 x5 x6 x7 x8 x9 x10 x11 x12 x13 x14 xK);obtain ⟨x0,x1,x2,x3,x4,x5,x6,x7,x8,x9,x10,x11,x12,x13,x14,xK⟩:=(H1.out.get 0 _ _ _ rfl).all)) | (go_at_call 34;((with_reducible refine (cK _).mono ?_);rintro e w2 ⟨a2,n2,c2,rfl,ho2,hb2⟩;have H2:=hid (H1.out.below hb2);(clear x0 x1 x2 x3 x4 x5 x6 x7 x8 x9 x10 x11 x12 x13 x14 xK);obtain ⟨x0,x1,x2,x3,x4,x5,x6,x7,x8,x9,x10,x11,x12,x13,x14,xK⟩:=(H2.out.get 0 _ _ _ rfl).all;have L2:=hid (BAt.of_own ho2);have hn2:=own_len ho2;rw [putB_len] at hn2;subst hn2;have P2:=hid (PutIn.call H1.out.bel ho2 hb2))))
  have X2:=hid H2.out.drew;have L2 : Hid (BAt w2.drew w2.drew.heap.size a2 1 (putB 3 1)):=L2.out;have s2:=(X2.out.get 0 _ _ _ rfl).all;(clear x0 x1 x2 x3 x4 x5 x6 x7 x8 x9 x10 x11 x12 x13 x14 xK)
  go_region_held3 (fun W=>(W.cell? ⟨w.heap.size,0,none⟩ = some (.int .i64 3)∧W.cell? ⟨w.heap.size,1,none⟩ = some (.int .u32 ((br : Nat) : Int))∧W.cell? ⟨w.heap.size,2,none⟩ = some (.int .i64 bn)∧W.cell? ⟨w.heap.size,3,none⟩ = some (.int .i64 sl)∧W.cell? ⟨w.heap.size,4,none⟩ = some (.int .i64 cm.k)∧W.cell? ⟨w.heap.size,5,none⟩ = some (.int .i64 cm.s)∧W.cell? ⟨w.heap.size,6,none⟩ = some (.int .i64 cm.q)∧W.cell? ⟨w.heap.size,7,none⟩ = some (.slice cm.a cm.n cm.c)∧W.cell? ⟨w.heap.size,8,none⟩ = some (.slice cm.b cm.m cm.d)∧W.cell? ⟨w.heap.size,9,none⟩ = some (.int .i64 cm.i)∧W.cell? ⟨w.heap.size,10,none⟩ = some (.int .i64 cm.j)∧W.cell? ⟨w.heap.size,11,none⟩ = some (.int .i64 cm.g)∧W.cell? ⟨w.heap.size,12,none⟩ = some (.int .u64 ((cm.st : Nat) : Int))∧W.cell? ⟨w.heap.size,13,none⟩ = some (.bool cm.y)∧W.cell? ⟨w.heap.size,14,none⟩ = some (.slice da dn dc)∧(Go.Proofs.YtcfmifongbapkaaGreatDoor.ldK (.pointer (some ⟨w.heap.size,0,none⟩))).run Tryz.prog W = .ok (.agg (rcV ⟨3,br,bn,sl,cm,da,dn,dc⟩)) W)) (first | (with_reducible exact s2) | (with_reducible exact s3) | (with_reducible exact s4) | (with_reducible exact s5))
   (first | (go_at_call 37;((with_reducible refine (cS _ _ _ _ _ L2.out (by omega) f2).mono ?_);rintro e v3 ⟨a3,n3,c3,rfl,ho3,hb3⟩;have X3:=hid (X2.out.below hb3);have L3:=hid (BAt.of_own ho3);have hn3:=own_len ho3;have P3:=hid (PutIn.call X2.out.bel ho3 hb3);have s3:=(X3.out.get 0 _ _ _ rfl).all)) | (go_at_call 36;((with_reducible refine (cC _ _ _ _ _ L3.out (by have:=hn3;simp only [List.length_append,putB_len] at this;omega) X3.out.bel f3).mono ?_);rintro e v4 ⟨a4,n4,c4,rfl,ho4,hb4⟩;have X4:=hid (X3.out.below hb4);have L4:=hid (BAt.of_own ho4);have hn4:=own_len ho4;have P4:=hid (PutIn.call X3.out.bel ho4 hb4);have s4:=(X4.out.get 0 _ _ _ rfl).all)))
  go_wp2
  go_ret2
  have E:=P4.out.out2
  simp only [List.append_assoc] at E
  exact E
 ·obtain ⟨k,br,bn,sl,cm,da,dn,dc⟩:=x
  simp only at hk
  subst hk
  dsimp only at cS cB cC cD cF f1 f2 f3 f4
  have cK : ∀ W,Calls Tryz.prog 34 #[.slice none 0 0,.int .u64 4,.int .i64 1] W (NewB W (putB 4 1)):=fun W=>put_any none 0 0 4 1 [] W BAt.nil (by omega) (by omega)
  have hd : dn≤59900:=by have h1 : L.dl.length = dn:=hdl;omega
  show Calls _ _ _ _ (NewB2 w (putB 4 1 ++ (putB sl.toNat 4 ++ dataB L.dl)))
  go_enter Tryz.func10,Tryz.ntmps10
  go_upto_region 12 with (first | (go_at_call 15;((with_reducible refine (cF _ H0.out.bel).mono ?_);rintro e w1 ⟨rfl,hb1⟩;have H1:=hid (H0.out.below hb1);(clear x0 x1 x2 x3 x4 x5 x6 x7 x8 x9 x10 x11 x12 x13 x14 xK);obtain ⟨x0,x1,x2,x3,x4,x5,x6,x7,x8,x9,x10,x11,x12,x13,x14,xK⟩:=(H1.out.get 0 _ _ _ rfl).all)) | (go_at_call 34;((with_reducible refine (cK _).mono ?_);rintro e w2 ⟨a2,n2,c2,rfl,ho2,hb2⟩;have H2:=hid (H1.out.below hb2);(clear x0 x1 x2 x3 x4 x5 x6 x7 x8 x9 x10 x11 x12 x13 x14 xK);obtain ⟨x0,x1,x2,x3,x4,x5,x6,x7,x8,x9,x10,x11,x12,x13,x14,xK⟩:=(H2.out.get 0 _ _ _ rfl).all;have L2:=hid (BAt.of_own ho2);have hn2:=own_len ho2;rw [putB_len] at hn2;subst hn2;have P2:=hid (PutIn.call H1.out.bel ho2 hb2))))
  have X2:=hid H2.out.drew;have L2 : Hid (BAt w2.drew w2.drew.heap.size a2 1 (putB 4 1)):=L2.out;have s2:=(X2.out.get 0 _ _ _ rfl).all;(clear x0 x1 x2 x3 x4 x5 x6 x7 x8 x9 x10 x11 x12 x13 x14 xK)
  go_region_held3 (fun W=>(W.cell? ⟨w.heap.size,0,none⟩ = some (.int .i64 4)∧W.cell? ⟨w.heap.size,1,none⟩ = some (.int .u32 ((br : Nat) : Int))∧W.cell? ⟨w.heap.size,2,none⟩ = some (.int .i64 bn)∧W.cell? ⟨w.heap.size,3,none⟩ = some (.int .i64 sl)∧W.cell? ⟨w.heap.size,4,none⟩ = some (.int .i64 cm.k)∧W.cell? ⟨w.heap.size,5,none⟩ = some (.int .i64 cm.s)∧W.cell? ⟨w.heap.size,6,none⟩ = some (.int .i64 cm.q)∧W.cell? ⟨w.heap.size,7,none⟩ = some (.slice cm.a cm.n cm.c)∧W.cell? ⟨w.heap.size,8,none⟩ = some (.slice cm.b cm.m cm.d)∧W.cell? ⟨w.heap.size,9,none⟩ = some (.int .i64 cm.i)∧W.cell? ⟨w.heap.size,10,none⟩ = some (.int .i64 cm.j)∧W.cell? ⟨w.heap.size,11,none⟩ = some (.int .i64 cm.g)∧W.cell? ⟨w.heap.size,12,none⟩ = some (.int .u64 ((cm.st : Nat) : Int))∧W.cell? ⟨w.heap.size,13,none⟩ = some (.bool cm.y)∧W.cell? ⟨w.heap.size,14,none⟩ = some (.slice da dn dc)∧(Go.Proofs.YtcfmifongbapkaaGreatDoor.ldK (.pointer (some ⟨w.heap.size,0,none⟩))).run Tryz.prog W = .ok (.agg (rcV ⟨4,br,bn,sl,cm,da,dn,dc⟩)) W)) (first | (with_reducible exact s2) | (with_reducible exact s3) | (with_reducible exact s4) | (with_reducible exact s5))
   (first | (go_at_call 37;((with_reducible refine (cS _ _ _ _ _ L2.out (by omega) f2).mono ?_);rintro e v3 ⟨a3,n3,c3,rfl,ho3,hb3⟩;have X3:=hid (X2.out.below hb3);have L3:=hid (BAt.of_own ho3);have hn3:=own_len ho3;have P3:=hid (PutIn.call X2.out.bel ho3 hb3);have s3:=(X3.out.get 0 _ _ _ rfl).all)) | (go_at_call 38;((with_reducible refine (cD _ _ _ _ _ L3.out (by have:=hn3;simp only [List.length_append,putB_len] at this;omega) X3.out.bel hd).mono ?_);rintro e v4 ⟨a4,n4,c4,rfl,ho4,hb4⟩;have X4:=hid (X3.out.below hb4);have L4:=hid (BAt.of_own ho4);have hn4:=own_len ho4;have P4:=hid (PutIn.call X3.out.bel ho4 hb4);have s4:=(X4.out.get 0 _ _ _ rfl).all)))
  go_wp2
  go_ret2
  have E:=P4.out.out2
  simp only [List.append_assoc] at E
  exact E
theorem wFramed_no (x : RcM) (L : RcL) (w : World) (h : RcAt w x L) (hf : RcF x) (hU : Tabs w) (hF : formR (rcT x L) = false) :
  Calls Tryz.prog 68 #[.agg (rcV x)] w (NoForm w):=by
 have H0:=hid ((Boxs.start w).more (rcV x) 36)
 have cW:=fun W (hW : Below w.heap.size w W)=>wWrite_no x L W (h.later hW) hf (hU.below hW) hF
 have xK:=(H0.out.get 0 _ _ _ rfl).ldK
 clear h hf hU
 go_enter Tryz.func68,Tryz.ntmps68
 go_wp2_with (go_at_call 10;((with_reducible refine (cW _ H0.out.bel).mono ?_);rintro e w1 ⟨rfl,hb1⟩;have H1:=hid (H0.out.below hb1)))
 go_ret2
 exact ⟨rfl,H1.out.bel⟩
theorem wFramed_yes (x : RcM) (L : RcL) (w : World) (h : RcAt w x L) (hf : RcF x) (hU : Tabs w) (hF : formR (rcT x L) = true) :
  Calls Tryz.prog 68 #[.agg (rcV x)] w (NewB2 w (frameB (rcB (rcT x L)))):=by
 have H0:=hid ((Boxs.start w).more (rcV x) 36)
 have cW:=fun W (hW : Below w.heap.size w W)=>wWrite_yes x L W (h.later hW) hf (hU.below hW) hF
 have hmx:=(rcB_max ((formR_iff _).1 hF)).2
 have xK:=(H0.out.get 0 _ _ _ rfl).ldK
 clear h hf hU hF
 generalize rcB (rcT x L) = B at *
 go_enter Tryz.func68,Tryz.ntmps68
 go_wp2_with (first | (go_at_call 10;((with_reducible refine (cW _ H0.out.bel).mono ?_);rintro e w1 ⟨a1,n1,c1,rfl,ho1,hb1⟩;have H1:=hid (H0.out.below hb1);have hn1:=own_len ho1;have L1:=hid (BAt.of_own ho1))) | (go_at_call 100;((with_reducible refine (wrap_yes _ _ _ _ _ L1.out (by omega)).mono ?_);rintro e w2 ⟨a2,n2,c2,rfl,ho2,hb2⟩;have P2:=hid (PutIn.call H1.out.bel ho2 hb2))))
 go_ret2
 exact P2.out.out2
end Go.Proofs.YtcfmifongbapkaaGreatDoor
