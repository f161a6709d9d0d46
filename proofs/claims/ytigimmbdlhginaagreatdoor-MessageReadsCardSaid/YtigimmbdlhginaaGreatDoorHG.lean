/- Contracts of message.fail, takeFlag and takeData. Conditions: the reader lies in memory. Contracts of message.takeField, letter by letter (all but h), in terms of what a letter reads. Conditions: the reader lies in memory; the message so far has no lists; the tables of utf8 lie there. Contracts of message.takeField for the letters c, t and d. Conditions: the reader lies in memory; the message so far has no lists and no texts; the tables of utf8 lie there. Contracts of message.takeVote and of message.takeField for the letter h. -/
import Derived.Test.YtigimmbdlhginaaGreatDoorGS
import Derived.Test.YtigimmbdlhginaaGreatDoorGX
import Derived.Test.YtigimmbdlhginaaGreatDoorHJ
import Derived.Test.YtigimmbdlhginaaGreatDoorReadLeft
import Derived.Test.YtigimmbdlhginaaGreatDoorGT
namespace Go.Proofs.YtigimmbdlhginaaGreatDoor
set_option maxRecDepth 100000
set_option maxHeartbeats 4000000
open Go.RowKit
open Go.Lib (hid)
set_option linter.unusedVariables false
theorem gfail_any (g : Nat) (st : St) (W : World) (h : RS g st W) :
  Calls Tryz.prog 72 #[.pointer (some ⟨g,0,none⟩)] W fun e w'=>e = .returned (.tuple #[])∧RS g none w'∧Only g W w':=by
 obtain ⟨l,ok,hr⟩:=h.rd
 have c:=take_no g l ok (-1) W hr (.inr (.inl (by omega)))
 clear hr h
 go_enter Tryz.func72,Tryz.ntmps72
 go_wp2_with (go_at_call 11;((with_reducible refine c.mono ?_);rintro e w1 ⟨rfl,hr1,ho1⟩))
 go_end0
 exact ⟨rfl,hr1,ho1⟩
theorem gTakeFlag_any (g : Nat) (st : St) (W : World) (h : RS g st W) :
  Calls Tryz.prog 36 #[.pointer (some ⟨g,0,none⟩)] W (Took1 (RS g) g (fun b=>.bool b) yesP false st W):=by
 have c1 : Calls Tryz.prog 11 #[.pointer (some ⟨g,0,none⟩),.int .i64 1] W (Took1 (RS g) g numV (numP 1) 0 st W):=takeS_any g 1 st W h (by omega)
 clear h
 go_enter Tryz.func36,Tryz.ntmps36
 go_upto_region 2 with (go_at_call 11;((with_reducible refine c1.mono ?_);rintro e w1 ⟨y,st1,rfl,hr1,ho1,hR1,hz1⟩;have D1:=hid hr1;have O1:=hid ho1;have R1:=hid hR1;have Z1:=hid hz1;clear hr1 ho1 hR1 hz1))
 by_cases hy : y≤1
 ·have i1 : ¬ (1 : Int) < ((y : Nat) : Int):=by omega
  have d1 : decide ((1 : Int) < ((y : Nat) : Int)) = false:=decide_eq_false i1
  have e1 : (((y : Nat) : Int) == 1) = decide (y = 1):=by
   by_cases h : y = 1
   ·rw [decide_eq_true h,h];rfl
   ·rw [decide_eq_false h];simp;omega
  have Q:=hid (res_yes R1.out hy)
  have Z2 : Hid (st1 = none→decide (y = 1) = false):=fun h=>by rw [Z1.out h];rfl
  go_wp2
  go_ret
  exact ⟨decide (y = 1),st1,by first | rfl | (rw [← e1];rfl),D1.out,O1.out,Q.out,Z2.out⟩
 ·have i1 : (1 : Int) < ((y : Nat) : Int):=by omega
  have e1 : (((y : Nat) : Int) == 1) = false:=by simp;omega
  have Q:=hid (res_yes_no R1.out hy false)
  go_wp2_with (go_at_call 72;((with_reducible refine (gfail_any g _ _ D1.out).mono ?_);rintro e w2 ⟨rfl,hr2,ho2⟩;have D2:=hid hr2;have O2:=hid (O1.out.trans ho2)))
  go_ret
  exact ⟨false,none,by first | rfl | (rw [← e1];rfl),D2.out,O2.out,Q.out,fun _=>rfl⟩
/-- A ballot is taken; the zero one where it fails. -/
def TookB (g : Nat) (st : St) (w : World) (e : Ending) (w' : World) : Prop :=
 ∃ (r : Nat) (n : Int) (st' : St),e = .returned (.agg #[.int .u32 ((r : Nat) : Int),.int .i64 n])∧RS g st' w'∧Only g w w'∧Res balQ st (((r : Nat) : Int),n) st'∧r < 4294967296
theorem numI_yes (k : Nat) (l : List UInt8) (h : k≤l.length) : numI k l = some (((numB (l.take k) : Nat) : Int),l.drop k):=by
 unfold numI bindP numP
 rw [if_pos h];rfl
theorem numI_no (k : Nat) (l : List UInt8) (h : ¬ k≤l.length) : numI k l = none:=by
 unfold numI bindP numP
 rw [if_neg h]
theorem balQ_yes (l : List UInt8) (h : balOk l) : balQ l = some ((((tkR l : Nat) : Int),((tkNode l : Nat) : Int)),l.drop 5):=by
 have h1:=h.1
 have h2:=h.2
 refine guard_yes ?_ (by show formB ((tkNode l : Nat) : Int) = true;simp [formB];omega)
 rw [bind_some (numI_yes 4 l (by omega)),bind_some (numI_yes 1 (l.drop 4) (by rw [List.length_drop];omega)),List.drop_drop]
 rfl
theorem balQ_no (l : List UInt8) (h : ¬ balOk l) : balQ l = none:=by
 by_cases h4 : 4≤l.length
 ·by_cases h5 : 1≤(l.drop 4).length
  ·refine guard_bad (x:=(((numB (l.take 4) : Nat) : Int),((numB ((l.drop 4).take 1) : Nat) : Int))) (r:=(l.drop 4).drop 1) ?_ ?_
   ·rw [bind_some (numI_yes 4 l h4),bind_some (numI_yes 1 _ h5)];rfl
   ·have hn : ¬ tkNode l < 5:=fun e=>h ⟨by rw [List.length_drop] at h5;omega,e⟩
    have : ¬ numB ((l.drop 4).take 1) < 5:=hn
    show formB ((numB ((l.drop 4).take 1) : Nat) : Int) = false
    simp [formB];omega
  ·refine guard_none ?_
   rw [bind_some (numI_yes 4 l h4),bind_none (numI_no 1 _ h5)]
 ·exact guard_none (bind_none (numI_no 4 l h4))
theorem bTakeS_any (g : Nat) (st : St) (W : World) (h : RS g st W) : Calls Tryz.prog 31 #[.pointer (some ⟨g,0,none⟩)] W (TookB g st W):=by
 cases st with
 | none=>exact (bTake_no g [] false W h (fun h=>by cases h.1)).mono fun e w' ⟨h1,h2,h3⟩=>⟨0,0,none,h1,h2,h3,.no _ (fun l e=>by cases e),by omega⟩
 | some l =>
  by_cases hk : balOk l
  ·exact (bTake_yes g l W h hk).mono fun e w' ⟨h1,h2,h3⟩=>⟨tkR l,(tkNode l : Nat),some (l.drop 5),h1,h2,h3,.yes (balQ_yes l hk),tkR_lt l⟩
  ·exact (bTake_no g l true W h (fun h=>hk h.2)).mono fun e w' ⟨h1,h2,h3⟩=>⟨0,0,none,h1,h2,h3,.no _ (fun l' e=>by injection e with e;subst e;exact balQ_no l hk),by omega⟩
theorem res_numI {st st1 : St} {k z : Nat} (h : Res (numP k) st z st1) : Res (numI k) st ((z : Nat) : Int) st1:=Res.bind (x:=z) h (Res.pure _ _)
/-- How data are read: no longer than they may be. -/
def dataQ : Prs (List UInt8):=guardP (fun d=>decide (d.length≤59900)) dataP
/-- Data are taken; none where it fails. -/
def TookD (g : Nat) (st : St) (w : World) (e : Ending) (w' : World) : Prop :=
 ∃ (a : Option Addr) (m c : Nat) (d : List UInt8) (st' : St),e = .returned (.slice a m c)∧RS g st' w'∧Only g w w'∧BAt w' w'.heap.size a m d∧m≤59900∧Res dataQ st d st'
/-- Where the loop stands: i bytes are laid. -/
def DatR (g D : Nat) (r : List UInt8) (n i : Nat) (w wr : World) : Prop :=
 RS g (some (r.drop i)) wr∧Only g w wr∧BoxC wr D (bcells (r.take i) ++ List.replicate (n - i) (Value.int .u8 0)).toArray 5∧w.heap.size≤D
theorem set_at (A : List Value) (z v : Value) (n i : Nat) (hA : A.length = i) (hi : i < n) : (A ++ List.replicate (n - i) z).toArray.setIfInBounds i v = ((A ++ [v]) ++ List.replicate (n - (i + 1)) z).toArray:=by
 apply Array.ext'
 rw [Array.toList_setIfInBounds,List.toList_toArray,List.toList_toArray]
 obtain ⟨k,hk⟩ : ∃ k,n - i = k + 1:=⟨n - i - 1,by omega⟩
 have e : n - (i + 1) = k:=by omega
 rw [hk,e,List.replicate_succ,List.set_append_right _ _ (by omega),hA,Nat.sub_self,List.set_cons_zero,List.append_assoc];rfl
theorem made_bytes (n : Nat) : madeCells #[Value.int .u8 0] n = (List.replicate n (Value.int .u8 0)).toArray:=by
 apply Array.ext'
 rw [List.toList_toArray]
 have e : (fun x : Nat=>([Value.int .u8 0][x % 1]?).getD default) = fun _=>Value.int .u8 0:=by funext x;rw [Nat.mod_one];rfl
 simp [madeCells,e]
 rw [List.map_const',List.length_range]
theorem gTakeData_any (g : Nat) (st : St) (w : World) (h : RS g st w) :
  Calls Tryz.prog 39 #[.pointer (some ⟨g,0,none⟩)] w (TookD g st w):=by
 have c4 : Calls Tryz.prog 11 #[.pointer (some ⟨g,0,none⟩),.int .i64 4] w (Took1 (RS g) g numV (numP 4) 0 st w):=takeS_any g 4 st w h (by omega)
 have hgw:=h.lt
 clear h
 obtain ⟨i0,hi,hz0,hz1,hz2⟩:=info_parts Tryz.info5
 go_enter Tryz.func39,Tryz.ntmps39
 go_upto_region 2 with (go_at_call 11;((with_reducible refine c4.mono ?_);rintro e w1 ⟨n,st1,rfl,hr1,ho1,hR1,hz1⟩;have D1:=hid hr1;have O1:=hid ho1;have R1:=hid hR1;have Z1:=hid hz1;clear hr1 ho1 hR1))
 have hn32 : n < 4294967296:=num_lt R1.out Z1.out (by decide)
 clear hz1 c4
 by_cases hbig : 59900 < n
 ·have i1 : (59900 : Int) < ((n : Nat) : Int):=by omega
  have Q : Hid (Res dataQ st [] none):=by
   refine .no [] fun l e=>?_
   rcases R1.out with ⟨l',r,e1,hp,_⟩ | ⟨_,e1⟩
   ·rw [e] at e1;injection e1 with e1;subst e1
    unfold dataQ dataP
    by_cases hc : n≤r.length
    ·refine guard_bad (x:=r.take n) (r:=r.drop n) ?_ (by simp;omega)
     rw [bind_some hp];unfold cutP;rw [if_pos hc]
    ·refine guard_none ?_
     rw [bind_some hp];unfold cutP;rw [if_neg hc]
   ·have:=Z1.out e1;omega
  go_wp2_with (go_at_call 72;((with_reducible refine (gfail_any g _ _ D1.out).mono ?_);rintro e w2 ⟨rfl,hr2,ho2⟩;have D2:=hid hr2;have O2:=hid (O1.out.trans ho2)))
  go_ret
  exact ⟨none,0,0,[],none,rfl,D2.out,O2.out,BAt.nil,by omega,Q.out⟩
 ·have i1 : ¬ (59900 : Int) < ((n : Nat) : Int):=by omega
  have d1 : decide ((59900 : Int) < ((n : Nat) : Int)) = false:=decide_eq_false i1
  have cL:=leftS_any g st1 w1 D1.out
  by_cases hl : lenS st1 < n
  ·have i2 : ((lenS st1 : Nat) : Int) < ((n : Nat) : Int):=by omega
   have Q : Hid (Res dataQ st [] none):=by
    refine .no [] fun l e=>?_
    rcases R1.out with ⟨l',r,e1,hp,e2⟩ | ⟨_,e1⟩
    ·rw [e] at e1;injection e1 with e1;subst e1
     subst e2
     have hl' : r.length < n:=hl
     unfold dataQ dataP
     refine guard_none ?_
     rw [bind_some hp];unfold cutP;rw [if_neg (by omega)]
    ·have:=Z1.out e1;omega
   go_wp2_with (first | (go_at_call 41;((with_reducible refine cL.mono ?_);rintro e w' ⟨rfl,rfl⟩)) | (go_at_call 72;((with_reducible refine (gfail_any g _ _ D1.out).mono ?_);rintro e w2 ⟨rfl,hr2,ho2⟩;have D2:=hid hr2;have O2:=hid (O1.out.trans ho2))))
   go_ret
   exact ⟨none,0,0,[],none,rfl,D2.out,O2.out,BAt.nil,by omega,Q.out⟩
  ·have i2 : ¬ ((lenS st1 : Nat) : Int) < ((n : Nat) : Int):=by omega
   have d2 : decide (((lenS st1 : Nat) : Int) < ((n : Nat) : Int)) = false:=decide_eq_false i2
   have hmk : (Instr.makeSlice 22 (numV n) (numV n)).run Tryz.prog w1 = .ok (.slice (some ⟨w1.heap.size,0,none⟩) n n) (w1.alloc (.cells (madeCells #[Value.int .u8 0] n) 5)):=by
    have hr:=run_make (P:=Tryz.prog) w1 22 5 i0 (.int .u8 0) Tryz.underlying22 hi hz0 .u64 .u64 ((n : Nat) : Int) ((n : Nat) : Int) (by omega) (by omega) (by rw [hz2];omega) (by omega)
    have e1 : ((n : Nat) : Int).toNat = n:=by omega
    rw [hr,hz1,e1,Nat.mul_one];rfl
   have hg1 : g < w1.heap.size:=D1.out.lt
   have hw1:=O1.out.size
   cases st1 with
   | none =>
    obtain rfl : n = 0:=Z1.out rfl
    have Q : Hid (Res dataQ st [] none):=by
     refine .no [] fun l e=>?_
     rcases R1.out with ⟨l',r,e1,hp,e2⟩ | ⟨hp,e1⟩
     ·cases e2
     ·unfold dataQ dataP;exact guard_none (bind_none (hp l e))
    have E0 : Hid (RS g none (w1.alloc (.cells (madeCells #[Value.int .u8 0] 0) 5))):=RdAt.keep D1.out (fun b hb=>Below.heap_alloc _ _ _ (by omega))
    have P0 : Hid (Only g w (w1.alloc (.cells (madeCells #[Value.int .u8 0] 0) 5))):=O1.out.trans (below_only ((Below.refl _ _).alloc (Nat.le_refl _) _))
    have hmk0 : (Instr.makeSlice 22 (numV 0) (numV 0)).run Tryz.prog w1 = .ok (.slice (some ⟨w1.heap.size,0,none⟩) 0 0) (w1.alloc (.cells (madeCells #[Value.int .u8 0] 0) 5)):=hmk
    have cL0 : Calls Tryz.prog 41 #[.pointer (some ⟨g,0,none⟩)] w1 fun e w'=>e = .returned (.int .i64 0)∧w1 = w':=cL
    clear hmk hl i2 d2 i1 d1 hbig cL
    go_wp2_with (go_at_call 41;((with_reducible refine cL0.mono ?_);rintro e w' ⟨rfl,rfl⟩))
    generalize w1.alloc (.cells (madeCells #[Value.int .u8 0] 0) 5) = W2 at *
    go_loopw [23] (fun v wr=>v = .int .i64 0∧wr = W2) (fun _ _=>0)
    case atStart=>exact ⟨rfl,rfl⟩
    case round =>
     obtain ⟨rfl,rfl⟩:=hrel
     go_wp2
     go_ret
     exact ⟨_,0,0,[],none,rfl,E0.out,P0.out,BAt.nil,by omega,Q.out⟩
   | some r =>
    have hlr : n≤r.length:=by have : ¬ r.length < n:=hl;omega
    have hrl : r.length≤9223372036854775807:=by
     obtain ⟨ra,rn,rc,rh,r1,r2,rl,rf⟩:=D1.out
     have r3 : r.length = rn:=rl.1
     unfold maxLen at r2
     omega
    have hwr : IntKind.u64.wrap ((r.length : Nat) : Int) = ((r.length : Nat) : Int):=by rw [IntKind.wrap_u64];omega
    have cL1 : Calls Tryz.prog 41 #[.pointer (some ⟨g,0,none⟩)] w1 fun e w'=>e = .returned (.int .i64 ((r.length : Nat) : Int))∧w1 = w':=cL
    have i3 : ¬ ((r.length : Nat) : Int) < ((n : Nat) : Int):=by omega
    have d3 : decide (((r.length : Nat) : Int) < ((n : Nat) : Int)) = false:=decide_eq_false i3
    have d4 : decide (r.length < n) = false:=decide_eq_false (by omega)
    have i4 : ¬ r.length < n:=by omega
    have Q : Hid (Res dataQ st (r.take n) (some (r.drop n))):=by
     rcases R1.out with ⟨l',r',e1,hp,e2⟩ | ⟨_,e2⟩
     ·injection e2 with e2;subst e2
      rw [e1]
      refine .yes ?_
      unfold dataQ dataP
      refine guard_yes ?_ (by rw [List.length_take];simp;omega)
      rw [bind_some hp];unfold cutP;rw [if_pos hlr]
     ·cases e2
    have E0 : Hid (DatR g w1.heap.size r n 0 w (w1.alloc (.cells (madeCells #[Value.int .u8 0] n) 5))):=by
     refine ⟨RdAt.keep D1.out (fun b hb=>Below.heap_alloc _ _ _ (by omega)),O1.out.trans (below_only ((Below.refl _ _).alloc (Nat.le_refl _) _)),?_,hw1⟩
     rw [made_bytes]
     exact BoxC.new w1 _ 5
    have HLR:=hid hlr
    clear hl i2 d2 cL hlr
    go_wp2_with (go_at_call 41;((with_reducible refine cL1.mono ?_);rintro e w' ⟨rfl,rfl⟩))
    clear hmk D1 O1 R1 Z1 cL1 i3 d3 i1 d1 i4 d4
    generalize w1.alloc (.cells (madeCells #[Value.int .u8 0] n) 5) = W2 at *
    generalize w1.heap.size = D at *
    go_loopw [23] (fun v wr => ∃ i,i≤n∧v = .int .i64 ((i : Nat) : Int)∧DatR g D r n i w wr) (fun v _=>n - (intOf v).toNat)
    case atStart=>exact ⟨0,Nat.zero_le _,rfl,E0.out⟩
    case round =>
     obtain ⟨i,hin,rfl,hE⟩:=hrel
     have E1:=hid hE
     clear hE E0
     by_cases hlt : i < n
     ·have hir : i < r.length:=by have:=HLR.out;omega
      have c1 : Calls Tryz.prog 11 #[.pointer (some ⟨g,0,none⟩),.int .i64 1] wr fun e w'=>e = .returned (.int .u64 ((r[i].toNat : Nat) : Int))∧RdAt w' g ((r.drop i).drop 1) true∧Only g wr w':=by
       have h1:=take_yes g (r.drop i) 1 wr E1.out.1 (by rw [List.length_drop];omega) (by omega)
       have e1 : numB ((r.drop i).take 1) = r[i].toNat:=by
        rw [List.drop_eq_getElem_cons hir,List.take_succ_cons,List.take_zero,numB_cons,numB_nil];simp
       rw [e1] at h1;exact h1
      have hb8 : r[i].toNat < 256:=r[i].toNat_lt
      have TK : Hid (bcells (r.take (i + 1)) = bcells (r.take i) ++ [Value.int .u8 ((r[i].toNat : Nat) : Int)]):=by
       unfold Hid
       rw [List.take_succ_eq_append_getElem hir,bcells_app];rfl
      have LT : Hid ((bcells (r.take i)).length = i):=by unfold Hid;rw [bcells_len,List.length_take];omega
      have DR : Hid ((r.drop i).drop 1 = r.drop (i + 1)):=by unfold Hid;rw [List.drop_drop]
      generalize r[i].toNat = q at *
      have GD : Hid (g < D):=by have:=E1.out.2.2.2;unfold Hid;omega
      go_upto_region 10 with (go_at_call 11;((with_reducible refine c1.mono ?_);rintro e w3 ⟨rfl,hr3,ho3⟩;have B3:=hid (E1.out.2.2.1.only ho3 (by have:=GD.out;omega));have D3:=hid hr3;have O3:=hid (E1.out.2.1.trans ho3);have y3 : w3.cell? ⟨D,i,none⟩ = some (.int .u8 0):=B3.out.cell i _ (by rw [List.getElem?_toArray,List.getElem?_append_right (by rw [LT.out];exact Nat.le_refl _),LT.out,Nat.sub_self,List.getElem?_replicate];simp;omega);have f3:=B3.out.frozen i))
      have E4 : Hid (DatR g D r n (i + 1) w (w3.setCell ⟨D,i,none⟩ (.int .u8 ((q : Nat) : Int)))):=by
       have hD:=E1.out.2.2.2
       refine ⟨?_,?_,?_,hD⟩
       ·rw [← DR.out]
        exact RdAt.keep D3.out (fun b hb=>Below.heap_setCell _ _ _ _ (by have:=GD.out;show b≠D;omega))
       ·exact ⟨O3.out.os,O3.out.tape,O3.out.output,by have:=O3.out.size;simpa [World.setCell] using this,fun b hb hne=>(Below.heap_setCell _ _ _ _ (by show b≠D;omega)).trans (O3.out.block b hb hne)⟩
       ·rw [TK.out,← set_at _ _ _ n i LT.out hlt]
        exact B3.out.set i _
      clear y3 f3
      generalize w3.setCell ⟨D,i,none⟩ (.int .u8 ((q : Nat) : Int)) = W4 at *
      go_wp2
      go_roundw
      case rel=>exact ⟨i + 1,by omega,by go_num,E4.out⟩
      case measure=>simp [intOf];omega
     ·obtain rfl : i = n:=by omega
      have LN : Hid ((r.take i).length = i):=by unfold Hid;rw [List.length_take];have:=HLR.out;omega
      go_wp2
      go_ret
      refine ⟨_,i,i,r.take i,_,rfl,E1.out.1,E1.out.2.1,⟨LN.out,.inr ⟨D,0,rfl,E1.out.2.2.1.lt,fun j hj=>?_⟩⟩,by omega,Q.out⟩
      rw [Nat.zero_add]
      refine E1.out.2.2.1.cell j _ ?_
      rw [List.getElem?_toArray,List.getElem?_append_left (by rw [bcells_len];exact hj)]
      show ((r.take i).map _)[j]? = _
      rw [List.getElem?_map,List.getElem?_eq_getElem hj]
      rfl
/-- What a letter reads into a message. -/
noncomputable def fldP (c : Nat) (m : Mg) : Prs Mg :=
 if c = 98 then bindP balQ fun v=>pureP { m with ba:=v }
 else if c = 115 then bindP (numI 4) fun v=>pureP { m with sl:=v }
 else if c = 104 then bindP yesP fun h=>if h = true then bindP balQ fun v=>bindP cmF fun k=>pureP { m with has:=h,vo:=v,cm:=k } else pureP { m with has:=h }
 else if c = 99 then bindP cmF fun v=>pureP { m with cm:=v }
 else if c = 116 then bindP txnF fun v=>pureP { m with tx:=v }
 else if c = 105 then bindP idQ fun v=>pureP { m with id:=v }
 else if c = 103 then bindP (numI 1) fun v=>pureP { m with g:=v }
 else if c = 112 then bindP (numP 8) fun v=>pureP { m with st:=v }
 else if c = 121 then bindP yesP fun v=>pureP { m with y:=v }
 else if c = 110 then bindP (numI 4) fun v=>pureP { m with nu:=v }
 else if c = 107 then bindP (textP 12) fun v=>pureP { m with key:=v }
 else if c = 118 then bindP (numP 8) fun v=>pureP { m with ver:=v }
 else if c = 120 then bindP valP fun v=>pureP { m with val:=v }
 else if c = 101 then bindP (numI 1) fun v=>pureP { m with err:=v }
 else if c = 100 then bindP dataQ fun v=>pureP { m with data:=v }
 else pureP m
/-- The letters whose fields hold lists. -/
def IsList (c : Nat) : Prop:=c = 104∨c = 99∨c = 116∨c = 100
/-- No lists, no data. -/
def Bare (x : MgM) : Prop:=x.cm = zeroM∧(x.a = none∧x.n = 0∧x.b = none∧x.m = 0)∧x.dn = 0
theorem Bare.at_ {x : MgM} {W : World} (h : Bare x) (hn : MgN x) : MgAt W x noL:=by
 obtain ⟨h1,⟨h2,h3,h4,h5⟩,h6⟩:=h
 refine ⟨?_,?_,?_,hn⟩
 ·rw [h1];exact CmAt.zero
 ·rw [h2,h3,h4,h5];exact TxAt.nil
 ·exact ⟨h6.symm,.inl h6⟩
theorem Bare.f {x : MgM} (h : Bare x) : MgF x:=by
 obtain ⟨h1,⟨h2,h3,h4,h5⟩,h6⟩:=h
 exact ⟨by rw [h1];exact Nat.zero_le _,by rw [h1];exact Nat.zero_le _,by omega,by omega,by omega⟩
/-- The reader, the message's box; nothing but what the call has made was changed. -/
structure RdB (w V : World) (g G : Nat) (st : St) (cs : Array Value) (W : World) : Prop where
 rd : RS g st W
 bx : BoxC W G cs 40
 bel : Below w.heap.size w W
 ge : w.heap.size≤g
 lt : g < G
 els : V.heap.size≤W.heap.size∧∀ b,b < V.heap.size→b≠g→b≠G→W.heap[b]? = V.heap[b]?
section
variable {w V W W' : World} {g G : Nat} {st st' : St} {cs : Array Value}
theorem RdB.only (h : RdB w V g G st cs W) (hr : RS g st' W') (ho : Only g W W') : RdB w V g G st' cs W' :=
 ⟨hr,h.bx.only ho (by have:=h.lt;omega),Only.below h.bel ho h.ge h.bel.size,h.ge,h.lt,Nat.le_trans h.els.1 ho.size,fun b hb h1 h2=>(ho.block b (Nat.lt_of_lt_of_le hb h.els.1) (fun e=>by injection e with e;exact h1 e)).trans (h.els.2 b hb h1 h2)⟩
theorem RdB.set (h : RdB w V g G st cs W) (i : Nat) (u : Value) : RdB w V g G st (cs.setIfInBounds i u) (W.setCell ⟨G,i,none⟩ u) :=
 ⟨Keep.keep (g:=g) W _ h.rd fun b hb=>Below.heap_setCell _ _ _ _ (by have:=h.lt;show b≠G;omega),h.bx.set i u,h.bel.setCell (by have:=h.lt;have:=h.ge;show w.heap.size≤G;omega) u,h.ge,h.lt,by have:=h.els.1;simpa [World.setCell] using this,fun b hb h1 h2=>(Below.heap_setCell _ _ _ _ (by show b≠G;exact h2)).trans (h.els.2 b hb h1 h2)⟩
theorem RdB.eq {ds : Array Value} (h : RdB w V g G st cs W) (e : cs = ds) : RdB w V g G st ds W:=e ▸ h
theorem RdB.base (h : RdB w V g G st cs W) : RdB w W g G st cs W:=⟨h.rd,h.bx,h.bel,h.ge,h.lt,Nat.le_refl _,fun _ _ _ _=>rfl⟩
theorem RdB.tabs (h : RdB w V g G st cs W) (hU : Tabs w) : Tabs W:=hU.below h.bel
end
/-- No cell of it is a text but the empty one. -/
def Mute (cs : Array Value) : Prop := ∀ (i : Nat) (z : ByteArray),cs[i]? = some (.string z)→z = ⟨#[]⟩
theorem Mute.set {cs : Array Value} (h : Mute cs) (i : Nat) (u : Value) (hu : ∀ z,u≠.string z) : Mute (cs.setIfInBounds i u):=by
 intro j z e
 rw [Array.getElem?_setIfInBounds] at e
 split at e
 ·split at e
  ·injection e with e;exact absurd e (hu z)
  ·cases e
 ·exact h j z e
theorem mute_mg (x : MgM) (h1 : x.key = ⟨#[]⟩) (h2 : x.vt = ⟨#[]⟩) : Mute (mgV x):=by
 intro i z e
 have:=Array.mem_of_getElem? e
 simp [mgV] at this
 rcases this with h | h
 ·rw [h,h1]
 ·rw [h,h2]
/-- The first texts of the lists are not empty. -/
def Fst (rs : List RdM) (ws : List WrM) : Prop:=(∀ x ∈ rs,x.1≠⟨#[]⟩)∧∀ x ∈ ws,x.key≠⟨#[]⟩
theorem RowAt.mute_far {W : World} {G : Nat} {cs : Array Value} {t : TypeId} {B n k : Nat} {a : Option Addr} {xs : List Value} (h : RowAt W B a n k xs) (hs : n≠0→∃ z,xs[0]? = some (.string z)∧z≠⟨#[]⟩) (hb : BoxC W G cs t) (hn : Mute cs) (i : Nat) (u : Value) : RowAt (W.setCell ⟨G,i,none⟩ u) B a n k xs:=by
 rcases h with ⟨hl,h | ⟨b,off,ha,hb',hc⟩⟩
 ·exact ⟨hl,.inl h⟩
 ·by_cases h0 : n = 0
  ·exact ⟨hl,.inl h0⟩
  ·obtain ⟨z,hz,hz2⟩:=hs h0
   have h1:=hc 0 _ hz
   have hne : b≠G:=by
    rintro rfl
    rw [cell_of_row _ _ _ _ _ _ hb] at h1
    exact hz2 (hn _ _ h1)
   exact ⟨hl,.inr ⟨b,off,ha,hb',fun j v hv=>(World.cell?_of_block (Below.heap_setCell _ _ _ _ hne)).trans (hc j v hv)⟩⟩
/-- A box with only empty texts beside lists whose first texts aren't. -/
structure MuT (W : World) (G : Nat) (cs : Array Value) (a : Option Addr) (n : Nat) (b : Option Addr) (m : Nat) (rs : List RdM) (ws : List WrM) : Prop where
 bx : BoxC W G cs 40
 mu : Mute cs
 tx : TxAt W a n b m rs ws
 fs : Fst rs ws
theorem MuT.set {W : World} {G : Nat} {cs : Array Value} {a b : Option Addr} {n m : Nat} {rs : List RdM} {ws : List WrM} (h : MuT W G cs a n b m rs ws) (i : Nat) (u : Value) (hu : ∀ z,u≠.string z) : MuT (W.setCell ⟨G,i,none⟩ u) G (cs.setIfInBounds i u) a n b m rs ws:=by
 refine ⟨h.bx.set i u,h.mu.set i u hu,?_,h.fs⟩
 have e : (W.setCell ⟨G,i,none⟩ u).heap.size = W.heap.size:=by simp
 refine ⟨⟨⟨h.tx.lenR,?_⟩,⟨h.tx.lenW,?_⟩⟩,h.tx.okR,h.tx.okW⟩
 ·rw [e]
  refine h.tx.rds.2.mute_far (fun h0=>?_) h.bx h.mu i u
  have h1:=h.tx.lenR
  have h2:=h.fs.1
  match rs with
  | []=>exact absurd h1.symm h0
  | x :: r=>exact ⟨x.1,rfl,h2 x (List.mem_cons_self ..)⟩
 ·rw [e]
  refine h.tx.wrs.2.mute_far (fun h0=>?_) h.bx h.mu i u
  have h1:=h.tx.lenW
  have h2:=h.fs.2
  match ws with
  | []=>exact absurd h1.symm h0
  | x :: r=>exact ⟨x.key,rfl,h2 x (List.mem_cons_self ..)⟩
theorem fst_txn {i : IdN} {rs : List RdM} {ws : List WrM} (h : formT formedB (txT i rs ws) = true) : Fst rs ws:=by
 have hf:=(formT_iff _ _).1 h
 have h1 : ∀ x ∈ rs,keyB x.1.data.toList = true:=fun x hx=>List.all_eq_true.1 hf.rkeys _ (List.mem_map.2 ⟨(x.1.data.toList,x.2),List.mem_map.2 ⟨x,hx,rfl⟩,rfl⟩)
 have h2 : ∀ x ∈ ws,keyB x.key.data.toList = true:=fun x hx=>List.all_eq_true.1 hf.wkeys _ (List.mem_map.2 ⟨(x.key.data.toList,valM x),List.mem_map.2 ⟨x,hx,rfl⟩,rfl⟩)
 refine ⟨fun x hx e=>?_,fun x hx e=>?_⟩
 ·have:=h1 x hx
  rw [e] at this
  exact absurd this (by decide)
 ·have:=h2 x hx
  rw [e] at this
  exact absurd this (by decide)
theorem fst_nil : Fst [] []:=⟨(fun _ h=>by cases h),fun _ h=>by cases h⟩
theorem fst_zero {i : IdN} {rs : List RdM} {ws : List WrM} (h : txT i rs ws = zeroT) : Fst rs ws:=by
 unfold txT zeroT at h
 injection h with h1 h2 h3
 have e1 : rs = []:=by simpa [txR] using h2
 have e2 : ws = []:=by simpa [txW] using h3
 rw [e1,e2];exact fst_nil
theorem fst_cm {st st' : St} {x : CmM} {rs : List RdM} {ws : List WrM} (h : Res cmF st (cmT x rs ws) st') (h0 : st' = none→cmT x rs ws = zeroC) : Fst rs ws:=by
 have hz : cmT x rs ws = zeroC→Fst rs ws:=fun e=>by
  unfold cmT zeroC at e
  injection e with e1 e2
  exact fst_zero e2
 rcases h with ⟨l,r,_,hp,_⟩ | ⟨_,e⟩
 ·rcases form_kinds (guard_good hp) with e | ⟨e,_⟩ | ⟨_,e⟩ | ⟨_,e⟩
  ·exact hz e
  ·exact fst_txn e
  ·have e2:=congrArg Cm.t e
   exact fst_zero e2
  ·have e2:=congrArg Cm.t e
   exact fst_zero e2
 ·exact hz (h0 e)
theorem fst_tx {st st' : St} {i : IdN} {rs : List RdM} {ws : List WrM} (h : Res txnF st (txT i rs ws) st') (h0 : st' = none→rs = []∧ws = []) : Fst rs ws:=by
 rcases h with ⟨l,r,_,hp,_⟩ | ⟨_,e⟩
 ·exact fst_txn (guard_good hp)
 ·rw [(h0 e).1,(h0 e).2];exact fst_nil
/-- Bytes beside a box without bytes. -/
theorem BAt.box_far {W : World} {G : Nat} {cs : Array Value} {t : TypeId} {B n : Nat} {a : Option Addr} {l : List UInt8} (h : BAt W B a n l) (hb : BoxC W G cs t) (hn : ∀ (i : Nat) (z : Int),cs[i]?≠some (.int .u8 z)) (i : Nat) (u : Value) : BAt (W.setCell ⟨G,i,none⟩ u) B a n l:=by
 rcases h with ⟨hl,h | ⟨b,off,ha,hb',hc⟩⟩
 ·exact ⟨hl,.inl h⟩
 ·by_cases h0 : n = 0
  ·exact ⟨hl,.inl h0⟩
  ·have h1:=hc 0 (by omega)
   have hne : b≠G:=by
    rintro rfl
    rw [cell_of_row _ _ _ _ _ _ hb] at h1
    exact hn _ _ h1
   exact ⟨hl,.inr ⟨b,off,ha,hb',fun j hj=>(World.cell?_of_block (Below.heap_setCell _ _ _ _ hne)).trans (hc j hj)⟩⟩
theorem no_u8 (x : MgM) (i : Nat) (z : Int) : (mgV x)[i]?≠some (.int .u8 z):=by
 intro e
 have:=Array.mem_of_getElem? e
 simp [mgV] at this
theorem wrap_i64 (z : Nat) (h : z < 9223372036854775808) : IntKind.i64.wrap (z : Int) = z:=by
 simp [IntKind.wrap,IntKind.bits,IntKind.signed];omega
/-- A field is taken. -/
def FldR (w W : World) (g G : Nat) (st : St) (x : MgM) (c : Nat) (e : Ending) (W' : World) : Prop :=
 ∃ (y : MgM) (L : MgL) (st' : St),e = .returned (.tuple #[])∧RdB w W g G st' (mgV y) W'∧MgAt W' y L∧MgF y∧Res (fldP c (mgT x noL)) st (mgT y L) st'∧y.k = x.k∧(¬ IsList c→Bare y∧L = noL)∧(c≠107→y.key = x.key)∧(c≠120→y.vt = x.vt)
section
variable (w W : World) (g G : Nat) (st : St) (x : MgM)
theorem field_b (H : RdB w W g G st (mgV x) W) (hb : Bare x) (hn : MgN x) (hU : Tabs w) :
  Calls Tryz.prog 13 #[.pointer (some ⟨g,0,none⟩),.pointer (some ⟨G,0,none⟩),.int .i32 98] W (FldR w W g G st x 98):=by
 have c1:=bTakeS_any g st W H.rd
 have H0:=hid H
 have B0:=hid hb
 have N0:=hid hn
 clear H hb hn hU
 go_enter Tryz.func13,Tryz.ntmps13
 go_wp2_with (go_at_call 31;((with_reducible refine c1.mono ?_);rintro e w1 ⟨r,n,st1,rfl,hr1,ho1,hR1,hlt1⟩;have H1:=hid (H0.out.only hr1 ho1);have R1:=hid hR1;have y1:=H1.out.bx.cell 1 _ rfl;have f1:=H1.out.bx.frozen 1;have y2:=H1.out.bx.cell 2 _ rfl;have f2:=H1.out.bx.frozen 2;clear hr1 ho1 hR1))
 go_end0
 have hn:=N0.out
 have E1 : RdB w W g G st1 (mgV { x with br:=r,bn:=n }) _:=((H1.out.set 1 (.int .u32 ((r : Nat) : Int))).set 2 (.int .i64 n))
 refine ⟨{ x with br:=r,bn:=n },noL,st1,rfl,E1,Bare.at_ B0.out ⟨hlt1,hn.vr,hn.st,hn.ver,hn.vb,hn.key,hn.vt⟩,Bare.f B0.out,?_,rfl,fun _=>⟨B0.out,rfl⟩,fun h=>rfl,fun h=>rfl⟩
 exact Res.bind (x:=(((r : Nat) : Int),n)) R1.out (Res.pure _ _)
theorem field_s (H : RdB w W g G st (mgV x) W) (hb : Bare x) (hn : MgN x) (hU : Tabs w) :
  Calls Tryz.prog 13 #[.pointer (some ⟨g,0,none⟩),.pointer (some ⟨G,0,none⟩),.int .i32 115] W (FldR w W g G st x 115):=by
 have c1:=(show Calls Tryz.prog 11 #[.pointer (some ⟨g,0,none⟩),.int .i64 4] W (Took1 (RS g) g numV (numP 4) 0 st W) from takeS_any g 4 st W H.rd (by omega))
 have H0:=hid H
 have B0:=hid hb
 have N0:=hid hn
 clear H hb hn hU
 go_enter Tryz.func13,Tryz.ntmps13
 go_wp2_with (go_at_call 11;((with_reducible refine c1.mono ?_);rintro e w1 ⟨z,st1,rfl,hr1,ho1,hR1,hz1⟩;have H1:=hid (H0.out.only hr1 ho1);have R1:=hid hR1;have y3:=H1.out.bx.cell 3 _ rfl;have f3:=H1.out.bx.frozen 3;have hz : z < 4294967296:=num_lt hR1 hz1 (by decide);have ez:=wrap_i64 z (by omega);clear hz1;clear hr1 ho1 hR1))
 go_end0
 have hn:=N0.out
 have E1 : RdB w W g G st1 (mgV { x with sl:=((z : Nat) : Int) }) _:=(H1.out.set 3 (.int .i64 ((z : Nat) : Int)))
 refine ⟨{ x with sl:=((z : Nat) : Int) },noL,st1,rfl,E1,Bare.at_ B0.out ⟨hn.br,hn.vr,hn.st,hn.ver,hn.vb,hn.key,hn.vt⟩,Bare.f B0.out,?_,rfl,fun _=>⟨B0.out,rfl⟩,fun h=>rfl,fun h=>rfl⟩
 exact Res.bind (x:=((z : Nat) : Int)) (res_numI R1.out) (Res.pure _ _)
theorem field_i (H : RdB w W g G st (mgV x) W) (hb : Bare x) (hn : MgN x) (hU : Tabs w) :
  Calls Tryz.prog 13 #[.pointer (some ⟨g,0,none⟩),.pointer (some ⟨G,0,none⟩),.int .i32 105] W (FldR w W g G st x 105):=by
 have c1:=tTakeId_any g st W H.rd
 have H0:=hid H
 have B0:=hid hb
 have N0:=hid hn
 clear H hb hn hU
 go_enter Tryz.func13,Tryz.ntmps13
 go_wp2_with (go_at_call 35;((with_reducible refine c1.mono ?_);rintro e w1 ⟨⟨i,j⟩,st1,rfl,hr1,ho1,hR1,hz1⟩;have H1:=hid (H0.out.only hr1 ho1);have R1:=hid hR1;have y21:=H1.out.bx.cell 21 _ rfl;have f21:=H1.out.bx.frozen 21;have y22:=H1.out.bx.cell 22 _ rfl;have f22:=H1.out.bx.frozen 22;clear hz1;clear hr1 ho1 hR1))
 go_end0
 have hn:=N0.out
 have E1 : RdB w W g G st1 (mgV { x with i:=i,j:=j }) _:=((H1.out.set 21 (.int .i64 i)).set 22 (.int .i64 j))
 refine ⟨{ x with i:=i,j:=j },noL,st1,rfl,E1,Bare.at_ B0.out ⟨hn.br,hn.vr,hn.st,hn.ver,hn.vb,hn.key,hn.vt⟩,Bare.f B0.out,?_,rfl,fun _=>⟨B0.out,rfl⟩,fun h=>rfl,fun h=>rfl⟩
 exact Res.bind (x:=(i,j)) R1.out (Res.pure _ _)
theorem field_g (H : RdB w W g G st (mgV x) W) (hb : Bare x) (hn : MgN x) (hU : Tabs w) :
  Calls Tryz.prog 13 #[.pointer (some ⟨g,0,none⟩),.pointer (some ⟨G,0,none⟩),.int .i32 103] W (FldR w W g G st x 103):=by
 have c1:=(show Calls Tryz.prog 11 #[.pointer (some ⟨g,0,none⟩),.int .i64 1] W (Took1 (RS g) g numV (numP 1) 0 st W) from takeS_any g 1 st W H.rd (by omega))
 have H0:=hid H
 have B0:=hid hb
 have N0:=hid hn
 clear H hb hn hU
 go_enter Tryz.func13,Tryz.ntmps13
 go_wp2_with (go_at_call 11;((with_reducible refine c1.mono ?_);rintro e w1 ⟨z,st1,rfl,hr1,ho1,hR1,hz1⟩;have H1:=hid (H0.out.only hr1 ho1);have R1:=hid hR1;have y23:=H1.out.bx.cell 23 _ rfl;have f23:=H1.out.bx.frozen 23;have hz : z < 256:=num_lt hR1 hz1 (by decide);have ez:=wrap_i64 z (by omega);clear hz1;clear hr1 ho1 hR1))
 go_end0
 have hn:=N0.out
 have E1 : RdB w W g G st1 (mgV { x with g:=((z : Nat) : Int) }) _:=(H1.out.set 23 (.int .i64 ((z : Nat) : Int)))
 refine ⟨{ x with g:=((z : Nat) : Int) },noL,st1,rfl,E1,Bare.at_ B0.out ⟨hn.br,hn.vr,hn.st,hn.ver,hn.vb,hn.key,hn.vt⟩,Bare.f B0.out,?_,rfl,fun _=>⟨B0.out,rfl⟩,fun h=>rfl,fun h=>rfl⟩
 exact Res.bind (x:=((z : Nat) : Int)) (res_numI R1.out) (Res.pure _ _)
theorem field_p (H : RdB w W g G st (mgV x) W) (hb : Bare x) (hn : MgN x) (hU : Tabs w) :
  Calls Tryz.prog 13 #[.pointer (some ⟨g,0,none⟩),.pointer (some ⟨G,0,none⟩),.int .i32 112] W (FldR w W g G st x 112):=by
 have c1:=(show Calls Tryz.prog 11 #[.pointer (some ⟨g,0,none⟩),.int .i64 8] W (Took1 (RS g) g numV (numP 8) 0 st W) from takeS_any g 8 st W H.rd (by omega))
 have H0:=hid H
 have B0:=hid hb
 have N0:=hid hn
 clear H hb hn hU
 go_enter Tryz.func13,Tryz.ntmps13
 go_wp2_with (go_at_call 11;((with_reducible refine c1.mono ?_);rintro e w1 ⟨z,st1,rfl,hr1,ho1,hR1,hz1⟩;have H1:=hid (H0.out.only hr1 ho1);have R1:=hid hR1;have y24:=H1.out.bx.cell 24 _ rfl;have f24:=H1.out.bx.frozen 24;have hz : z < 18446744073709551616:=num_lt hR1 hz1 (by decide);clear hz1;clear hr1 ho1 hR1))
 go_end0
 have hn:=N0.out
 have E1 : RdB w W g G st1 (mgV { x with st:=z }) _:=(H1.out.set 24 (.int .u64 ((z : Nat) : Int)))
 refine ⟨{ x with st:=z },noL,st1,rfl,E1,Bare.at_ B0.out ⟨hn.br,hn.vr,hz,hn.ver,hn.vb,hn.key,hn.vt⟩,Bare.f B0.out,?_,rfl,fun _=>⟨B0.out,rfl⟩,fun h=>rfl,fun h=>rfl⟩
 exact Res.bind (x:=z) R1.out (Res.pure _ _)
theorem field_y (H : RdB w W g G st (mgV x) W) (hb : Bare x) (hn : MgN x) (hU : Tabs w) :
  Calls Tryz.prog 13 #[.pointer (some ⟨g,0,none⟩),.pointer (some ⟨G,0,none⟩),.int .i32 121] W (FldR w W g G st x 121):=by
 have c1:=gTakeFlag_any g st W H.rd
 have H0:=hid H
 have B0:=hid hb
 have N0:=hid hn
 clear H hb hn hU
 go_enter Tryz.func13,Tryz.ntmps13
 go_wp2_with (go_at_call 36;((with_reducible refine c1.mono ?_);rintro e w1 ⟨q,st1,rfl,hr1,ho1,hR1,hz1⟩;have H1:=hid (H0.out.only hr1 ho1);have R1:=hid hR1;have y25:=H1.out.bx.cell 25 _ rfl;have f25:=H1.out.bx.frozen 25;clear hz1;clear hr1 ho1 hR1))
 go_end0
 have hn:=N0.out
 have E1 : RdB w W g G st1 (mgV { x with y:=q }) _:=(H1.out.set 25 (.bool q))
 refine ⟨{ x with y:=q },noL,st1,rfl,E1,Bare.at_ B0.out ⟨hn.br,hn.vr,hn.st,hn.ver,hn.vb,hn.key,hn.vt⟩,Bare.f B0.out,?_,rfl,fun _=>⟨B0.out,rfl⟩,fun h=>rfl,fun h=>rfl⟩
 exact Res.bind (x:=q) R1.out (Res.pure _ _)
theorem field_n (H : RdB w W g G st (mgV x) W) (hb : Bare x) (hn : MgN x) (hU : Tabs w) :
  Calls Tryz.prog 13 #[.pointer (some ⟨g,0,none⟩),.pointer (some ⟨G,0,none⟩),.int .i32 110] W (FldR w W g G st x 110):=by
 have c1:=(show Calls Tryz.prog 11 #[.pointer (some ⟨g,0,none⟩),.int .i64 4] W (Took1 (RS g) g numV (numP 4) 0 st W) from takeS_any g 4 st W H.rd (by omega))
 have H0:=hid H
 have B0:=hid hb
 have N0:=hid hn
 clear H hb hn hU
 go_enter Tryz.func13,Tryz.ntmps13
 go_wp2_with (go_at_call 11;((with_reducible refine c1.mono ?_);rintro e w1 ⟨z,st1,rfl,hr1,ho1,hR1,hz1⟩;have H1:=hid (H0.out.only hr1 ho1);have R1:=hid hR1;have y26:=H1.out.bx.cell 26 _ rfl;have f26:=H1.out.bx.frozen 26;have hz : z < 4294967296:=num_lt hR1 hz1 (by decide);have ez:=wrap_i64 z (by omega);clear hz1;clear hr1 ho1 hR1))
 go_end0
 have hn:=N0.out
 have E1 : RdB w W g G st1 (mgV { x with nu:=((z : Nat) : Int) }) _:=(H1.out.set 26 (.int .i64 ((z : Nat) : Int)))
 refine ⟨{ x with nu:=((z : Nat) : Int) },noL,st1,rfl,E1,Bare.at_ B0.out ⟨hn.br,hn.vr,hn.st,hn.ver,hn.vb,hn.key,hn.vt⟩,Bare.f B0.out,?_,rfl,fun _=>⟨B0.out,rfl⟩,fun h=>rfl,fun h=>rfl⟩
 exact Res.bind (x:=((z : Nat) : Int)) (res_numI R1.out) (Res.pure _ _)
theorem field_k (H : RdB w W g G st (mgV x) W) (hb : Bare x) (hn : MgN x) (hU : Tabs w) :
  Calls Tryz.prog 13 #[.pointer (some ⟨g,0,none⟩),.pointer (some ⟨G,0,none⟩),.int .i32 107] W (FldR w W g G st x 107):=by
 have c1:=(show Calls Tryz.prog 37 #[.pointer (some ⟨g,0,none⟩),.int .i64 12] W (Took1 (RS g) g textV (textP 12) [] st W) from takeTextS_any g 12 st W H.rd)
 have H0:=hid H
 have B0:=hid hb
 have N0:=hid hn
 clear H hb hn hU
 go_enter Tryz.func13,Tryz.ntmps13
 go_wp2_with (go_at_call 37;((with_reducible refine c1.mono ?_);rintro e w1 ⟨z,st1,rfl,hr1,ho1,hR1,hz1⟩;have H1:=hid (H0.out.only hr1 ho1);have R1:=hid hR1;have y27:=H1.out.bx.cell 27 _ rfl;have f27:=H1.out.bx.frozen 27;have hz : z.length≤12:=text_le hR1 hz1;clear hz1;clear hr1 ho1 hR1))
 go_end0
 have hn:=N0.out
 have E1 : RdB w W g G st1 (mgV { x with key:=⟨z.toArray⟩ }) _:=(H1.out.set 27 (.string ⟨z.toArray⟩))
 refine ⟨{ x with key:=⟨z.toArray⟩ },noL,st1,rfl,E1,Bare.at_ B0.out ⟨hn.br,hn.vr,hn.st,hn.ver,hn.vb,(by show z.toArray.size≤maxLen;rw [List.size_toArray];unfold maxLen;omega),hn.vt⟩,Bare.f B0.out,?_,rfl,fun _=>⟨B0.out,rfl⟩,fun h=>(h rfl).elim,fun h=>rfl⟩
 exact Res.bind (x:=z) R1.out (Res.pure _ _)
theorem field_v (H : RdB w W g G st (mgV x) W) (hb : Bare x) (hn : MgN x) (hU : Tabs w) :
  Calls Tryz.prog 13 #[.pointer (some ⟨g,0,none⟩),.pointer (some ⟨G,0,none⟩),.int .i32 118] W (FldR w W g G st x 118):=by
 have c1:=(show Calls Tryz.prog 11 #[.pointer (some ⟨g,0,none⟩),.int .i64 8] W (Took1 (RS g) g numV (numP 8) 0 st W) from takeS_any g 8 st W H.rd (by omega))
 have H0:=hid H
 have B0:=hid hb
 have N0:=hid hn
 clear H hb hn hU
 go_enter Tryz.func13,Tryz.ntmps13
 go_wp2_with (go_at_call 11;((with_reducible refine c1.mono ?_);rintro e w1 ⟨z,st1,rfl,hr1,ho1,hR1,hz1⟩;have H1:=hid (H0.out.only hr1 ho1);have R1:=hid hR1;have y28:=H1.out.bx.cell 28 _ rfl;have f28:=H1.out.bx.frozen 28;have hz : z < 18446744073709551616:=num_lt hR1 hz1 (by decide);clear hz1;clear hr1 ho1 hR1))
 go_end0
 have hn:=N0.out
 have E1 : RdB w W g G st1 (mgV { x with ver:=z }) _:=(H1.out.set 28 (.int .u64 ((z : Nat) : Int)))
 refine ⟨{ x with ver:=z },noL,st1,rfl,E1,Bare.at_ B0.out ⟨hn.br,hn.vr,hn.st,hz,hn.vb,hn.key,hn.vt⟩,Bare.f B0.out,?_,rfl,fun _=>⟨B0.out,rfl⟩,fun h=>rfl,fun h=>rfl⟩
 exact Res.bind (x:=z) R1.out (Res.pure _ _)
theorem field_x (H : RdB w W g G st (mgV x) W) (hb : Bare x) (hn : MgN x) (hU : Tabs w) :
  Calls Tryz.prog 13 #[.pointer (some ⟨g,0,none⟩),.pointer (some ⟨G,0,none⟩),.int .i32 120] W (FldR w W g G st x 120):=by
 have c1:=takeVS_any g st W H.rd (H.tabs hU)
 have H0:=hid H
 have B0:=hid hb
 have N0:=hid hn
 clear H hb hn hU
 go_enter Tryz.func13,Tryz.ntmps13
 go_wp2_with (go_at_call 38;((with_reducible refine c1.mono ?_);rintro e w1 ⟨v,st1,rfl,hr1,ho1,hR1,hz1⟩;have H1:=hid (H0.out.only hr1 ho1);have R1:=hid hR1;have y29:=H1.out.bx.cell 29 _ rfl;have f29:=H1.out.bx.frozen 29;have y30:=H1.out.bx.cell 30 _ rfl;have f30:=H1.out.bx.frozen 30;have y31:=H1.out.bx.cell 31 _ rfl;have f31:=H1.out.bx.frozen 31;have hz:=val_lt hR1 hz1;clear hz1;clear hr1 ho1 hR1))
 go_end0
 have hn:=N0.out
 have E1 : RdB w W g G st1 (mgV { x with vk:=v.k,vb:=v.b,vt:=⟨v.t.toArray⟩ }) _:=(((H1.out.set 29 (.int .i64 v.k)).set 30 (.int .u64 ((v.b : Nat) : Int))).set 31 (.string ⟨v.t.toArray⟩))
 refine ⟨{ x with vk:=v.k,vb:=v.b,vt:=⟨v.t.toArray⟩ },noL,st1,rfl,E1,Bare.at_ B0.out ⟨hn.br,hn.vr,hn.st,hn.ver,hz.1,hn.key,(by show v.t.toArray.size≤maxLen;rw [List.size_toArray];have:=hz.2;unfold maxLen;omega)⟩,Bare.f B0.out,?_,rfl,fun _=>⟨B0.out,rfl⟩,fun h=>rfl,fun h=>(h rfl).elim⟩
 exact Res.bind (x:=v) R1.out (Res.pure _ _)
theorem field_e (H : RdB w W g G st (mgV x) W) (hb : Bare x) (hn : MgN x) (hU : Tabs w) :
  Calls Tryz.prog 13 #[.pointer (some ⟨g,0,none⟩),.pointer (some ⟨G,0,none⟩),.int .i32 101] W (FldR w W g G st x 101):=by
 have c1:=(show Calls Tryz.prog 11 #[.pointer (some ⟨g,0,none⟩),.int .i64 1] W (Took1 (RS g) g numV (numP 1) 0 st W) from takeS_any g 1 st W H.rd (by omega))
 have H0:=hid H
 have B0:=hid hb
 have N0:=hid hn
 clear H hb hn hU
 go_enter Tryz.func13,Tryz.ntmps13
 go_wp2_with (go_at_call 11;((with_reducible refine c1.mono ?_);rintro e w1 ⟨z,st1,rfl,hr1,ho1,hR1,hz1⟩;have H1:=hid (H0.out.only hr1 ho1);have R1:=hid hR1;have y32:=H1.out.bx.cell 32 _ rfl;have f32:=H1.out.bx.frozen 32;have hz : z < 256:=num_lt hR1 hz1 (by decide);have ez:=wrap_i64 z (by omega);clear hz1;clear hr1 ho1 hR1))
 go_end0
 have hn:=N0.out
 have E1 : RdB w W g G st1 (mgV { x with er:=((z : Nat) : Int) }) _:=(H1.out.set 32 (.int .i64 ((z : Nat) : Int)))
 refine ⟨{ x with er:=((z : Nat) : Int) },noL,st1,rfl,E1,Bare.at_ B0.out ⟨hn.br,hn.vr,hn.st,hn.ver,hn.vb,hn.key,hn.vt⟩,Bare.f B0.out,?_,rfl,fun _=>⟨B0.out,rfl⟩,fun h=>rfl,fun h=>rfl⟩
 exact Res.bind (x:=((z : Nat) : Int)) (res_numI R1.out) (Res.pure _ _)
end
section
variable (w W : World) (g G : Nat) (st : St) (x : MgM)
theorem field_c (H : RdB w W g G st (mgV x) W) (hb : Bare x) (hn : MgN x) (hU : Tabs w) (hk : x.key = ⟨#[]⟩) (hv : x.vt = ⟨#[]⟩) :
  Calls Tryz.prog 13 #[.pointer (some ⟨g,0,none⟩),.pointer (some ⟨G,0,none⟩),.int .i32 99] W (FldR w W g G st x 99):=by
 have c1:=kTake_any g st W H.rd (H.tabs hU)
 have H0:=hid H
 have B0:=hid hb
 have N0:=hid hn
 have U0:=hid (mute_mg x hk hv)
 clear H hb hn hU hk hv
 go_enter Tryz.func13,Tryz.ntmps13
 go_wp2_with (go_at_call 33;((with_reducible refine c1.mono ?_);rintro e w1 ⟨z,rs,ws,st1,rfl,hr1,ho1,hX1,hn1,hR1,hz1⟩;have H1:=hid (H0.out.only hr1 ho1);have R1:=hid hR1;have y7:=H1.out.bx.cell 7 _ rfl;have f7:=H1.out.bx.frozen 7;have y8:=H1.out.bx.cell 8 _ rfl;have f8:=H1.out.bx.frozen 8;have y9:=H1.out.bx.cell 9 _ rfl;have f9:=H1.out.bx.frozen 9;have y10:=H1.out.bx.cell 10 _ rfl;have f10:=H1.out.bx.frozen 10;have y11:=H1.out.bx.cell 11 _ rfl;have f11:=H1.out.bx.frozen 11;have y12:=H1.out.bx.cell 12 _ rfl;have f12:=H1.out.bx.frozen 12;have y13:=H1.out.bx.cell 13 _ rfl;have f13:=H1.out.bx.frozen 13;have y14:=H1.out.bx.cell 14 _ rfl;have f14:=H1.out.bx.frozen 14;have y15:=H1.out.bx.cell 15 _ rfl;have f15:=H1.out.bx.frozen 15;have y16:=H1.out.bx.cell 16 _ rfl;have f16:=H1.out.bx.frozen 16;have M1 : Hid (MuT w1 G (mgV x) z.a z.n z.b z.m rs ws):=⟨H1.out.bx,U0.out,hX1.tx,fst_cm hR1 hz1⟩;have S1:=hid hX1.st;have L1:=hid hn1;clear hz1 hX1 hn1;clear hr1 ho1 hR1))
 go_end0
 have hn:=N0.out
 have hb:=B0.out
 have E0:=((((((((((H1.out.set 7 (.int .i64 z.k)).set 8 (.int .i64 z.s)).set 9 (.int .i64 z.q)).set 10 (.slice z.a z.n z.c)).set 11 (.slice z.b z.m z.d)).set 12 (.int .i64 z.i)).set 13 (.int .i64 z.j)).set 14 (.int .i64 z.g)).set 15 (.int .u64 ((z.st : Nat) : Int))).set 16 (.bool z.y))
 have E1 : RdB w W g G st1 (mgV { x with cm:=z }) _:=E0.eq (by apply Array.ext';simp only [Array.toList_setIfInBounds];rfl)
 have TX:=((((((((((M1.out.set 7 (.int .i64 z.k) (by simp)).set 8 (.int .i64 z.s) (by simp)).set 9 (.int .i64 z.q) (by simp)).set 10 (.slice z.a z.n z.c) (by simp)).set 11 (.slice z.b z.m z.d) (by simp)).set 12 (.int .i64 z.i) (by simp)).set 13 (.int .i64 z.j) (by simp)).set 14 (.int .i64 z.g) (by simp)).set 15 (.int .u64 ((z.st : Nat) : Int)) (by simp)).set 16 (.bool z.y) (by simp))
 refine ⟨{ x with cm:=z },⟨rs,ws,[],[],[]⟩,st1,rfl,E1,⟨⟨TX.tx,S1.out⟩,(hb.at_ hn).tx,(hb.at_ hn).da,⟨hn.br,hn.vr,hn.st,hn.ver,hn.vb,hn.key,hn.vt⟩⟩,⟨Nat.le_trans L1.out.1 (by omega),Nat.le_trans L1.out.2 (by omega),hb.f.tn,hb.f.tm,hb.f.dn⟩,?_,rfl,fun h=>(h (.inr (.inl rfl))).elim,fun _=>rfl,fun _=>rfl⟩
 exact Res.bind (x:=cmT z rs ws) R1.out (Res.pure _ _)
theorem field_t (H : RdB w W g G st (mgV x) W) (hb : Bare x) (hn : MgN x) (hU : Tabs w) (hk : x.key = ⟨#[]⟩) (hv : x.vt = ⟨#[]⟩) :
  Calls Tryz.prog 13 #[.pointer (some ⟨g,0,none⟩),.pointer (some ⟨G,0,none⟩),.int .i32 116] W (FldR w W g G st x 116):=by
 have c1:=tTake_any g st W H.rd (H.tabs hU)
 have H0:=hid H
 have B0:=hid hb
 have N0:=hid hn
 have U0:=hid (mute_mg x hk hv)
 clear H hb hn hU hk hv
 go_enter Tryz.func13,Tryz.ntmps13
 go_wp2_with (go_at_call 34;((with_reducible refine c1.mono ?_);rintro e w1 ⟨s,q,a,n,c,b,m,d,rs,ws,st1,rfl,hr1,ho1,hX1,hn1,hR1,hz1⟩;have H1:=hid (H0.out.only hr1 ho1);have R1:=hid hR1;have y17:=H1.out.bx.cell 17 _ rfl;have f17:=H1.out.bx.frozen 17;have y18:=H1.out.bx.cell 18 _ rfl;have f18:=H1.out.bx.frozen 18;have y19:=H1.out.bx.cell 19 _ rfl;have f19:=H1.out.bx.frozen 19;have y20:=H1.out.bx.cell 20 _ rfl;have f20:=H1.out.bx.frozen 20;have M1 : Hid (MuT w1 G (mgV x) a n b m rs ws):=⟨H1.out.bx,U0.out,hX1,fst_tx hR1 (fun e=>(hz1 e).2)⟩;have L1:=hid hn1;clear hz1 hX1 hn1;clear hr1 ho1 hR1))
 go_end0
 have hn:=N0.out
 have hb:=B0.out
 have E0:=((((H1.out.set 17 (.int .i64 s)).set 18 (.int .i64 q)).set 19 (.slice a n c)).set 20 (.slice b m d))
 have E1 : RdB w W g G st1 (mgV { x with s:=s,q:=q,a:=a,n:=n,c:=c,b:=b,m:=m,d:=d }) _:=E0.eq (by apply Array.ext';simp only [Array.toList_setIfInBounds];rfl)
 have TX:=((((M1.out.set 17 (.int .i64 s) (by simp)).set 18 (.int .i64 q) (by simp)).set 19 (.slice a n c) (by simp)).set 20 (.slice b m d) (by simp))
 refine ⟨{ x with s:=s,q:=q,a:=a,n:=n,c:=c,b:=b,m:=m,d:=d },⟨[],[],rs,ws,[]⟩,st1,rfl,E1,⟨(hb.at_ hn).cm,TX.tx,(hb.at_ hn).da,⟨hn.br,hn.vr,hn.st,hn.ver,hn.vb,hn.key,hn.vt⟩⟩,⟨hb.f.n,hb.f.m,Nat.le_trans L1.out.1 (by omega),Nat.le_trans L1.out.2 (by omega),hb.f.dn⟩,?_,rfl,fun h=>(h (.inr (.inr (.inl rfl)))).elim,fun _=>rfl,fun _=>rfl⟩
 exact Res.bind (x:=txT (s,q) rs ws) R1.out (Res.pure _ _)
theorem field_d (H : RdB w W g G st (mgV x) W) (hb : Bare x) (hn : MgN x) (hU : Tabs w) (hk : x.key = ⟨#[]⟩) (hv : x.vt = ⟨#[]⟩) :
  Calls Tryz.prog 13 #[.pointer (some ⟨g,0,none⟩),.pointer (some ⟨G,0,none⟩),.int .i32 100] W (FldR w W g G st x 100):=by
 have c1:=gTakeData_any g st W H.rd
 have H0:=hid H
 have B0:=hid hb
 have N0:=hid hn
 have U0:=hid (mute_mg x hk hv)
 clear H hb hn hU hk hv
 go_enter Tryz.func13,Tryz.ntmps13
 go_wp2_with (go_at_call 39;((with_reducible refine c1.mono ?_);rintro e w1 ⟨a,m,c,d,st1,rfl,hr1,ho1,hX1,hm1,hR1⟩;have H1:=hid (H0.out.only hr1 ho1);have R1:=hid hR1;have y33:=H1.out.bx.cell 33 _ rfl;have f33:=H1.out.bx.frozen 33;have X1:=hid hX1;have L1:=hid hm1;clear hX1 hm1;clear hr1 ho1 hR1))
 go_end0
 have hn:=N0.out
 have hb:=B0.out
 have E0:=(H1.out.set 33 (.slice a m c))
 have E1 : RdB w W g G st1 (mgV { x with da:=a,dn:=m,dc:=c }) _:=E0.eq (by apply Array.ext';simp only [Array.toList_setIfInBounds];rfl)
 refine ⟨{ x with da:=a,dn:=m,dc:=c },⟨[],[],[],[],d⟩,st1,rfl,E1,⟨(hb.at_ hn).cm,(hb.at_ hn).tx,(by have:=X1.out.box_far H1.out.bx (no_u8 x) 33 (.slice a m c);simpa using this),⟨hn.br,hn.vr,hn.st,hn.ver,hn.vb,hn.key,hn.vt⟩⟩,⟨hb.f.n,hb.f.m,hb.f.tn,hb.f.tm,Nat.le_trans L1.out (by omega)⟩,?_,rfl,fun h=>(h (.inr (.inr (.inr rfl)))).elim,fun _=>rfl,fun _=>rfl⟩
 exact Res.bind (x:=d) R1.out (Res.pure _ _)
end
section
variable (w W : World) (g G : Nat) (st : St) (x : MgM)
theorem takeVote_any (H : RdB w W g G st (mgV x) W) (hb : Bare x) (hn : MgN x) (hU : Tabs w) (hk : x.key = ⟨#[]⟩) (hv : x.vt = ⟨#[]⟩) :
  Calls Tryz.prog 32 #[.pointer (some ⟨g,0,none⟩),.pointer (some ⟨G,0,none⟩)] W (FldR w W g G st x 104):=by
 have c1:=gTakeFlag_any g st W H.rd
 have H0:=hid H
 have B0:=hid hb
 have N0:=hid hn
 have T0:=hid hU
 have U0:=hid (show x.key = ⟨#[]⟩∧x.vt = ⟨#[]⟩ from ⟨hk,hv⟩)
 clear H hb hn hU hk hv
 go_enter Tryz.func32,Tryz.ntmps32
 go_upto_region 1 with (go_at_call 36;((with_reducible refine c1.mono ?_);rintro e w1 ⟨q,st1,rfl,hr1,ho1,hR1,hz1⟩;have H1:=hid (H0.out.only hr1 ho1);have R1:=hid hR1;have y4:=H1.out.bx.cell 4 _ rfl;have f4:=H1.out.bx.frozen 4;clear hr1 ho1 hR1 hz1))
 have H2 : Hid (RdB w W g G st1 (mgV { x with has:=q }) (w1.setCell ⟨G,4,none⟩ (.bool q))):=H1.out.set 4 (.bool q)
 clear H1 c1 y4 f4 H0
 generalize w1.setCell ⟨G,4,none⟩ (.bool q) = W2 at *
 have y4 : W2.cell? ⟨G,4,none⟩ = some (.bool q):=H2.out.bx.cell 4 _ rfl
 cases q
 ·go_wp2
  go_end0
  have hn:=N0.out
  have hb : Bare { x with has:=false }:=B0.out
  refine ⟨{ x with has:=false },noL,st1,rfl,H2.out,hb.at_ ⟨hn.br,hn.vr,hn.st,hn.ver,hn.vb,hn.key,hn.vt⟩,hb.f,?_,rfl,fun h=>(h (.inl rfl)).elim,fun _=>rfl,fun _=>rfl⟩
  exact Res.bind (x:=false) R1.out (Res.pure _ _)
 ·have c2:=bTakeS_any g st1 W2 H2.out.rd
  go_upto_region 3 with (go_at_call 31;((with_reducible refine c2.mono ?_);rintro e w3 ⟨r,n,st2,rfl,hr3,ho3,hR3,hlt3⟩;have H3:=hid (H2.out.only hr3 ho3);have R3:=hid hR3;have L3:=hid hlt3;have yb5:=H3.out.bx.cell 5 _ rfl;have fb5:=H3.out.bx.frozen 5;have yb6:=H3.out.bx.cell 6 _ rfl;have fb6:=H3.out.bx.frozen 6;clear hr3 ho3 hR3 hlt3))
  have H4 : Hid (RdB w W g G st2 (mgV { x with has:=true,vr:=r,vn:=n }) ((w3.setCell ⟨G,5,none⟩ (.int .u32 ((r : Nat) : Int))).setCell ⟨G,6,none⟩ (.int .i64 n))):=(H3.out.set 5 (.int .u32 ((r : Nat) : Int))).set 6 (.int .i64 n)
  clear c2 H2 H3 y4 yb5 yb6 fb5 fb6
  generalize (w3.setCell ⟨G,5,none⟩ (.int .u32 ((r : Nat) : Int))).setCell ⟨G,6,none⟩ (.int .i64 n) = W4 at *
  have c4:=kTake_any g st2 W4 H4.out.rd (H4.out.tabs T0.out)
  go_wp2_with (go_at_call 33;((with_reducible refine c4.mono ?_);rintro e w5 ⟨z,rs,ws,st3,rfl,hr5,ho5,hX5,hn5,hR5,hz5⟩;have H5:=hid (H4.out.only hr5 ho5);have R5:=hid hR5;have yc7:=H5.out.bx.cell 7 _ rfl;have fc7:=H5.out.bx.frozen 7;have yc8:=H5.out.bx.cell 8 _ rfl;have fc8:=H5.out.bx.frozen 8;have yc9:=H5.out.bx.cell 9 _ rfl;have fc9:=H5.out.bx.frozen 9;have yc10:=H5.out.bx.cell 10 _ rfl;have fc10:=H5.out.bx.frozen 10;have yc11:=H5.out.bx.cell 11 _ rfl;have fc11:=H5.out.bx.frozen 11;have yc12:=H5.out.bx.cell 12 _ rfl;have fc12:=H5.out.bx.frozen 12;have yc13:=H5.out.bx.cell 13 _ rfl;have fc13:=H5.out.bx.frozen 13;have yc14:=H5.out.bx.cell 14 _ rfl;have fc14:=H5.out.bx.frozen 14;have yc15:=H5.out.bx.cell 15 _ rfl;have fc15:=H5.out.bx.frozen 15;have yc16:=H5.out.bx.cell 16 _ rfl;have fc16:=H5.out.bx.frozen 16;have M5 : Hid (MuT w5 G (mgV { x with has:=true,vr:=r,vn:=n }) z.a z.n z.b z.m rs ws):=⟨H5.out.bx,mute_mg _ U0.out.1 U0.out.2,hX5.tx,fst_cm hR5 hz5⟩;have S5:=hid hX5.st;have L5:=hid hn5;clear hr5 ho5 hX5 hn5 hR5 hz5))
  go_end0
  have hn:=N0.out
  have hb:=B0.out
  have E0:=((((((((((H5.out.set 7 (.int .i64 z.k)).set 8 (.int .i64 z.s)).set 9 (.int .i64 z.q)).set 10 (.slice z.a z.n z.c)).set 11 (.slice z.b z.m z.d)).set 12 (.int .i64 z.i)).set 13 (.int .i64 z.j)).set 14 (.int .i64 z.g)).set 15 (.int .u64 ((z.st : Nat) : Int))).set 16 (.bool z.y))
  have E1 : RdB w W g G st3 (mgV { x with has:=true,vr:=r,vn:=n,cm:=z }) _:=E0.eq (by apply Array.ext';simp only [Array.toList_setIfInBounds];rfl)
  have TX:=((((((((((M5.out.set 7 (.int .i64 z.k) (by simp)).set 8 (.int .i64 z.s) (by simp)).set 9 (.int .i64 z.q) (by simp)).set 10 (.slice z.a z.n z.c) (by simp)).set 11 (.slice z.b z.m z.d) (by simp)).set 12 (.int .i64 z.i) (by simp)).set 13 (.int .i64 z.j) (by simp)).set 14 (.int .i64 z.g) (by simp)).set 15 (.int .u64 ((z.st : Nat) : Int)) (by simp)).set 16 (.bool z.y) (by simp))
  refine ⟨{ x with has:=true,vr:=r,vn:=n,cm:=z },⟨rs,ws,[],[],[]⟩,st3,rfl,E1,⟨⟨TX.tx,S5.out⟩,(hb.at_ hn).tx,(hb.at_ hn).da,⟨hn.br,L3.out,hn.st,hn.ver,hn.vb,hn.key,hn.vt⟩⟩,⟨Nat.le_trans L5.out.1 (by omega),Nat.le_trans L5.out.2 (by omega),hb.f.tn,hb.f.tm,hb.f.dn⟩,?_,rfl,fun h=>(h (.inl rfl)).elim,fun _=>rfl,fun _=>rfl⟩
  exact Res.bind (x:=true) R1.out (Res.bind (x:=(((r : Nat) : Int),n)) R3.out (Res.bind (x:=cmT z rs ws) R5.out (Res.pure _ _)))
theorem field_h (H : RdB w W g G st (mgV x) W) (hb : Bare x) (hn : MgN x) (hU : Tabs w) (hk : x.key = ⟨#[]⟩) (hv : x.vt = ⟨#[]⟩) :
  Calls Tryz.prog 13 #[.pointer (some ⟨g,0,none⟩),.pointer (some ⟨G,0,none⟩),.int .i32 104] W (FldR w W g G st x 104):=by
 have c1:=takeVote_any w W g G st x H hb hn hU hk hv
 clear H hb hn hU hk hv
 go_enter Tryz.func13,Tryz.ntmps13
 go_wp2_with (go_at_call 32;((with_reducible refine c1.mono ?_);rintro e w1 ⟨y,L,st1,rfl,hq⟩;have Q1:=hid hq;clear hq))
 go_end0
 exact ⟨y,L,st1,rfl,Q1.out⟩
/-- Every letter. -/
theorem field_any (H : RdB w W g G st (mgV x) W) (hb : Bare x) (hn : MgN x) (hU : Tabs w) (c : Nat) (hc : IsLet c) (hk : IsList c→x.key = ⟨#[]⟩∧x.vt = ⟨#[]⟩) :
  Calls Tryz.prog 13 #[.pointer (some ⟨g,0,none⟩),.pointer (some ⟨G,0,none⟩),.int .i32 ((c : Nat) : Int)] W (FldR w W g G st x c):=by
 unfold IsLet at hc
 rcases hc with rfl | rfl | rfl | rfl | rfl | rfl | rfl | rfl | rfl | rfl | rfl | rfl | rfl | rfl | rfl
 ·exact field_b w W g G st x H hb hn hU
 ·exact field_s w W g G st x H hb hn hU
 ·exact field_h w W g G st x H hb hn hU (hk (.inl rfl)).1 (hk (.inl rfl)).2
 ·exact field_c w W g G st x H hb hn hU (hk (.inr (.inl rfl))).1 (hk (.inr (.inl rfl))).2
 ·exact field_t w W g G st x H hb hn hU (hk (.inr (.inr (.inl rfl)))).1 (hk (.inr (.inr (.inl rfl)))).2
 ·exact field_i w W g G st x H hb hn hU
 ·exact field_g w W g G st x H hb hn hU
 ·exact field_p w W g G st x H hb hn hU
 ·exact field_y w W g G st x H hb hn hU
 ·exact field_n w W g G st x H hb hn hU
 ·exact field_k w W g G st x H hb hn hU
 ·exact field_v w W g G st x H hb hn hU
 ·exact field_x w W g G st x H hb hn hU
 ·exact field_e w W g G st x H hb hn hU
 ·exact field_d w W g G st x H hb hn hU (hk (.inr (.inr (.inr rfl)))).1 (hk (.inr (.inr (.inr rfl)))).2
end
end Go.Proofs.YtigimmbdlhginaaGreatDoor
