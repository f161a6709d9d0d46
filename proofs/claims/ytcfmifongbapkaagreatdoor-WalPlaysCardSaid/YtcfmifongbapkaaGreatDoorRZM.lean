/- What came in, opened: a struct by value, whatever its fields; a list of elements of k cells, also as a field. No condition. What came in, opened: a struct of one-cell fields, by value. What came in, opened: a value by value. What came in, opened: a transaction by value. What came in, opened: an id, a transaction, as fields of a struct. What came in, opened: a record by value, a list of records. A script that came in, as mathematics. -/
import Derived.Test.YtcfmifongbapkaaGreatDoorRM
import Derived.Deep.Fields
import Derived.Deep.Slices
import Derived.Test.YtcfmifongbapkaaGreatDoorRC
import Derived.Test.YtcfmifongbapkaaGreatDoorRE
import Derived.Test.YtcfmifongbapkaaGreatDoorRZH
import Derived.Test.YtcfmifongbapkaaGreatDoorWalActs
namespace Go.Proofs.YtcfmifongbapkaaGreatDoor
set_option maxRecDepth 100000
open Go.ChangeShapes Go.WideShapes Go.ChangeAt Go.RowKit
section
variable {H : Type} {enc : TypeId×Value→H} {P : Program} {w : World} {base : Nat} {spare : Nat→Bool} {held : Bool}
/-- A struct's field: its cells. -/
theorem trod_field {t : TypeId} {fs : Array Field} {fuel : Nat} {cs : List Value} {x : DataW H×List MemPlace} (ht : P.underlying t = some (.struct fs)) (h : DataW.trod enc P w base spare held fuel t cs = some x) :
  ∀ (j : Nat) (f : Field),fs[j]? = some f→∃ (n : Nat) (y : DataW H×List MemPlace),DataW.trod enc P w base spare held n f.type ((cs.drop f.offset).take (P.cellsOf f.type)) = some y:=by
 obtain ⟨ys,n,_,_,_,hyl,hg⟩:=DataW.trod_struct ht h
 intro j f hj
 have hjl : j < ys.length:=by rw [hyl];exact (Array.getElem?_eq_some_iff.1 hj).1
 exact ⟨n,ys[j],(hg j f hj).trans (List.getElem?_eq_getElem hjl)⟩
/-- A list of elements of k cells each. -/
theorem trod_rowk {α : Type} (f : α→List Value) (Q : α→Prop) (k : Nat) (hk : 0 < k) (hf : ∀ x,(f x).length = k) {t e : TypeId} {fuel : Nat} {u : Value} {x : DataW H×List MemPlace} (ht : P.underlying t = some (.slice e)) (hc : P.cellsOf e = k) (h : DataW.trod enc P w base spare held fuel t [u] = some x)
  (hE : ∀ (n : Nat) (cs : List Value) (y : DataW H×List MemPlace),cs.length = k→DataW.trod enc P w base spare held n e cs = some y→∃ z : α,cs = f z∧Q z) :
  ∃ a n c,u = .slice a n c∧n≤c∧c≤maxLen∧∃ l : List α,l.length = n∧RowAt w w.heap.size a n k (l.flatMap f)∧∀ z ∈ l,Q z:=by
 rcases Deep.open_slice ht h with ⟨h0,_⟩ | ⟨ad,len,cap,m,n',D,Pl,h0,hb,hl,hm,hmm,_,hi⟩
 ·injection h0 with h0
  exact ⟨_,_,_,h0,Nat.le_refl _,by unfold maxLen;omega,[],rfl,RowAt.nil,fun z hz=>by cases hz⟩
 ·injection h0 with h0
  have hnm : len≤m:=by rw [hmm];split <;> omega
  have key : ∀ i, ∃ z : Option α,i < len→∃ z',z = some z'∧(∀ j,j < k→w.cell? ((ad.add (i * k)).add j) = (f z')[j]?)∧Q z':=by
   intro i
   by_cases hil : i < len
   ·obtain ⟨cs',h1,h2⟩:=hi i (by omega)
    rw [hc] at h1
    obtain ⟨_,hcl,hat⟩:=World.cells?_some h1
    obtain ⟨z,hz,hq⟩:=hE _ _ _ hcl h2
    exact ⟨some z,fun _=>⟨z,rfl,fun j hj=>by rw [hat j hj,hz],hq⟩⟩
   ·exact ⟨none,fun h=>absurd h hil⟩
  obtain ⟨Z,hZ⟩:=Classical.axiomOfChoice key
  by_cases h00 : len = 0
  ·subst h00
   exact ⟨_,_,_,h0,hl,hm,[],rfl,RowAt.nil,fun z hz=>by cases hz⟩
  ·obtain ⟨b,off,spot⟩:=ad
   obtain ⟨z0,_,hc0,_⟩:=hZ 0 (by omega)
   have hc00:=hc0 0 hk
   rw [List.getElem?_eq_getElem (by rw [hf];exact hk)] at hc00
   have hspot : spot = none:=by simpa [Addr.add] using World.cell?_spot hc00
   subst hspot
   have hbl : b < w.heap.size:=by simpa [Addr.add] using block_lt hc00
   have hlen : ((List.range len).filterMap Z).length = len∧∀ i,i < len→∃ z,((List.range len).filterMap Z)[i]? = some z∧Z i = some z:=by
    have : ∀ q,q≤len→((List.range q).filterMap Z).length = q∧∀ i,i < q→∃ z,((List.range q).filterMap Z)[i]? = some z∧Z i = some z:=by
     intro q
     induction q with
     | zero=>intro _;exact ⟨rfl,fun i hi=>by omega⟩
     | succ q ih =>
      intro hq
      obtain ⟨h1,h2⟩:=ih (by omega)
      obtain ⟨z,hz,_⟩:=hZ q (by omega)
      have e : (List.range (q + 1)).filterMap Z = (List.range q).filterMap Z ++ [z]:=by rw [List.range_succ,List.filterMap_append];simp [hz]
      refine ⟨by rw [e];simp [h1],fun i hi=>?_⟩
      rw [e]
      by_cases hik : i < q
      ·obtain ⟨z',hz',hz''⟩:=h2 i hik
       exact ⟨z',by rw [List.getElem?_append_left (by omega)];exact hz',hz''⟩
      ·obtain rfl : i = q:=by omega
       exact ⟨z,by rw [List.getElem?_append_right (by omega)];simp [h1],hz⟩
    exact this len (Nat.le_refl _)
   refine ⟨_,_,_,h0,hl,hm,(List.range len).filterMap Z,hlen.1,⟨by rw [flat_len f k hf,hlen.1],.inr ⟨b,off,rfl,hbl,fun j u hu=>?_⟩⟩,fun z hz=>?_⟩
   ·have hj : j < len * k:=by
     rcases Nat.lt_or_ge j (len * k) with h | h
     ·exact h
     ·rw [List.getElem?_eq_none (by rw [flat_len f k hf,hlen.1];exact h)] at hu;cases hu
    have hq : j / k < len:=Nat.div_lt_of_lt_mul (by rw [Nat.mul_comm];exact hj)
    have hr : j % k < k:=Nat.mod_lt _ hk
    have ej : j / k * k + j % k = j:=by rw [Nat.mul_comm];exact Nat.div_add_mod j k
    obtain ⟨z,h1,h2⟩:=hlen.2 (j / k) hq
    obtain ⟨z',h3,h4,_⟩:=hZ (j / k) hq
    rw [h2] at h3;injection h3 with h3;subst h3
    have e:=flat_get f k hf ((List.range len).filterMap Z) (j / k) (j % k) (by rw [hlen.1];exact hq) hr
    have ez : ((List.range len).filterMap Z)[j / k]'(by rw [hlen.1];exact hq) = z:=by
     have:=List.getElem?_eq_getElem (l:=(List.range len).filterMap Z) (i:=j / k) (by rw [hlen.1];exact hq)
     rw [h1] at this;injection this with this;exact this.symm
    rw [ej,hu,ez] at e
    have h5:=h4 (j % k) hr
    rw [add_plain,add_plain,Nat.add_assoc,ej] at h5
    rw [h5,← e]
   ·obtain ⟨i,hi',hz'⟩:=List.mem_filterMap.1 hz
    have hi2 : i < len:=by simpa using hi'
    obtain ⟨z',h3,_,h5⟩:=hZ i hi2
    rw [h3] at hz';injection hz' with hz';subst hz'
    exact h5
end
section
variable {H : Type} {enc : TypeId×Value→H} {P : Program} {w : World} {base : Nat} {spare : Nat→Bool} {held : Bool}
end
theorem u64_of {x : Int} (wx : (Lit.int .u64 x).wf = true) : ∃ n : Nat,x = (n : Int)∧n < 18446744073709551616:=by
 have bx : 0≤x∧x < 18446744073709551616:=by simp [Lit.wf,IntKind.min,IntKind.max,IntKind.bits,IntKind.signed] at wx;omega
 obtain ⟨x,rfl⟩:=Int.eq_ofNat_of_zero_le bx.1
 exact ⟨x,rfl,by omega⟩
section
variable {H : Type} {enc : TypeId×Value→H} {w : World} {base b0 : Nat} {r : Reach} {spare : Nat→Bool} {held : Bool}
theorem trod_read (n : Nat) (cs : List Value) (y : DataW H×List MemPlace) (hl : cs.length = 2) (h : DataW.trod enc Tryz.prog w base spare held n 153 cs = some y) : ∃ z : RdM,cs = readC z∧RdOk z:=by
 match cs,hl with
 | [c0,c1],_ =>
  have hfd:=trod_field Tryz.underlying153 h
  obtain ⟨n0,y0,h0⟩:=hfd 0 _ rfl
  obtain ⟨n1,y1,h1⟩:=hfd 1 _ rfl
  have k0 : Tryz.prog.cellsOf 9 = 1:=by kernel_rfl
  have k1 : Tryz.prog.cellsOf 31 = 1:=by kernel_rfl
  replace h0 : DataW.trod enc Tryz.prog w base spare held n0 9 (([c0,c1].drop 0).take (Tryz.prog.cellsOf 9)) = some y0:=h0
  rw [k0] at h0
  replace h1 : DataW.trod enc Tryz.prog w base spare held n1 31 (([c0,c1].drop 1).take (Tryz.prog.cellsOf 31)) = some y1:=h1
  rw [k1] at h1
  obtain ⟨z,e0,_,hz⟩:=DataW.trod_string Tryz.underlying9 h0
  obtain ⟨x,e1,_,wx⟩:=DataW.trod_int Tryz.underlying31 h1
  simp at e0 e1
  subst e0;subst e1
  obtain ⟨x,rfl,hx⟩:=u64_of wx
  exact ⟨(z,x),rfl,hz,hx⟩
theorem trod_write (n : Nat) (cs : List Value) (y : DataW H×List MemPlace) (hl : cs.length = 4) (h : DataW.trod enc Tryz.prog w base spare held n 157 cs = some y) : ∃ z : WrM,cs = writeC z∧WrOk z:=by
 match cs,hl with
 | [c0,c1,c2,c3],_ =>
  have hfd:=trod_field Tryz.underlying157 h
  obtain ⟨n0,y0,h0⟩:=hfd 0 _ rfl
  obtain ⟨n1,y1,h1⟩:=hfd 1 _ rfl
  have k0 : Tryz.prog.cellsOf 9 = 1:=by kernel_rfl
  have k1 : Tryz.prog.cellsOf 155 = 3:=by kernel_rfl
  have k2 : Tryz.prog.cellsOf 31 = 1:=by kernel_rfl
  have k3 : Tryz.prog.cellsOf 3 = 1:=by kernel_rfl
  replace h0 : DataW.trod enc Tryz.prog w base spare held n0 9 (([c0,c1,c2,c3].drop 0).take (Tryz.prog.cellsOf 9)) = some y0:=h0
  rw [k0] at h0
  replace h1 : DataW.trod enc Tryz.prog w base spare held n1 155 (([c0,c1,c2,c3].drop 1).take (Tryz.prog.cellsOf 155)) = some y1:=h1
  rw [k1] at h1
  replace h1 : DataW.trod enc Tryz.prog w base spare held n1 155 [c1,c2,c3] = some y1:=h1
  have hfv:=trod_field Tryz.underlying155 h1
  obtain ⟨m0,u0,g0⟩:=hfv 0 _ rfl
  obtain ⟨m1,u1,g1⟩:=hfv 1 _ rfl
  obtain ⟨m2,u2,g2⟩:=hfv 2 _ rfl
  replace g0 : DataW.trod enc Tryz.prog w base spare held m0 3 (([c1,c2,c3].drop 0).take (Tryz.prog.cellsOf 3)) = some u0:=g0
  rw [k3] at g0
  replace g1 : DataW.trod enc Tryz.prog w base spare held m1 31 (([c1,c2,c3].drop 1).take (Tryz.prog.cellsOf 31)) = some u1:=g1
  rw [k2] at g1
  replace g2 : DataW.trod enc Tryz.prog w base spare held m2 9 (([c1,c2,c3].drop 2).take (Tryz.prog.cellsOf 9)) = some u2:=g2
  rw [k0] at g2
  obtain ⟨z,e0,_,hz⟩:=DataW.trod_string Tryz.underlying9 h0
  obtain ⟨x,e1,_,_⟩:=DataW.trod_int Tryz.underlying3 g0
  obtain ⟨u,e2,_,wu⟩:=DataW.trod_int Tryz.underlying31 g1
  obtain ⟨t,e3,_,ht⟩:=DataW.trod_string Tryz.underlying9 g2
  simp at e0 e1 e2 e3
  subst e0;subst e1;subst e2;subst e3
  obtain ⟨u,rfl,hu⟩:=u64_of wu
  exact ⟨⟨z,x,u,t⟩,rfl,hz,hu,ht⟩
end
section
variable {H : Type} {enc : TypeId×Value→H} {w : World} {base b0 : Nat} {r : Reach} {spare : Nat→Bool} {held : Bool}
theorem trod_id (n : Nat) (c0 c1 : Value) (y : DataW H×List MemPlace) (h : DataW.trod enc Tryz.prog w base spare held n 26 [c0,c1] = some y) : ∃ s q : Int,c0 = .int .i64 s∧c1 = .int .i64 q:=by
 have k3 : Tryz.prog.cellsOf 3 = 1:=by kernel_rfl
 have hfi:=trod_field Tryz.underlying26 h
 obtain ⟨m0,u0,g0⟩:=hfi 0 _ rfl
 obtain ⟨m1,u1,g1⟩:=hfi 1 _ rfl
 replace g0 : DataW.trod enc Tryz.prog w base spare held m0 3 (([c0,c1].drop 0).take (Tryz.prog.cellsOf 3)) = some u0:=g0
 rw [k3] at g0
 replace g1 : DataW.trod enc Tryz.prog w base spare held m1 3 (([c0,c1].drop 1).take (Tryz.prog.cellsOf 3)) = some u1:=g1
 rw [k3] at g1
 obtain ⟨s,e0,_,_⟩:=DataW.trod_int Tryz.underlying3 g0
 obtain ⟨q,e1,_,_⟩:=DataW.trod_int Tryz.underlying3 g1
 simp at e0 e1
 exact ⟨s,q,e0,e1⟩
theorem trod_txn (n : Nat) (c0 c1 c2 c3 : Value) (y : DataW H×List MemPlace) (hf : DataW.trod enc Tryz.prog w base spare held n 30 [c0,c1,c2,c3] = some y) :
  ∃ (s q : Int) (a : Option Addr) (n c : Nat) (b : Option Addr) (m e : Nat) (rs : List RdM) (ws : List WrM),(c0 = .int .i64 s∧c1 = .int .i64 q∧c2 = .slice a n c∧c3 = .slice b m e)∧TxAt w a n b m rs ws:=by
 have hfd:=trod_field Tryz.underlying30 hf
 obtain ⟨n0,y0,h0⟩:=hfd 0 _ rfl
 obtain ⟨n1,y1,h1⟩:=hfd 1 _ rfl
 obtain ⟨n2,y2,h2⟩:=hfd 2 _ rfl
 have k0 : Tryz.prog.cellsOf 26 = 2:=by kernel_rfl
 have k1 : Tryz.prog.cellsOf 27 = 1:=by kernel_rfl
 have k2 : Tryz.prog.cellsOf 28 = 1:=by kernel_rfl
 replace h0 : DataW.trod enc Tryz.prog w base spare held n0 26 (([c0,c1,c2,c3].drop 0).take (Tryz.prog.cellsOf 26)) = some y0:=h0
 rw [k0] at h0
 replace h1 : DataW.trod enc Tryz.prog w base spare held n1 27 (([c0,c1,c2,c3].drop 2).take (Tryz.prog.cellsOf 27)) = some y1:=h1
 rw [k1] at h1
 replace h2 : DataW.trod enc Tryz.prog w base spare held n2 28 (([c0,c1,c2,c3].drop 3).take (Tryz.prog.cellsOf 28)) = some y2:=h2
 rw [k2] at h2
 have h0' : DataW.trod enc Tryz.prog w base spare held n0 26 [c0,c1] = some y0:=h0
 obtain ⟨s,q,e0,e1⟩:=trod_id n0 c0 c1 y0 h0'
 have h1' : DataW.trod enc Tryz.prog w base spare held n1 27 [c2] = some y1:=h1
 have h2' : DataW.trod enc Tryz.prog w base spare held n2 28 [c3] = some y2:=h2
 obtain ⟨a,n,c,e2,hn,hnc,rs,hrl,hrr,hro⟩:=trod_rowk readC RdOk 2 (by omega) readC_len Tryz.underlying27 (by kernel_rfl) h1' trod_read
 obtain ⟨b,m,e,e3,hm,hme,ws,hwl,hwr,hwo⟩:=trod_rowk writeC WrOk 4 (by omega) writeC_len Tryz.underlying28 (by kernel_rfl) h2' trod_write
 exact ⟨s,q,a,n,c,b,m,e,rs,ws,⟨e0,e1,e2,e3⟩,⟨⟨hrl,hrr⟩,⟨hwl,hwr⟩⟩,hro,hwo⟩
end
set_option linter.unusedVariables false
set_option linter.unusedSimpArgs false
theorem u32_ofw {x : Int} (wx : (Lit.int .u32 x).wf = true) : ∃ n : Nat,x = (n : Int)∧n < 4294967296:=by
 have bx : 0≤x∧x < 4294967296:=by simp [Lit.wf,IntKind.min,IntKind.max,IntKind.bits,IntKind.signed] at wx;omega
 obtain ⟨x,rfl⟩:=Int.eq_ofNat_of_zero_le bx.1
 exact ⟨x,rfl,by omega⟩
theorem u8c_ofw {x : Int} (wx : (Lit.int .u8 x).wf = true) : ∃ c : UInt8,x = (c.toNat : Int):=by
 have bx : 0≤x∧x < 256:=by simp [Lit.wf,IntKind.min,IntKind.max,IntKind.bits,IntKind.signed] at wx;omega
 refine ⟨UInt8.ofNat x.toNat,?_⟩
 have e : (UInt8.ofNat x.toNat).toNat = x.toNat % 256:=UInt8.toNat_ofNat'
 rw [e];omega
section
variable {H : Type} {enc : TypeId×Value→H} {w : World} {base b0 : Nat} {r : Reach} {spare : Nat→Bool} {held : Bool}
theorem trod_bytesw (n : Nat) (u : Value) (y : DataW H×List MemPlace) (h : DataW.trod enc Tryz.prog w base spare held n 34 [u] = some y) : ∃ a m c l,u = .slice a m c∧BAt w w.heap.size a m l∧m≤c∧c≤maxLen:=by
 obtain ⟨a,m,c,e,hm,hc,l,hl,hr,_⟩:=trod_row1 (fun z : UInt8=>Value.int .u8 (z.toNat : Int)) (fun _=>True) Tryz.underlying34 (by kernel_rfl) h (fun k v y hv=>by
  obtain ⟨x,e,_,wx⟩:=DataW.trod_int Tryz.underlying5 hv
  simp at e
  obtain ⟨z,rfl⟩:=u8c_ofw wx
  exact ⟨z,e,trivial⟩)
 refine ⟨a,m,c,l,e,⟨hl,?_⟩,hm,hc⟩
 rcases hr.2 with h0 | ⟨b,off,ha,hb,hcell⟩
 ·exact .inl h0
 ·exact .inr ⟨b,off,ha,hb,fun i hi=>hcell i _ (by simp [List.getElem?_eq_getElem hi])⟩
theorem trod_balw (n : Nat) (c0 c1 : Value) (y : DataW H×List MemPlace) (h : DataW.trod enc Tryz.prog w base spare held n 24 [c0,c1] = some y) : ∃ (k : Nat) (j : Int),c0 = .int .u32 (k : Nat)∧c1 = .int .i64 j∧k < 4294967296:=by
 have k0 : Tryz.prog.cellsOf 22 = 1:=by kernel_rfl
 have k1 : Tryz.prog.cellsOf 3 = 1:=by kernel_rfl
 have hfi:=trod_field Tryz.underlying24 h
 obtain ⟨m0,u0,g0⟩:=hfi 0 _ rfl
 obtain ⟨m1,u1,g1⟩:=hfi 1 _ rfl
 replace g0 : DataW.trod enc Tryz.prog w base spare held m0 22 (([c0,c1].drop 0).take (Tryz.prog.cellsOf 22)) = some u0:=g0
 rw [k0] at g0
 replace g1 : DataW.trod enc Tryz.prog w base spare held m1 3 (([c0,c1].drop 1).take (Tryz.prog.cellsOf 3)) = some u1:=g1
 rw [k1] at g1
 obtain ⟨s,e0,_,ws⟩:=DataW.trod_int Tryz.underlying22 g0
 obtain ⟨q,e1,_,_⟩:=DataW.trod_int Tryz.underlying3 g1
 simp at e0 e1
 obtain ⟨s,rfl,hs⟩:=u32_ofw ws
 exact ⟨s,q,e0,e1,hs⟩
theorem trod_cmdw (n : Nat) (c0 c1 c2 c3 c4 c5 c6 c7 c8 c9 : Value) (y : DataW H×List MemPlace) (hf : DataW.trod enc Tryz.prog w base spare held n 33 [c0,c1,c2,c3,c4,c5,c6,c7,c8,c9] = some y) : ∃ (x : CmM) (rs : List RdM) (ws : List WrM),[c0,c1,c2,c3,c4,c5,c6,c7,c8,c9] = (cmV x).toList∧CmAt w x rs ws:=by
 have hfd:=trod_field Tryz.underlying33 hf
 obtain ⟨n0,y0,h0⟩:=hfd 0 _ rfl
 obtain ⟨n1,y1,h1⟩:=hfd 1 _ rfl
 obtain ⟨n2,y2,h2⟩:=hfd 2 _ rfl
 obtain ⟨n3,y3,h3⟩:=hfd 3 _ rfl
 obtain ⟨n4,y4,h4⟩:=hfd 4 _ rfl
 obtain ⟨n5,y5,h5⟩:=hfd 5 _ rfl
 have k0 : Tryz.prog.cellsOf 3 = 1:=by kernel_rfl
 have k1 : Tryz.prog.cellsOf 30 = 4:=by kernel_rfl
 have k2 : Tryz.prog.cellsOf 26 = 2:=by kernel_rfl
 have k4 : Tryz.prog.cellsOf 31 = 1:=by kernel_rfl
 have k5 : Tryz.prog.cellsOf 4 = 1:=by kernel_rfl
 replace h0 : DataW.trod enc Tryz.prog w base spare held n0 3 (([c0,c1,c2,c3,c4,c5,c6,c7,c8,c9].drop 0).take (Tryz.prog.cellsOf 3)) = some y0:=h0
 rw [k0] at h0
 replace h1 : DataW.trod enc Tryz.prog w base spare held n1 30 (([c0,c1,c2,c3,c4,c5,c6,c7,c8,c9].drop 1).take (Tryz.prog.cellsOf 30)) = some y1:=h1
 rw [k1] at h1
 replace h2 : DataW.trod enc Tryz.prog w base spare held n2 26 (([c0,c1,c2,c3,c4,c5,c6,c7,c8,c9].drop 5).take (Tryz.prog.cellsOf 26)) = some y2:=h2
 rw [k2] at h2
 replace h3 : DataW.trod enc Tryz.prog w base spare held n3 3 (([c0,c1,c2,c3,c4,c5,c6,c7,c8,c9].drop 7).take (Tryz.prog.cellsOf 3)) = some y3:=h3
 rw [k0] at h3
 replace h4 : DataW.trod enc Tryz.prog w base spare held n4 31 (([c0,c1,c2,c3,c4,c5,c6,c7,c8,c9].drop 8).take (Tryz.prog.cellsOf 31)) = some y4:=h4
 rw [k4] at h4
 replace h5 : DataW.trod enc Tryz.prog w base spare held n5 4 (([c0,c1,c2,c3,c4,c5,c6,c7,c8,c9].drop 9).take (Tryz.prog.cellsOf 4)) = some y5:=h5
 rw [k5] at h5
 have h1' : DataW.trod enc Tryz.prog w base spare held n1 30 [c1,c2,c3,c4] = some y1:=h1
 have h2' : DataW.trod enc Tryz.prog w base spare held n2 26 [c5,c6] = some y2:=h2
 obtain ⟨k,e0,_,_⟩:=DataW.trod_int Tryz.underlying3 h0
 obtain ⟨s,q,a,n,c,b,m,e,rs,ws,⟨e1,e2,e3,e4⟩,hT⟩:=trod_txn n1 c1 c2 c3 c4 y1 h1'
 obtain ⟨i,j,e5,e6⟩:=trod_id n2 c5 c6 y2 h2'
 obtain ⟨g,e7,_,_⟩:=DataW.trod_int Tryz.underlying3 h3
 obtain ⟨u,e8,_,wu⟩:=DataW.trod_int Tryz.underlying31 h4
 obtain ⟨x,e9,_⟩:=DataW.trod_bool Tryz.underlying4 h5
 simp at e0 e7 e8 e9
 subst e0;subst e1;subst e2;subst e3;subst e4;subst e5;subst e6;subst e7;subst e8;subst e9
 obtain ⟨u,rfl,hu⟩:=u64_of wu
 exact ⟨⟨k,s,q,a,n,c,b,m,e,i,j,g,u,x⟩,rs,ws,rfl,hT,hu⟩
theorem trod_rec (n : Nat) (cs : List Value) (y : DataW H×List MemPlace) (hl : cs.length = 15) (hf : DataW.trod enc Tryz.prog w base spare held n 36 cs = some y) : ∃ z : RE,cs = rcC z∧RcAt w z.1 z.2:=by
 match cs,hl with
 | [c0,c1,c2,c3,c4,c5,c6,c7,c8,c9,c10,c11,c12,c13,c14],_ =>
  have hfd:=trod_field Tryz.underlying36 hf
  obtain ⟨n0,y0,h0⟩:=hfd 0 _ rfl
  obtain ⟨n1,y1,h1⟩:=hfd 1 _ rfl
  obtain ⟨n2,y2,h2⟩:=hfd 2 _ rfl
  obtain ⟨n3,y3,h3⟩:=hfd 3 _ rfl
  obtain ⟨n4,y4,h4⟩:=hfd 4 _ rfl
  have k0 : Tryz.prog.cellsOf 3 = 1:=by kernel_rfl
  have k1 : Tryz.prog.cellsOf 24 = 2:=by kernel_rfl
  have k2 : Tryz.prog.cellsOf 33 = 10:=by kernel_rfl
  have k3 : Tryz.prog.cellsOf 34 = 1:=by kernel_rfl
  replace h0 : DataW.trod enc Tryz.prog w base spare held n0 3 (([c0,c1,c2,c3,c4,c5,c6,c7,c8,c9,c10,c11,c12,c13,c14].drop 0).take (Tryz.prog.cellsOf 3)) = some y0:=h0
  rw [k0] at h0
  replace h1 : DataW.trod enc Tryz.prog w base spare held n1 24 (([c0,c1,c2,c3,c4,c5,c6,c7,c8,c9,c10,c11,c12,c13,c14].drop 1).take (Tryz.prog.cellsOf 24)) = some y1:=h1
  rw [k1] at h1
  replace h2 : DataW.trod enc Tryz.prog w base spare held n2 3 (([c0,c1,c2,c3,c4,c5,c6,c7,c8,c9,c10,c11,c12,c13,c14].drop 3).take (Tryz.prog.cellsOf 3)) = some y2:=h2
  rw [k0] at h2
  replace h3 : DataW.trod enc Tryz.prog w base spare held n3 33 (([c0,c1,c2,c3,c4,c5,c6,c7,c8,c9,c10,c11,c12,c13,c14].drop 4).take (Tryz.prog.cellsOf 33)) = some y3:=h3
  rw [k2] at h3
  replace h4 : DataW.trod enc Tryz.prog w base spare held n4 34 (([c0,c1,c2,c3,c4,c5,c6,c7,c8,c9,c10,c11,c12,c13,c14].drop 14).take (Tryz.prog.cellsOf 34)) = some y4:=h4
  rw [k3] at h4
  have h1' : DataW.trod enc Tryz.prog w base spare held n1 24 [c1,c2] = some y1:=h1
  have h3' : DataW.trod enc Tryz.prog w base spare held n3 33 [c4,c5,c6,c7,c8,c9,c10,c11,c12,c13] = some y3:=h3
  have h4' : DataW.trod enc Tryz.prog w base spare held n4 34 [c14] = some y4:=h4
  obtain ⟨k,e0,_,_⟩:=DataW.trod_int Tryz.underlying3 h0
  obtain ⟨br,bn,e1,e2,hbr⟩:=trod_balw n1 c1 c2 y1 h1'
  obtain ⟨sl,e3,_,_⟩:=DataW.trod_int Tryz.underlying3 h2
  obtain ⟨x,rs,ws,e4,hX⟩:=trod_cmdw n3 c4 c5 c6 c7 c8 c9 c10 c11 c12 c13 y3 h3'
  obtain ⟨a,m,c,l,e14,hl,_,_⟩:=trod_bytesw n4 c14 y4 h4'
  simp at e0 e3
  have hx : [c4,c5,c6,c7,c8,c9,c10,c11,c12,c13] = [.int .i64 x.k,.int .i64 x.s,.int .i64 x.q,.slice x.a x.n x.c,.slice x.b x.m x.d,.int .i64 x.i,.int .i64 x.j,.int .i64 x.g,.int .u64 ((x.st : Nat) : Int),.bool x.y]:=e4
  simp only [List.cons.injEq,and_true] at hx
  obtain ⟨f0,f1,f2,f3,f4,f5,f6,f7,f8,f9⟩:=hx
  refine ⟨(⟨k,br,bn,sl,x,a,m,c⟩,⟨rs,ws,l⟩),?_,hX,hl,hbr⟩
  rw [e0,e1,e2,e3,f0,f1,f2,f3,f4,f5,f6,f7,f8,f9,e14];rfl
theorem trod_records (fuel : Nat) (u : Value) (y : DataW H×List MemPlace) (hf : DataW.trod enc Tryz.prog w base spare held fuel 39 [u] = some y) :
  ∃ a n c L,u = .slice a n c∧n≤c∧c≤maxLen∧RcsRaw w a n L:=by
 obtain ⟨a,n,c,e,hn,hc,L,hl,hr,hz⟩:=trod_rowk rcC (fun z : RE=>RcAt w z.1 z.2) 15 (by omega) rcC_len Tryz.underlying39 (by kernel_rfl) hf trod_rec
 exact ⟨a,n,c,L,e,hn,hc,hl,hr,hz⟩
end
/-- An Op: its kind, its number, its records, its bytes. -/
structure WoM where
 k : Int
 n : Int
 la : Option Addr
 ln : Nat
 lc : Nat
 L : List RE
 a : Option Addr
 m : Nat
 c : Nat
 l : List UInt8
abbrev woC (x : WoM) : List Value:=[.int .i64 x.k,.int .i64 x.n,.slice x.la x.ln x.lc,.slice x.a x.m x.c]
/-- A number of 64 bits. -/
def InD (x : Int) : Prop := -9223372036854775808≤x∧x < 9223372036854775808
theorem inD_of {x : Int} (h : (Lit.int .i64 x).wf = true) : InD x:=by
 simp [Lit.wf,IntKind.min,IntKind.max,IntKind.bits,IntKind.signed] at h
 unfold InD
 omega
def WoW (w : World) (x : WoM) : Prop:=RcsRaw w x.la x.ln x.L∧x.ln≤x.lc∧x.lc≤maxLen∧BAt w w.heap.size x.a x.m x.l∧x.m≤maxLen∧InD x.n
theorem woC_len (x : WoM) : (woC x).length = 4:=rfl
section
variable {H : Type} {enc : TypeId×Value→H} {w : World} {base : Nat} {spare : Nat→Bool} {held : Bool} {r : Reach} {b0 : Nat}
theorem trod_wo (n : Nat) (cs : List Value) (y : DataW H×List MemPlace) (hl : cs.length = 4) (h : DataW.trod enc Tryz.prog w base spare held n 69 cs = some y) : ∃ x : WoM,cs = woC x∧WoW w x:=by
 match cs,hl with
 | [c0,c1,c2,c3],_ =>
  have k3 : Tryz.prog.cellsOf 3 = 1:=by kernel_rfl
  have k4 : Tryz.prog.cellsOf 39 = 1:=by kernel_rfl
  have k5 : Tryz.prog.cellsOf 34 = 1:=by kernel_rfl
  have hfi:=trod_field Tryz.underlying69 h
  obtain ⟨m0,u0,g0⟩:=hfi 0 _ rfl
  obtain ⟨m1,u1,g1⟩:=hfi 1 _ rfl
  obtain ⟨m2,u2,g2⟩:=hfi 2 _ rfl
  obtain ⟨m3,u3,g3⟩:=hfi 3 _ rfl
  replace g0 : DataW.trod enc Tryz.prog w base spare held m0 3 (([c0,c1,c2,c3].drop 0).take (Tryz.prog.cellsOf 3)) = some u0:=g0
  replace g1 : DataW.trod enc Tryz.prog w base spare held m1 3 (([c0,c1,c2,c3].drop 1).take (Tryz.prog.cellsOf 3)) = some u1:=g1
  replace g2 : DataW.trod enc Tryz.prog w base spare held m2 39 (([c0,c1,c2,c3].drop 2).take (Tryz.prog.cellsOf 39)) = some u2:=g2
  replace g3 : DataW.trod enc Tryz.prog w base spare held m3 34 (([c0,c1,c2,c3].drop 3).take (Tryz.prog.cellsOf 34)) = some u3:=g3
  rw [k3] at g0 g1
  rw [k4] at g2
  rw [k5] at g3
  obtain ⟨x0,e0,_,_⟩:=DataW.trod_int Tryz.underlying3 g0
  obtain ⟨x1,e1,_,w1⟩:=DataW.trod_int Tryz.underlying3 g1
  simp at e0 e1
  have g2' : DataW.trod enc Tryz.prog w base spare held m2 39 [c2] = some u2:=g2
  have g3' : DataW.trod enc Tryz.prog w base spare held m3 34 [c3] = some u3:=g3
  obtain ⟨la,ln,lc,L,rfl,h1,h2,h3⟩:=trod_records m2 c2 u2 g2'
  obtain ⟨a,m,c,l,rfl,hl,hm,hc⟩:=trod_bytesw m3 c3 u3 g3'
  exact ⟨⟨x0,x1,la,ln,lc,L,a,m,c,l⟩,by rw [e0,e1],h3,h1,h2,hl,Nat.le_trans hm hc,inD_of w1⟩
theorem open_script {v : Value} {d : DataW H} {p : List MemPlace} (hv : Value.okWide Tryz.prog w r b0 60 v) (h : DataW.Trod enc Tryz.prog w base spare held 60 v d p) :
  ∃ a n c, ∃ xs : List WoM,v = .slice a n c∧xs.length = n∧RowAt w w.heap.size a n 4 (xs.flatMap woC)∧(∀ x ∈ xs,WoW w x)∧n≤c∧c≤maxLen:=by
 obtain ⟨a,n,c,rfl⟩:=okWide_slice Tryz.underlying60 hv
 obtain ⟨fuel,hf⟩:=h
 obtain ⟨a',n',c',e,h1,h2,l,h3,h4,h5⟩:=trod_rowk woC (WoW w) 4 (by omega) woC_len Tryz.underlying60 (by kernel_rfl) hf (fun n cs y hl hy=>trod_wo n cs y hl hy)
 injection e with e1 e2 e3
 subst e1;subst e2;subst e3
 exact ⟨_,_,_,l,rfl,h3,h4,h5,h1,h2⟩
/-- One op of the script. -/
theorem wo_cells {a : Option Addr} {n : Nat} {xs : List WoM} (h : RowAt w w.heap.size a n 4 (xs.flatMap woC)) {j : Nat} (hj : j < xs.length) (hn : 0 < n) : ∃ b off,a = some ⟨b,off,none⟩∧b < w.heap.size∧w.cell? ⟨b,off + j * 4,none⟩ = some (.int .i64 xs[j].k)∧w.cell? ⟨b,off + j * 4 + 1,none⟩ = some (.int .i64 xs[j].n)∧w.cell? ⟨b,off + j * 4 + 2,none⟩ = some (.slice xs[j].la xs[j].ln xs[j].lc)∧w.cell? ⟨b,off + j * 4 + 3,none⟩ = some (.slice xs[j].a xs[j].m xs[j].c):=by
 rcases h.2 with h0 | ⟨b,off,ha,hb,hc⟩
 ·omega
 ·have hx : ∀ q u,q < 4→(woC xs[j])[q]? = some u→w.cell? ⟨b,off + j * 4 + q,none⟩ = some u:=fun q u hq hu=>by
   have h1:=hc (j * 4 + q) u (by rw [flat_get woC 4 woC_len xs j q hj hq];exact hu)
   rw [← Nat.add_assoc] at h1
   exact h1
  exact ⟨b,off,ha,hb,hx 0 _ (by omega) rfl,hx 1 _ (by omega) rfl,hx 2 _ (by omega) rfl,hx 3 _ (by omega) rfl⟩
end
end Go.Proofs.YtcfmifongbapkaaGreatDoor
