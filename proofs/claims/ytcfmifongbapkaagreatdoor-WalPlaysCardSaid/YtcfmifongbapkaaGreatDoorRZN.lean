/- The law's walk of WalPlays. Conditions: the script lies in memory; the tables of utf8 lie there. What utf8's tables hold, as the walks ask for it. No condition but that they read as they are listed. -/
import Derived.Test.YtcfmifongbapkaaGreatDoorRZM
import Derived.Test.YtcfmifongbapkaaGreatDoorRZI
import Derived.Test.YtcfmifongbapkaaGreatDoorRL
import Derived.Deep.RegionHeld3
import Derived.Deep.RegionWith
import Derived.Test.YtcfmifongbapkaaGreatDoorRows
import Derived.Test.YtcfmifongbapkaaGreatDoorRQ
import Derived.Lib.LaidU8T
import Derived.PinnedBridge
namespace Go.Proofs.YtcfmifongbapkaaGreatDoor

open Go.RowKit
open Go.Lib (hid)

set_option linter.unusedVariables false
set_option linter.unusedSimpArgs false

/-- Four cells of the script. -/
def Frd (w : World) (b off : Nat) (x : WoM) : Prop:=w.cell? ⟨b,off,none⟩ = some (.int .i64 x.k)∧w.cell? ⟨b,off + 1,none⟩ = some (.int .i64 x.n)∧w.cell? ⟨b,off + 2,none⟩ = some (.slice x.la x.ln x.lc)∧w.cell? ⟨b,off + 3,none⟩ = some (.slice x.a x.m x.c)
theorem Frd.below {w w' : World} {b off : Nat} {x : WoM} (h : Frd w b off x) (hb : b < w.heap.size) (H : Below w.heap.size w w') : Frd w' b off x :=
 ⟨(H.cell (p:=⟨b,off,none⟩) hb).trans h.1,(H.cell (p:=⟨b,off + 1,none⟩) hb).trans h.2.1,(H.cell (p:=⟨b,off + 2,none⟩) hb).trans h.2.2.1,(H.cell (p:=⟨b,off + 3,none⟩) hb).trans h.2.2.2⟩
/-- What the law reads of the pair and of the document's disk. -/
def Seen (w : World) (pb g h : Nat) (d : Dk) (al : Option Addr) (cl : Nat) : Prop :=
 w.cell? ⟨pb,0,none⟩ = some (.pointer (some ⟨g,0,none⟩))∧w.cell? ⟨pb,1,none⟩ = some (.pointer (some ⟨h,0,none⟩))∧w.cell? ⟨h,1,none⟩ = some (.slice al d.la.length cl)
theorem Duo.seen {W V : World} {g h pb : Nat} {d : Dk} (T : Duo W V g h d d [(pb,pairC g h,67)]) : ∃ al cl,Seen V pb g h d al cl∧∀ V',Below V.heap.size V V'→Seen V' pb g h d al cl:=by
 obtain ⟨vl,vr,vh,hR⟩:=T.rbox
 obtain ⟨al,cl,rfl,_,_⟩:=hR.rl.form
 have key : ∀ V',Below V.heap.size V V'→Seen V' pb g h d al cl:=fun V' hb=>by
  have z:=((T.later hb).box 0 _ _ _ rfl).two
  have y:=(hR.below hb).box.seven
  exact ⟨z.1,z.2,y.2.1⟩
 exact ⟨al,cl,key V (Below.refl _ _),key⟩
theorem Seen.below {w w' : World} {pb g h : Nat} {d : Dk} {al : Option Addr} {cl : Nat} (S : Seen w pb g h d al cl) (H : Below w.heap.size w w') : Seen w' pb g h d al cl :=
 ⟨(H.cell (World.block_lt_of_cell? w _ S.1)).trans S.1,(H.cell (World.block_lt_of_cell? w _ S.2.1)).trans S.2.1,(H.cell (World.block_lt_of_cell? w _ S.2.2)).trans S.2.2⟩
/-- The condition may be chosen anew in the midst of a region: what holds with more holds with less. -/
theorem wpAnyH_strong {P : Program} {md : Region.Mode} {ops : Array Oper} {Q : Exit→Act→World→Prop} {S S' : World→Prop} (hs : ∀ w,S' w→S w) : ∀ (fuel : Nat) (listed : Array Bool) (a : Act) (w : World),wpAnyH P md ops Q S' fuel listed a w→wpAnyH P md ops Q S fuel listed a w
 | 0,_,_,_,h=>h
 | fuel + 1,_,_,_,h=>⟨h.1,fun i hi=>wpOp_mono (fun a' w' h'=>⟨hs _ h'.1,wpAnyH_strong hs fuel _ a' w' h'.2⟩) (h.2 i hi)⟩

set_option maxRecDepth 100000 in
set_option maxHeartbeats 16000000 in
theorem plays_walk (s : Nat) (hs : s < 65536) (a : Option Addr) (n c : Nat) (xs : List WoM) (W : World) (hl : xs.length = n) (hr : RowAt W W.heap.size a n 4 (xs.flatMap woC)) (hx : ∀ x ∈ xs,WoW W x) (hU : Tabs W) :
  Calls Tryz.prog 4 #[.int .u16 ((s : Nat) : Int),.slice a n c] W (Says W true):=by
 have TU : Hid (∀ X,Below W.heap.size W X→Tabs X):=fun X hX=>hU.below hX
 have cA:=fun X (hX : Below W.heap.size W X)=>awake13_any X (TU.out X hX)
 by_cases h40 : n≤40
 rotate_left
 ·have i4 : (40 : Int) < ((n : Nat) : Int):=by omega
  clear hl hr hx hU
  go_enter Tryz.func4,Tryz.ntmps4
  go_wp2_with (first | (go_at_call 8;((with_reducible refine (cA _ B1.out).mono ?_);rintro e w2 ⟨rfl,hb2⟩;have B2:=hid (B1.out.trans (hb2.mono B1.out.size));clear hb2)) | (go_at_call 8;((with_reducible refine (cA _ (Below.refl _ W)).mono ?_);rintro e w1 ⟨rfl,hb1⟩;have B1:=hid hb1;clear hb1)))
  go_ret
  exact ⟨rfl,B2.out⟩
 have i4 : decide ((40 : Int) < ((n : Nat) : Int)) = false:=decide_eq_false (by omega)
 have H40:=hid h40
 have HSS:=hid hs
 have es : wrap64 ((s : Nat) : Int) = ((s : Nat) : Int):=by unfold wrap64;omega
 have HR:=hid hr
 have HL:=hid hl
 have HX:=hid hx
 have hs9 : Hid (((s : Nat) : Int) < 9223372036854775808):=by unfold Hid;omega
 clear hl hr hx hU h40 hs
 go_enter Tryz.func4,Tryz.ntmps4
 go_upto_region 5 with (first
  | (go_at_call 8;((with_reducible refine (cA _ (Below.refl _ W)).mono ?_);rintro e w1 ⟨rfl,hb1⟩;have B1:=hid hb1;clear hb1))
  | (go_at_call 20;((with_reducible refine (dkNew_any ((s : Nat) : Int) hs9.out _).mono ?_);rintro e w3 ⟨rfl,hb3,hd3⟩;have M3:=hid (And.intro hb3 hd3);clear hb3 hd3))
  | (go_at_call 21;((with_reducible refine (rnew_any ((s : Nat) : Int) hs9.out _).mono ?_);rintro e w4 ⟨rfl,hb4,hd4⟩;have T4:=hid ((Duo.made B1.out M3.out.1 M3.out.2 hb4 hd4).more (pairC w1.heap.size w3.heap.size) 67);clear hb4 hd4)))
 obtain ⟨pb,hpb⟩ : ∃ pb,pb = w4.heap.size:=⟨_,rfl⟩
 rw [← hpb] at T4 ⊢
 clear hpb M3 B1 cA
 generalize w1.heap.size = g0 at *
 generalize w3.heap.size = h0 at *
 go_loopw [6] (fun i wr => ∃ k : Nat,i = .int .i64 k∧k≤n∧(∀ x ∈ xs.take k,fewL x.L 6 = true∧x.m≤1000)∧Duo W wr g0 h0 (newD ((s : Nat) : Int)) (newD ((s : Nat) : Int)) [(pb,pairC g0 h0,67)]) (fun i _=>n - (intOf i).toNat)
 case atStart=>exact ⟨0,rfl,Nat.zero_le _,(fun x hx=>by simp at hx),T4.out⟩
 case round =>
  obtain ⟨k,rfl,hk,hok,hT⟩:=hrel
  have TK:=hid hT
  have OK:=hid hok
  clear hT hok T4
  by_cases hlt : k < n
  ·have hin : (k : Int) < (n : Int):=by omega
   have ew : wrap64 (((k : Nat) : Int) + 1) = ((k : Nat) : Int) + 1:=by have:=H40.out;unfold wrap64;omega
   obtain ⟨b,off,rfl,hb,y0,y1,y2,y3⟩:=wo_cells HR.out (j:=k) (by have:=HL.out;omega) (by omega)
   have HJ : Hid (k < xs.length):=by have:=HL.out;unfold Hid;omega
   have Y : Hid (Frd W b (off + k * 4) (xs[k]'HJ.out)):=⟨y0,y1,y2,y3⟩
   have OX:=hid (HX.out _ (List.getElem_mem HJ.out))
   have HB:=hid hb
   have hmem : ∀ z ∈ xs.take (k + 1),z ∈ xs.take k∨z = xs[k]'HJ.out:=fun z hz=>by
    rw [List.take_succ_eq_append_getElem HJ.out] at hz
    exact (List.mem_append.1 hz).imp id List.mem_singleton.1
   have NEXT : Hid (fewL (xs[k]'HJ.out).L 6 = true→(xs[k]'HJ.out).m≤1000→∀ x ∈ xs.take (k + 1),fewL x.L 6 = true∧x.m≤1000):=fun h1 h2 x hx=>(hmem x hx).elim (OK.out x) fun e=>by rw [e];exact ⟨h1,h2⟩
   have z2:=(Y.out.below hb TK.out.bel).2.2.1
   clear y0 y1 y2 y3 hmem
   generalize (xs[k]'HJ.out) = x at *
   have cF:=few_any x.la x.ln x.lc x.L 6 wr (OX.out.1.later TK.out.bel) OX.out.2.1 OX.out.2.2.1
   cases f1 : fewL x.L 6
   ·rw [f1] at cF
    clear f1 hb
    go_wp2_with (go_at_call 9;((with_reducible refine cF.mono ?_);rintro e w5 ⟨rfl,hb5⟩;have T5:=hid (TK.out.later hb5);clear hb5))
    go_ret
    exact ⟨rfl,T5.out.bel⟩
   ·rw [f1] at cF
    have F1:=hid f1
    clear f1 hb
    by_cases hm : x.m≤1000
    ·have im : decide ((1000 : Int) < ((x.m : Nat) : Int)) = false:=decide_eq_false (by omega)
     have HM:=hid (NEXT.out F1.out hm)
     clear hm
     go_wp2_with (go_at_call 9;((with_reducible refine cF.mono ?_);rintro e w5 ⟨rfl,hb5⟩;have T5:=hid (TK.out.later hb5);have z3:=(Y.out.below HB.out T5.out.bel).2.2.2;clear hb5))
     go_roundw
     case rel=>exact ⟨k + 1,congrArg (Value.int .i64) (by rw [ew];omega),hlt,HM.out,T5.out⟩
     case measure=>rw [ew];simp [intOf];omega
    ·have im : decide ((1000 : Int) < ((x.m : Nat) : Int)) = true:=decide_eq_true (by omega)
     clear hm
     go_wp2_with (go_at_call 9;((with_reducible refine cF.mono ?_);rintro e w5 ⟨rfl,hb5⟩;have T5:=hid (TK.out.later hb5);have z3:=(Y.out.below HB.out T5.out.bel).2.2.2;clear hb5))
     go_ret
     exact ⟨rfl,T5.out.bel⟩
  ·have hin : ¬ (k : Int) < (n : Int):=by omega
   have HO : Hid (∀ x ∈ xs,fewL x.L 6 = true∧x.m≤1000):=by
    have h1:=OK.out
    rw [List.take_of_length_le (by rw [HL.out];omega)] at h1;exact h1
   obtain rfl : k = n:=by omega
   clear OK
   go_upto_region 10 with (fail)
   go_loopw [7] (fun i wr => ∃ (j g h : Nat) (d : Dk),i = .int .i64 j∧j≤k∧Duo W wr g h d d [(pb,pairC g h,67)]∧SzB d∧FuB d) (fun i _=>k - (intOf i).toNat)
   case atStart=>exact ⟨0,_,_,_,rfl,Nat.zero_le _,TK.out,SzB.new (by have:=HSS.out;omega),show (-1 : Int) < 9223372036854775808 by decide⟩
   case round =>
    obtain ⟨j,g,h,d,rfl,hj,hT,hB,hFu⟩:=hrel
    clear TK hin
    have T:=hid hT
    have B:=hid hB
    have F:=hid hFu
    clear hT hB hFu
    by_cases hlt : j < k
    ·obtain ⟨b,off,rfl,hb,y0,y1,y2,y3⟩:=wo_cells HR.out (j:=j) (by have:=HL.out;omega) (by omega)
     have hin : (j : Int) < (k : Int):=by omega
     have ew : wrap64 (((j : Nat) : Int) + 1) = ((j : Nat) : Int) + 1:=by have:=H40.out;unfold wrap64;omega
     have HJ : Hid (j < xs.length):=by have:=HL.out;unfold Hid;omega
     have Y : Hid (Frd W b (off + j * 4) (xs[j]'HJ.out)):=⟨y0,y1,y2,y3⟩
     have OX:=hid (HX.out _ (List.getElem_mem HJ.out))
     have NX:=hid (HO.out _ (List.getElem_mem HJ.out))
     have HBB:=hid hb
     clear y0 y1 y2 y3
     generalize (xs[j]'HJ.out) = x at *
     obtain ⟨q1,q2,_⟩:=fewL_all OX.out.1 (by omega) NX.out.1
     have q3 : x.ln≤6:=by have:=q1.len;omega
     have cA:=fun V1 (T1 : Duo W V1 g h d d [(pb,pairC g h,67)])=>act_any W V1 g h pb d x.n x.la x.ln x.lc x.L x.a x.m x.c x.l x.k T1 B.out F.out q1 q3 OX.out.2.1 OX.out.2.2.1 OX.out.2.2.2.1 NX.out.2 OX.out.2.2.2.2.2.1 OX.out.2.2.2.2.2.2 (TU.out W (Below.refl _ W))
     clear q1 q2 q3
     go_upto_region 12 with fail
     have TD:=hid T.out.drew
     have s0 : Frd wr.drew b (off + j * 4) x:=Y.out.below HBB.out TD.out.bel
     obtain ⟨z0,z1,z2,z3⟩:=s0
     refine wp_region_held_drew (S:=fun w'=>w'.cell? ⟨b,off + j * 4,none⟩ = some (.int .i64 x.k)∧w'.cell? ⟨b,off + j * 4 + 1,none⟩ = some (.int .i64 x.n)∧w'.cell? ⟨b,off + j * 4 + 2,none⟩ = some (.slice x.la x.ln x.lc)∧w'.cell? ⟨b,off + j * 4 + 3,none⟩ = some (.slice x.a x.m x.c)) (by kernel_rfl) ⟨z0,z1,z2,z3⟩ (fun hHeld=>?_)
     refine wpAnyH_take (i:=0) (oi:={ dst:=some 52,op:=Op.move (Operand.tmp 5),type:=61,pos := "law.go:124",after:=#[],guard:=none }) (v:=?v0) rfl (by kernel_rfl) (by kernel_rfl) (by kernel_rfl) (fun _ _ _ h=>h) (Or.inl ⟨by rfl,?hy0⟩) hHeld ?rest0
     case hy0=>(intro w hSw;(try dsimp only at hSw);go_simp;(try (with_reducible rfl)))
     (try simp only [Act.put,List.setIfInBounds_toArray,List.set_cons_zero,List.set_cons_succ])
     refine wpAnyH_take (i:=1) (oi:={ dst:=some 53,op:=Op.move (Operand.tmp 1),type:=60,pos := "law.go:124",after:=#[],guard:=none }) (v:=?v1) rfl (by kernel_rfl) (by kernel_rfl) (by kernel_rfl) (fun _ _ _ h=>h) (Or.inl ⟨by rfl,?hy1⟩) hHeld ?rest1
     case hy1=>(intro w hSw;(try dsimp only at hSw);go_simp;(try (with_reducible rfl)))
     (try simp only [Act.put,List.setIfInBounds_toArray,List.set_cons_zero,List.set_cons_succ])
     refine wpAnyH_take (i:=2) (oi:={ dst:=some 54,op:=Op.move (Operand.tmp 7),type:=3,pos := "law.go:124",after:=#[],guard:=none }) (v:=?v2) rfl (by kernel_rfl) (by kernel_rfl) (by kernel_rfl) (fun _ _ _ h=>h) (Or.inl ⟨by rfl,?hy2⟩) hHeld ?rest2
     case hy2=>(intro w hSw;(try dsimp only at hSw);go_simp;(try (with_reducible rfl)))
     (try simp only [Act.put,List.setIfInBounds_toArray,List.set_cons_zero,List.set_cons_succ])
     refine wpAnyH_take (i:=3) (oi:={ dst:=some 55,op:=Op.indexAddr 60 (Operand.tmp 53) (Operand.tmp 54),type:=0,pos := "law.go:124",after:=#[{ on:=1,ground:=Ground.data },{ on:=2,ground:=Ground.data }],guard:=none }) (v:=?v3) rfl (by kernel_rfl) (by kernel_rfl) (by kernel_rfl) (fun _ _ _ h=>h) (Or.inl ⟨by rfl,?hy3⟩) hHeld ?rest3
     case hy3=>(intro w hSw;(try dsimp only at hSw);go_simp;(try (with_reducible rfl)))
     (try simp only [Act.put,List.setIfInBounds_toArray,List.set_cons_zero,List.set_cons_succ])
     refine wpAnyH_take (i:=4) (oi:={ dst:=some 56,op:=Op.load 69 (Operand.tmp 55),type:=69,pos := "law.go:124",after:=#[{ on:=3,ground:=Ground.data }],guard:=none }) (v:=?v4) rfl (by kernel_rfl) (by kernel_rfl) (by kernel_rfl) (fun _ _ _ h=>h) (Or.inl ⟨by rfl,?hy4⟩) hHeld ?rest4
     case hy4=>(intro w hSw;(try dsimp only at hSw);go_simp;(try (with_reducible rfl)))
     (try simp only [Act.put,List.setIfInBounds_toArray,List.set_cons_zero,List.set_cons_succ])
     refine wpAnyH_ready (rs:=[5]) (by kernel_rfl) (by simp) ?_
     refine AllReadyH.cons (o:={ dst:=some 57,op:=Op.call { callee:=Callee.value (Operand.func 22),args:=#[Operand.tmp 52,Operand.tmp 56],argTypes:=#[61,69] },type:=4,pos := "law.go:124",after:=#[{ on:=0,ground:=Ground.data },{ on:=4,ground:=Ground.data }],guard:=none }) rfl (fun K hK=>?_) AllReadyH.nil
     go_simp
     (go_at_call 22;((with_reducible refine (cA _ TD.out).mono ?_);rintro e w3 ⟨rfl,g3,h3,d3,hT3,hB3,hF3⟩;have T3:=hid hT3;have B3 : Hid (BndD d3 1099511627776):=hB3.2.mono (by omega);have C3:=hid hB3;have F3:=hid hF3;obtain ⟨al,cl,hS,hS'⟩:=hT3.seen;have S3:=hid hS';have G3:=hid hS;have Y3:=hid (Y.out.below HBB.out hT3.bel);clear hT3 hB3 hF3 hS' hS))
     refine hK.out _ _ (Y3.out) (fun hHeld=>?_)
     clear hK K
     (try simp only [Act.put,List.setIfInBounds_toArray,List.set_cons_zero,List.set_cons_succ])
     clear hHeld
     have hHeld:=G3.out
     unfold Seen at hHeld
     refine wpAnyH_strong (S':=fun w'=>(w'.cell? ⟨pb,0,none⟩ = some (.pointer (some ⟨g3,0,none⟩))∧w'.cell? ⟨pb,1,none⟩ = some (.pointer (some ⟨h3,0,none⟩))∧w'.cell? ⟨h3,1,none⟩ = some (.slice al d3.la.length cl))∧Frd w' b (off + j * 4) x) (fun w' h=>h.2) _ _ _ _ ?_
     replace hHeld:=And.intro hHeld Y3.out
     refine wpAnyH_take (i:=6) (oi:={ dst:=some 58,op:=Op.unOp UnOp.not 4 (Operand.tmp 57),type:=4,pos := "law.go:124",after:=#[{ on:=5,ground:=Ground.data }],guard:=none }) (v:=?v6) rfl (by kernel_rfl) (by kernel_rfl) (by kernel_rfl) (fun _ _ _ h=>h) (Or.inl ⟨by rfl,?hy6⟩) hHeld ?rest6
     case hy6=>(intro w hSw;(try dsimp only at hSw);go_simp;(try (with_reducible rfl)))
     (try simp only [Act.put,List.setIfInBounds_toArray,List.set_cons_zero,List.set_cons_succ])
     refine wpAnyH_take (i:=7) (oi:={ dst:=some 59,op:=Op.move (Operand.tmp 58),type:=4,pos := "law.go:124",after:=#[{ on:=6,ground:=Ground.data },{ on:=5,ground:=Ground.chain }],guard:=none }) (v:=?v7) rfl (by kernel_rfl) (by kernel_rfl) (by kernel_rfl) (fun _ _ _ h=>h) (Or.inl ⟨by rfl,?hy7⟩) hHeld ?rest7
     case hy7=>(intro w hSw;(try dsimp only at hSw);go_simp;(try (with_reducible rfl)))
     (try simp only [Act.put,List.setIfInBounds_toArray,List.set_cons_zero,List.set_cons_succ])
     refine wpAnyH_take (i:=8) (oi:={ dst:=some 60,op:=Op.move (Operand.tmp 5),type:=61,pos := "law.go:124",after:=#[{ on:=7,ground:=Ground.guard }],guard:=some (7,false) }) (v:=?v8) rfl (by kernel_rfl) (by kernel_rfl) (by kernel_rfl) (fun _ _ _ h=>h) (Or.inl ⟨by rfl,?hy8⟩) hHeld ?rest8
     case hy8=>(intro w hSw;(try dsimp only at hSw);go_simp;(try (with_reducible rfl)))
     (try simp only [Act.put,List.setIfInBounds_toArray,List.set_cons_zero,List.set_cons_succ])
     refine wpAnyH_take (i:=9) (oi:={ dst:=some 61,op:=Op.nilCheck (Operand.tmp 60),type:=0,pos := "law.go:124",after:=#[{ on:=8,ground:=Ground.data },{ on:=7,ground:=Ground.guard }],guard:=some (7,false) }) (v:=?v9) rfl (by kernel_rfl) (by kernel_rfl) (by kernel_rfl) (fun _ _ _ h=>h) (Or.inl ⟨by rfl,?hy9⟩) hHeld ?rest9
     case hy9=>(intro w hSw;(try dsimp only at hSw);go_simp;(try (with_reducible rfl)))
     (try simp only [Act.put,List.setIfInBounds_toArray,List.set_cons_zero,List.set_cons_succ])
     refine wpAnyH_take (i:=10) (oi:={ dst:=some 62,op:=Op.fieldAddr 67 (Operand.tmp 61) 0,type:=0,pos := "law.go:124",after:=#[{ on:=9,ground:=Ground.data },{ on:=7,ground:=Ground.guard }],guard:=some (7,false) }) (v:=?v10) rfl (by kernel_rfl) (by kernel_rfl) (by kernel_rfl) (fun _ _ _ h=>h) (Or.inl ⟨by rfl,?hy10⟩) hHeld ?rest10
     case hy10=>(intro w hSw;(try dsimp only at hSw);go_simp;(try (with_reducible rfl)))
     (try simp only [Act.put,List.setIfInBounds_toArray,List.set_cons_zero,List.set_cons_succ])
     refine wpAnyH_take (i:=11) (oi:={ dst:=some 63,op:=Op.load 62 (Operand.tmp 62),type:=62,pos := "law.go:124",after:=#[{ on:=10,ground:=Ground.data },{ on:=7,ground:=Ground.guard }],guard:=some (7,false) }) (v:=?v11) rfl (by kernel_rfl) (by kernel_rfl) (by kernel_rfl) (fun _ _ _ h=>h) (Or.inl ⟨by rfl,?hy11⟩) hHeld ?rest11
     case hy11=>(intro w hSw;(try dsimp only at hSw);go_simp;(try (with_reducible rfl)))
     (try simp only [Act.put,List.setIfInBounds_toArray,List.set_cons_zero,List.set_cons_succ])
     refine wpAnyH_take (i:=13) (oi:={ dst:=some 65,op:=Op.move (Operand.tmp 5),type:=61,pos := "law.go:124",after:=#[{ on:=7,ground:=Ground.guard }],guard:=some (7,false) }) (v:=?v13) rfl (by kernel_rfl) (by kernel_rfl) (by kernel_rfl) (fun _ _ _ h=>h) (Or.inl ⟨by rfl,?hy13⟩) hHeld ?rest13
     case hy13=>(intro w hSw;(try dsimp only at hSw);go_simp;(try (with_reducible rfl)))
     (try simp only [Act.put,List.setIfInBounds_toArray,List.set_cons_zero,List.set_cons_succ])
     refine wpAnyH_take (i:=14) (oi:={ dst:=some 66,op:=Op.nilCheck (Operand.tmp 65),type:=0,pos := "law.go:124",after:=#[{ on:=13,ground:=Ground.data },{ on:=7,ground:=Ground.guard }],guard:=some (7,false) }) (v:=?v14) rfl (by kernel_rfl) (by kernel_rfl) (by kernel_rfl) (fun _ _ _ h=>h) (Or.inl ⟨by rfl,?hy14⟩) hHeld ?rest14
     case hy14=>(intro w hSw;(try dsimp only at hSw);go_simp;(try (with_reducible rfl)))
     (try simp only [Act.put,List.setIfInBounds_toArray,List.set_cons_zero,List.set_cons_succ])
     refine wpAnyH_take (i:=15) (oi:={ dst:=some 67,op:=Op.fieldAddr 67 (Operand.tmp 66) 1,type:=0,pos := "law.go:124",after:=#[{ on:=14,ground:=Ground.data },{ on:=7,ground:=Ground.guard }],guard:=some (7,false) }) (v:=?v15) rfl (by kernel_rfl) (by kernel_rfl) (by kernel_rfl) (fun _ _ _ h=>h) (Or.inl ⟨by rfl,?hy15⟩) hHeld ?rest15
     case hy15=>(intro w hSw;(try dsimp only at hSw);go_simp;(try (with_reducible rfl)))
     (try simp only [Act.put,List.setIfInBounds_toArray,List.set_cons_zero,List.set_cons_succ])
     refine wpAnyH_take (i:=16) (oi:={ dst:=some 68,op:=Op.load 64 (Operand.tmp 67),type:=64,pos := "law.go:124",after:=#[{ on:=15,ground:=Ground.data },{ on:=7,ground:=Ground.guard }],guard:=some (7,false) }) (v:=?v16) rfl (by kernel_rfl) (by kernel_rfl) (by kernel_rfl) (fun _ _ _ h=>h) (Or.inl ⟨by rfl,?hy16⟩) hHeld ?rest16
     case hy16=>(intro w hSw;(try dsimp only at hSw);go_simp;(try (with_reducible rfl)))
     (try simp only [Act.put,List.setIfInBounds_toArray,List.set_cons_zero,List.set_cons_succ])
     refine wpAnyH_take (i:=17) (oi:={ dst:=some 69,op:=Op.nilCheck (Operand.tmp 68),type:=0,pos := "law.go:124",after:=#[{ on:=16,ground:=Ground.data },{ on:=7,ground:=Ground.guard }],guard:=some (7,false) }) (v:=?v17) rfl (by kernel_rfl) (by kernel_rfl) (by kernel_rfl) (fun _ _ _ h=>h) (Or.inl ⟨by rfl,?hy17⟩) hHeld ?rest17
     case hy17=>(intro w hSw;(try dsimp only at hSw);go_simp;(try (with_reducible rfl)))
     (try simp only [Act.put,List.setIfInBounds_toArray,List.set_cons_zero,List.set_cons_succ])
     refine wpAnyH_take (i:=18) (oi:={ dst:=some 70,op:=Op.fieldAddr 73 (Operand.tmp 69) 1,type:=0,pos := "law.go:124",after:=#[{ on:=17,ground:=Ground.data },{ on:=7,ground:=Ground.guard }],guard:=some (7,false) }) (v:=?v18) rfl (by kernel_rfl) (by kernel_rfl) (by kernel_rfl) (fun _ _ _ h=>h) (Or.inl ⟨by rfl,?hy18⟩) hHeld ?rest18
     case hy18=>(intro w hSw;(try dsimp only at hSw);go_simp;(try (with_reducible rfl)))
     (try simp only [Act.put,List.setIfInBounds_toArray,List.set_cons_zero,List.set_cons_succ])
     refine wpAnyH_take (i:=19) (oi:={ dst:=some 71,op:=Op.load 34 (Operand.tmp 70),type:=34,pos := "law.go:124",after:=#[{ on:=18,ground:=Ground.data },{ on:=7,ground:=Ground.guard }],guard:=some (7,false) }) (v:=?v19) rfl (by kernel_rfl) (by kernel_rfl) (by kernel_rfl) (fun _ _ _ h=>h) (Or.inl ⟨by rfl,?hy19⟩) hHeld ?rest19
     case hy19=>(intro w hSw;(try dsimp only at hSw);go_simp;(try (with_reducible rfl)))
     (try simp only [Act.put,List.setIfInBounds_toArray,List.set_cons_zero,List.set_cons_succ])
     refine wpAnyH_take (i:=20) (oi:={ dst:=some 72,op:=Op.call { callee:=Callee.builtin Builtin.len,args:=#[Operand.tmp 71],argTypes:=#[34] },type:=3,pos := "law.go:124",after:=#[{ on:=19,ground:=Ground.data },{ on:=7,ground:=Ground.guard }],guard:=some (7,false) }) (v:=?v20) rfl (by kernel_rfl) (by kernel_rfl) (by kernel_rfl) (fun _ _ _ h=>h) (Or.inl ⟨by rfl,?hy20⟩) hHeld ?rest20
     case hy20=>(intro w hSw;(try dsimp only at hSw);go_simp;(try (with_reducible rfl)))
     (try simp only [Act.put,List.setIfInBounds_toArray,List.set_cons_zero,List.set_cons_succ])
     refine wpAnyH_ready (rs:=[12]) (by kernel_rfl) (by simp) ?_
     refine AllReadyH.cons (o:={ dst:=some 64,op:=Op.call { callee:=Callee.value (Operand.func 23),args:=#[Operand.tmp 63],argTypes:=#[62] },type:=3,pos := "law.go:124",after:=#[{ on:=11,ground:=Ground.data },{ on:=7,ground:=Ground.chain },{ on:=7,ground:=Ground.guard }],guard:=some (7,false) }) rfl (fun K hK=>?_) AllReadyH.nil
     go_simp
     (go_at_call 23;((with_reducible refine (pLasting T3.out).mono ?_);rintro e w4 ⟨rfl,rfl⟩))
     refine hK.out _ _ (hHeld) (fun hHeld=>?_)
     clear hK K
     (try simp only [Act.put,List.setIfInBounds_toArray,List.set_cons_zero,List.set_cons_succ])
     refine wpAnyH_take (i:=21) (oi:={ dst:=some 73,op:=Op.binOp BinOp.neq 3 (Operand.tmp 64) (Operand.tmp 72) 3,type:=4,pos := "law.go:124",after:=#[{ on:=12,ground:=Ground.data },{ on:=20,ground:=Ground.data },{ on:=7,ground:=Ground.guard }],guard:=some (7,false) }) (v:=?v21) rfl (by kernel_rfl) (by kernel_rfl) (by kernel_rfl) (fun _ _ _ h=>h) (Or.inl ⟨by rfl,?hy21⟩) hHeld ?rest21
     case hy21=>(intro w hSw;(try dsimp only at hSw);go_simp;(try (with_reducible rfl)))
     (try simp only [Act.put,List.setIfInBounds_toArray,List.set_cons_zero,List.set_cons_succ])
     refine wpAnyH_take (i:=22) (oi:={ dst:=some 74,op:=Op.pick (Operand.tmp 59) (Operand.const (Value.bool true)) (Operand.tmp 73),type:=4,pos := "law.go:124",after:=#[{ on:=7,ground:=Ground.data },{ on:=21,ground:=Ground.data }],guard:=none }) (v:=?v22) rfl (by kernel_rfl) (by kernel_rfl) (by kernel_rfl) (fun _ _ _ h=>h) (Or.inl ⟨by rfl,?hy22⟩) hHeld ?rest22
     case hy22=>(intro w hSw;(try dsimp only at hSw);go_simp;(try (with_reducible rfl)))
     (try simp only [Act.put,List.setIfInBounds_toArray,List.set_cons_zero,List.set_cons_succ])
     refine wpAnyH_take (i:=23) (oi:={ dst:=some 75,op:=Op.move (Operand.tmp 74),type:=4,pos := "law.go:124",after:=#[{ on:=22,ground:=Ground.data },{ on:=12,ground:=Ground.chain }],guard:=none }) (v:=?v23) rfl (by kernel_rfl) (by kernel_rfl) (by kernel_rfl) (fun _ _ _ h=>h) (Or.inl ⟨by rfl,?hy23⟩) hHeld ?rest23
     case hy23=>(intro w hSw;(try dsimp only at hSw);go_simp;(try (with_reducible rfl)))
     (try simp only [Act.put,List.setIfInBounds_toArray,List.set_cons_zero,List.set_cons_succ])
     refine wpAnyH_take (i:=24) (oi:={ dst:=some 76,op:=Op.move (Operand.tmp 5),type:=61,pos := "law.go:124",after:=#[{ on:=23,ground:=Ground.guard }],guard:=some (23,false) }) (v:=?v24) rfl (by kernel_rfl) (by kernel_rfl) (by kernel_rfl) (fun _ _ _ h=>h) (Or.inl ⟨by rfl,?hy24⟩) hHeld ?rest24
     case hy24=>(intro w hSw;(try dsimp only at hSw);go_simp;(try (with_reducible rfl)))
     (try simp only [Act.put,List.setIfInBounds_toArray,List.set_cons_zero,List.set_cons_succ])
     refine wpAnyH_take (i:=25) (oi:={ dst:=some 77,op:=Op.nilCheck (Operand.tmp 76),type:=0,pos := "law.go:124",after:=#[{ on:=24,ground:=Ground.data },{ on:=23,ground:=Ground.guard }],guard:=some (23,false) }) (v:=?v25) rfl (by kernel_rfl) (by kernel_rfl) (by kernel_rfl) (fun _ _ _ h=>h) (Or.inl ⟨by rfl,?hy25⟩) hHeld ?rest25
     case hy25=>(intro w hSw;(try dsimp only at hSw);go_simp;(try (with_reducible rfl)))
     (try simp only [Act.put,List.setIfInBounds_toArray,List.set_cons_zero,List.set_cons_succ])
     refine wpAnyH_take (i:=26) (oi:={ dst:=some 78,op:=Op.fieldAddr 67 (Operand.tmp 77) 0,type:=0,pos := "law.go:124",after:=#[{ on:=25,ground:=Ground.data },{ on:=23,ground:=Ground.guard }],guard:=some (23,false) }) (v:=?v26) rfl (by kernel_rfl) (by kernel_rfl) (by kernel_rfl) (fun _ _ _ h=>h) (Or.inl ⟨by rfl,?hy26⟩) hHeld ?rest26
     case hy26=>(intro w hSw;(try dsimp only at hSw);go_simp;(try (with_reducible rfl)))
     (try simp only [Act.put,List.setIfInBounds_toArray,List.set_cons_zero,List.set_cons_succ])
     refine wpAnyH_take (i:=27) (oi:={ dst:=some 79,op:=Op.load 62 (Operand.tmp 78),type:=62,pos := "law.go:124",after:=#[{ on:=26,ground:=Ground.data },{ on:=23,ground:=Ground.guard }],guard:=some (23,false) }) (v:=?v27) rfl (by kernel_rfl) (by kernel_rfl) (by kernel_rfl) (fun _ _ _ h=>h) (Or.inl ⟨by rfl,?hy27⟩) hHeld ?rest27
     case hy27=>(intro w hSw;(try dsimp only at hSw);go_simp;(try (with_reducible rfl)))
     (try simp only [Act.put,List.setIfInBounds_toArray,List.set_cons_zero,List.set_cons_succ])
     refine wpAnyH_take (i:=29) (oi:={ dst:=some 81,op:=Op.move (Operand.tmp 5),type:=61,pos := "law.go:124",after:=#[{ on:=23,ground:=Ground.guard }],guard:=some (23,false) }) (v:=?v29) rfl (by kernel_rfl) (by kernel_rfl) (by kernel_rfl) (fun _ _ _ h=>h) (Or.inl ⟨by rfl,?hy29⟩) hHeld ?rest29
     case hy29=>(intro w hSw;(try dsimp only at hSw);go_simp;(try (with_reducible rfl)))
     (try simp only [Act.put,List.setIfInBounds_toArray,List.set_cons_zero,List.set_cons_succ])
     refine wpAnyH_take (i:=30) (oi:={ dst:=some 82,op:=Op.nilCheck (Operand.tmp 81),type:=0,pos := "law.go:124",after:=#[{ on:=29,ground:=Ground.data },{ on:=23,ground:=Ground.guard }],guard:=some (23,false) }) (v:=?v30) rfl (by kernel_rfl) (by kernel_rfl) (by kernel_rfl) (fun _ _ _ h=>h) (Or.inl ⟨by rfl,?hy30⟩) hHeld ?rest30
     case hy30=>(intro w hSw;(try dsimp only at hSw);go_simp;(try (with_reducible rfl)))
     (try simp only [Act.put,List.setIfInBounds_toArray,List.set_cons_zero,List.set_cons_succ])
     refine wpAnyH_take (i:=31) (oi:={ dst:=some 83,op:=Op.fieldAddr 67 (Operand.tmp 82) 1,type:=0,pos := "law.go:124",after:=#[{ on:=30,ground:=Ground.data },{ on:=23,ground:=Ground.guard }],guard:=some (23,false) }) (v:=?v31) rfl (by kernel_rfl) (by kernel_rfl) (by kernel_rfl) (fun _ _ _ h=>h) (Or.inl ⟨by rfl,?hy31⟩) hHeld ?rest31
     case hy31=>(intro w hSw;(try dsimp only at hSw);go_simp;(try (with_reducible rfl)))
     (try simp only [Act.put,List.setIfInBounds_toArray,List.set_cons_zero,List.set_cons_succ])
     refine wpAnyH_take (i:=32) (oi:={ dst:=some 84,op:=Op.load 64 (Operand.tmp 83),type:=64,pos := "law.go:124",after:=#[{ on:=31,ground:=Ground.data },{ on:=23,ground:=Ground.guard }],guard:=some (23,false) }) (v:=?v32) rfl (by kernel_rfl) (by kernel_rfl) (by kernel_rfl) (fun _ _ _ h=>h) (Or.inl ⟨by rfl,?hy32⟩) hHeld ?rest32
     case hy32=>(intro w hSw;(try dsimp only at hSw);go_simp;(try (with_reducible rfl)))
     (try simp only [Act.put,List.setIfInBounds_toArray,List.set_cons_zero,List.set_cons_succ])
     refine wpAnyH_ready (rs:=[28]) (by kernel_rfl) (by simp) ?_
     refine AllReadyH.cons (o:={ dst:=some 80,op:=Op.call { callee:=Callee.value (Operand.func 24),args:=#[Operand.tmp 79],argTypes:=#[62] },type:=34,pos := "law.go:124",after:=#[{ on:=27,ground:=Ground.data },{ on:=23,ground:=Ground.chain },{ on:=23,ground:=Ground.guard }],guard:=some (23,false) }) rfl (fun K hK=>?_) AllReadyH.nil
     go_simp
     (go_at_call 24;((with_reducible refine (pBytes T3.out B3.out).mono ?_);rintro e w4 ⟨a4,n4,c4,rfl,hb4,hn4,hT4,hbel⟩;have T4:=hid hT4;have Q4:=hid hb4;have N4:=hid hn4;have S4:=hid (And.intro (S3.out w4 hbel) (Y.out.below HBB.out hT4.bel));clear hb4 hn4 hT4 hbel))
     refine hK.out _ _ (S4.out) (fun hHeld=>?_)
     clear hK K
     (try simp only [Act.put,List.setIfInBounds_toArray,List.set_cons_zero,List.set_cons_succ])
     refine wpAnyH_ready (rs:=[33]) (by kernel_rfl) (by simp) ?_
     refine AllReadyH.cons (o:={ dst:=some 85,op:=Op.call { callee:=Callee.value (Operand.func 25),args:=#[Operand.tmp 84],argTypes:=#[64] },type:=34,pos := "law.go:124",after:=#[{ on:=32,ground:=Ground.data },{ on:=28,ground:=Ground.chain },{ on:=23,ground:=Ground.guard }],guard:=some (23,false) }) rfl (fun K hK=>?_) AllReadyH.nil
     go_simp
     (go_at_call 25;((with_reducible refine (dBytes T4.out B3.out).mono ?_);rintro e w5 ⟨a5,n5,c5,rfl,hb5,hn5,hT5,hbel⟩;have T5:=hid hT5;have cS:=same_any a4 a5 n4 n5 c4 c5 _ _ _ _ w5 (Q4.out.below hbel (Nat.le_refl _)) hb5 N4.out hn5;rw [decide_eq_true rfl] at cS;have S5:=hid (And.intro (S4.out.1.below hbel) (Y.out.below HBB.out hT5.bel));clear hb5 hn5 hT5 hbel))
     refine hK.out _ _ (S5.out) (fun hHeld=>?_)
     clear hK K
     (try simp only [Act.put,List.setIfInBounds_toArray,List.set_cons_zero,List.set_cons_succ])
     refine wpAnyH_ready (rs:=[34]) (by kernel_rfl) (by simp) ?_
     refine AllReadyH.cons (o:={ dst:=some 86,op:=Op.call { callee:=Callee.value (Operand.func 19),args:=#[Operand.tmp 80,Operand.tmp 85],argTypes:=#[34,34] },type:=4,pos := "law.go:124",after:=#[{ on:=28,ground:=Ground.data },{ on:=33,ground:=Ground.data },{ on:=33,ground:=Ground.chain },{ on:=23,ground:=Ground.guard }],guard:=some (23,false) }) rfl (fun K hK=>?_) AllReadyH.nil
     go_simp
     (go_at_call 19;((with_reducible refine cS.mono ?_);rintro e w6 ⟨rfl,q,rfl⟩))
     refine hK.out _ _ (S5.out) (fun hHeld=>?_)
     clear hK K
     (try simp only [Act.put,List.setIfInBounds_toArray,List.set_cons_zero,List.set_cons_succ])
     refine wpAnyH_take (i:=35) (oi:={ dst:=some 87,op:=Op.unOp UnOp.not 4 (Operand.tmp 86),type:=4,pos := "law.go:124",after:=#[{ on:=34,ground:=Ground.data },{ on:=23,ground:=Ground.guard }],guard:=some (23,false) }) (v:=?v35) rfl (by kernel_rfl) (by kernel_rfl) (by kernel_rfl) (fun _ _ _ h=>h) (Or.inl ⟨by rfl,?hy35⟩) hHeld ?rest35
     case hy35=>(intro w hSw;(try dsimp only at hSw);go_simp;(try (with_reducible rfl)))
     (try simp only [Act.put,List.setIfInBounds_toArray,List.set_cons_zero,List.set_cons_succ])
     refine wpAnyH_take (i:=36) (oi:={ dst:=some 88,op:=Op.pick (Operand.tmp 75) (Operand.const (Value.bool true)) (Operand.tmp 87),type:=4,pos := "law.go:124",after:=#[{ on:=23,ground:=Ground.data },{ on:=35,ground:=Ground.data }],guard:=none }) (v:=?v36) rfl (by kernel_rfl) (by kernel_rfl) (by kernel_rfl) (fun _ _ _ h=>h) (Or.inl ⟨by rfl,?hy36⟩) hHeld ?rest36
     case hy36=>(intro w hSw;(try dsimp only at hSw);go_simp;(try (with_reducible rfl)))
     (try simp only [Act.put,List.setIfInBounds_toArray,List.set_cons_zero,List.set_cons_succ])
     refine wpAnyH_done (by kernel_rfl) ?_ _
     go_wp2
     go_roundw
     case rel=>exact ⟨j + 1,g3,h3,d3,congrArg (Value.int .i64) (by rw [ew];omega),hlt,T5.out.drewN q,C3.out,F3.out⟩
     case measure=>rw [ew];simp [intOf];omega
    ·have hin : ¬ (j : Int) < (k : Int):=by omega
     go_wp2
     go_ret
     exact ⟨rfl,T.out.bel⟩
end Go.Proofs.YtcfmifongbapkaaGreatDoor

namespace Go.Proofs.YtcfmifongbapkaaGreatDoor

open Go.RowKit Go.Lib

theorem utf8_cells {w : World} (h3 : VarReads Tryz.prog w "unicode/utf8.first" Rows.laid_unicode_utf8_first) (h4 : VarReads Tryz.prog w "unicode/utf8.acceptRanges" Rows.laid_unicode_utf8_acceptRanges) : Tabs w :=
 utf8Tabs_of_readsT (U8Types.of196 Tryz.laysValid) ⟨by kernel_rfl,by kernel_rfl,by kernel_rfl,by kernel_rfl,by kernel_rfl,by kernel_rfl,by kernel_rfl⟩ (Go.Pinned.utf8First_eq ▸ h3) h4
end Go.Proofs.YtcfmifongbapkaaGreatDoor
