/- Contracts of command.putSource, putYes and Put. Conditions: what they are handed lies in memory; the tables of utf8 lie there. Contracts of frame.Sum and of the document's own Sum: both answer the sum of the bytes. Condition: the bytes lie in memory. Contracts of frame.Wrap and of the document's own Wrap, and of the statements' function awake. Conditions: the body lies in memory and is not longer than 2^40. Words for a row of structs that a call makes beside its boxes, and for a call that answers such a row. No condition. Words for several rows of the call's own beside boxes: any of them may grow, the boxes may be written to. -/
import Derived.Test.YtcfmifongbapkaaGreatDoorRQ
import Derived.Test.YtcfmifongbapkaaGreatDoorRI
import Derived.Test.YtcfmifongbapkaaGreatDoorRS
import Derived.Deep.RegionHeld3
import Derived.Test.YtcfmifongbapkaaGreatDoorRA
import Derived.Test.YtcfmifongbapkaaGreatDoorRB
import Derived.Test.YtcfmifongbapkaaGreatDoorRJ
import Derived.Test.YtcfmifongbapkaaGreatDoorRC
import Derived.Lib.SlBytesConst
import Derived.Test.YtcfmifongbapkaaGreatDoorRD
namespace Go.Proofs.YtcfmifongbapkaaGreatDoor
set_option maxRecDepth 100000
set_option maxHeartbeats 4000000
open Go.RowKit
open Go.Lib (hid)
set_option linter.unusedVariables false
/-- Bytes with a command behind them. -/
noncomputable def putC (l : List UInt8) (c : Cm) : List UInt8:=if formCm c = true then l ++ cmB c else l
theorem form_M {x : CmM} {rs : List RdM} {ws : List WrM} (h : formCm (cmT x rs ws) = true) : (x.k = 0∧cmB (cmT x rs ws) = putB 0 1)∨(x.k = 1∧formT formedB (txT (x.s,x.q) rs ws) = true∧cmB (cmT x rs ws) = putB 1 1 ++ txnB bytesV (txT (x.s,x.q) rs ws)) ∨
  (x.k = 2∧(idB (x.i,x.j) = true∧0≤x.g∧x.g < 4)∧cmB (cmT x rs ws) = putB 2 1 ++ (idBytes (x.i,x.j) ++ (putB x.g.toNat 1 ++ putB x.st 8)))∨(x.k = 3∧(idB (x.i,x.j) = true∧0≤x.g∧x.g < 4)∧cmB (cmT x rs ws) = putB 3 1 ++ (idBytes (x.i,x.j) ++ (putB x.g.toNat 1 ++ putB (yesN x.y) 1))):=by
 have hk:=form_kinds h
 rcases hk with e | ⟨h1,e⟩ | ⟨⟨h1,h2,h3,h4,h5⟩,e⟩ | ⟨⟨h1,h2,h3⟩,e⟩
 ·exact .inl ⟨congrArg Cm.k e,by rw [e];exact List.append_nil _⟩
 ·exact .inr (.inl ⟨congrArg Cm.k e,h1,by rw [e];rfl⟩)
 ·exact .inr (.inr (.inl ⟨congrArg Cm.k e,⟨h1,h2,h3⟩,by rw [e];rfl⟩))
 ·exact .inr (.inr (.inr ⟨congrArg Cm.k e,⟨h1,h2,h3⟩,by rw [e];rfl⟩))
theorem kPutSource_any (pa : Option Addr) (pk pc : Nat) (l : List UInt8) (x : CmM) (w : World) (hl : BAt w w.heap.size pa pk l) (hk : pk≤1099511000000) (hi : idB (x.i,x.j) = true) (hg : 0≤x.g) (hg4 : x.g < 4) :
  Calls Tryz.prog 74 #[.slice pa pk pc,.agg (cmV x)] w (NewB w (l ++ (idBytes (x.i,x.j) ++ putB x.g.toNat 1))):=by
 have H0:=hid ((Boxs.start w).more (cmV x) 33)
 have HL : Hid (∀ W,Below w.heap.size w W→BAt W W.heap.size pa pk l):=fun W hW=>(hl.below hW (Nat.le_refl _)).more hW.size
 have hll:=hl.len
 have cI : ∀ W,BAt W W.heap.size pa pk l→Calls Tryz.prog 103 #[.slice pa pk pc,.agg #[.int .i64 x.i,.int .i64 x.j]] W (NewB W (l ++ idBytes (x.i,x.j))):=fun W h=>(tPutId_any pa pk pc x.i x.j l W h (by omega)).mono fun e w' h=>h.cast (by unfold putId;rw [if_pos hi])
 have cP : ∀ a1 n1 c1 L W,BAt W W.heap.size a1 n1 L→n1≤1099511627776→Calls Tryz.prog 34 #[.slice a1 n1 c1,.int .u64 (IntKind.u64.wrap x.g),.int .i64 1] W (NewB W (L ++ putB x.g.toNat 1)):=fun a1 n1 c1 L W h1 h2=>by
  have h:=putw_any a1 n1 c1 x.g.toNat 1 L W h1 h2 (by omega)
  rw [Int.toNat_of_nonneg hg] at h;exact h
 have HM : Hid (∀ r : Nat,(l ++ idBytes (x.i,x.j)).length = r→r≤1099511627776):=fun r hr=>by rw [List.length_append,idBytes_len] at hr;omega
 have HE : Hid (l ++ (idBytes (x.i,x.j) ++ putB x.g.toNat 1) = (l ++ idBytes (x.i,x.j)) ++ putB x.g.toNat 1):=by unfold Hid;rw [List.append_assoc]
 rw [HE.out]
 clear hl hi hll
 generalize idBytes (x.i,x.j) = I at *
 generalize putB x.g.toNat 1 = J at *
 go_enter Tryz.func74,Tryz.ntmps74
 go_upto_region 1 with (fail)
 have X0:=hid H0.out.drew
 have s0:=(X0.out.get 0 _ _ _ rfl).ten
 go_region_held3 (fun W=>(W.cell? ⟨w.heap.size,0,none⟩ = some (.int .i64 x.k)∧W.cell? ⟨w.heap.size,1,none⟩ = some (.int .i64 x.s)∧W.cell? ⟨w.heap.size,2,none⟩ = some (.int .i64 x.q)∧W.cell? ⟨w.heap.size,3,none⟩ = some (.slice x.a x.n x.c)∧W.cell? ⟨w.heap.size,4,none⟩ = some (.slice x.b x.m x.d)∧W.cell? ⟨w.heap.size,5,none⟩ = some (.int .i64 x.i)∧W.cell? ⟨w.heap.size,6,none⟩ = some (.int .i64 x.j)∧W.cell? ⟨w.heap.size,7,none⟩ = some (.int .i64 x.g)∧W.cell? ⟨w.heap.size,8,none⟩ = some (.int .u64 ((x.st : Nat) : Int))∧W.cell? ⟨w.heap.size,9,none⟩ = some (.bool x.y))) (first | (with_reducible exact s0) | (with_reducible exact s1) | (with_reducible exact s2))
  (first | (go_at_call 103;((with_reducible refine (cI _ (HL.out _ X0.out.bel)).mono ?_);rintro e v1 ⟨a1,n1,c1,rfl,ho1,hb1⟩;have X1:=hid (X0.out.below hb1);have s1:=(X1.out.get 0 _ _ _ rfl).ten;have L1:=hid (BAt.of_own ho1);have L2:=hid (HM.out _ (own_len ho1)))) | (go_at_call 34;((with_reducible refine (cP a1 n1 c1 _ _ L1.out L2.out).mono ?_);intro e v2 h2;have N2:=hid (NewB.on h2 X1.out.bel);obtain ⟨a2,n2,c2,rfl,ho2,hb2⟩:=h2;have X2:=hid (X1.out.below hb2);have s2:=(X2.out.get 0 _ _ _ rfl).ten)))
 go_wp2
 go_ret
 exact N2.out
theorem kPutYes_any (pa : Option Addr) (pk pc : Nat) (l : List UInt8) (y : Bool) (w : World) (hl : BAt w w.heap.size pa pk l) (hk : pk≤1099511000000) :
  Calls Tryz.prog 75 #[.slice pa pk pc,.bool y] w (NewB w (l ++ putB (yesN y) 1)):=by
 have c1 : Calls Tryz.prog 34 #[.slice pa pk pc,.int .u64 1,.int .i64 1] w (NewB w (l ++ putB 1 1)):=put_any pa pk pc 1 1 l w hl (by omega) (by omega)
 have c0 : Calls Tryz.prog 34 #[.slice pa pk pc,.int .u64 0,.int .i64 1] w (NewB w (l ++ putB 0 1)):=put_any pa pk pc 0 1 l w hl (by omega) (by omega)
 clear hl
 cases y
 ·show Calls _ _ _ _ (NewB w (l ++ putB 0 1))
  generalize l ++ putB 0 1 = M at *
  go_enter Tryz.func75,Tryz.ntmps75
  go_wp2_with (go_at_call 34;((with_reducible refine c0.mono ?_);intro e w2 h2;have N2:=hid h2;obtain ⟨a2,n2,c2,rfl,ho2,hb2⟩:=h2))
  go_ret
  exact N2.out
 ·show Calls _ _ _ _ (NewB w (l ++ putB 1 1))
  generalize l ++ putB 1 1 = M at *
  go_enter Tryz.func75,Tryz.ntmps75
  go_wp2_with (go_at_call 34;((with_reducible refine c1.mono ?_);intro e w2 h2;have N2:=hid h2;obtain ⟨a2,n2,c2,rfl,ho2,hb2⟩:=h2))
  go_ret
  exact N2.out
theorem kPut_any (pa : Option Addr) (pk pc : Nat) (l : List UInt8) (x : CmM) (rs : List RdM) (ws : List WrM) (w : World) (hl : BAt w w.heap.size pa pk l) (hpk : pk≤1099510000000) (h : CmAt w x rs ws) (hn : x.n≤1000000) (hm : x.m≤1000000) (hU : Tabs w) :
  Calls Tryz.prog 36 #[.slice pa pk pc,.agg (cmV x)] w (NewB w (putC l (cmT x rs ws))):=by
 have H0:=hid ((Boxs.start w).more (cmV x) 33)
 have cF:=fun W (hW : Below w.heap.size w W)=>kFormed_any x rs ws W (h.later hW) hn hm (hU.below hW)
 have HL : Hid (∀ W,Below w.heap.size w W→BAt W W.heap.size pa pk l):=fun W hW=>(hl.below hW (Nat.le_refl _)).more hW.size
 clear hl
 unfold putC
 cases hf : formCm (cmT x rs ws)
 ·rw [hf] at cF
  rw [if_neg (by decide)]
  obtain ⟨x0,x1,x2,x3,x4,x5,x6,x7,x8,x9⟩:=(H0.out.get 0 _ _ _ rfl).ten
  clear hf h hU
  go_enter Tryz.func36,Tryz.ntmps36
  go_wp2_with (first | (go_at_call 50;((with_reducible refine (cF _ H0.out.bel).mono ?_);rintro e w1 ⟨rfl,hb1⟩;have H1:=hid (H0.out.below hb1))) | (go_at_call 65;((with_reducible refine (bclone_any pa pk pc l _ (HL.out _ H1.out.bel) (by omega)).mono ?_);intro e w2 h2;have N2:=hid (NewB.on h2 H1.out.bel);obtain ⟨a2,n2,c2,rfl,ho2,hb2⟩:=h2)))
  go_ret
  exact N2.out
 rw [hf] at cF
 rw [if_pos rfl]
 have hst:=h.st
 rcases form_M hf with ⟨hk,e⟩ | ⟨hk,ht,e⟩ | ⟨hk,⟨hi,hg,hg4⟩,e⟩ | ⟨hk,⟨hi,hg,hg4⟩,e⟩
 ·rw [e]
  clear e hf h hU
  obtain ⟨k,s,q,a,n,c,b,m,d,i,j,g,st,y⟩:=x
  simp only at hk
  subst hk
  have cK : ∀ W,Calls Tryz.prog 34 #[.slice none 0 0,.int .u64 0,.int .i64 1] W (NewB W (putB 0 1)):=fun W=>put_any none 0 0 0 1 [] W BAt.nil (by omega) (by omega)
  obtain ⟨x0,x1,x2,x3,x4,x5,x6,x7,x8,x9⟩:=(H0.out.get 0 _ _ _ rfl).ten
  go_enter Tryz.func36,Tryz.ntmps36
  go_wp2_with (first | (go_at_call 50;((with_reducible refine (cF _ H0.out.bel).mono ?_);rintro e w1 ⟨rfl,hb1⟩;have H1:=hid (H0.out.below hb1);(clear x0 x1 x2 x3 x4 x5 x6 x7 x8 x9);obtain ⟨x0,x1,x2,x3,x4,x5,x6,x7,x8,x9⟩:=(H1.out.get 0 _ _ _ rfl).ten)) | (go_at_call 34;((with_reducible refine (cK _).mono ?_);rintro e w2 ⟨a2,n2,c2,rfl,ho2,hb2⟩;have H2:=hid (H1.out.below hb2);(clear x0 x1 x2 x3 x4 x5 x6 x7 x8 x9);obtain ⟨x0,x1,x2,x3,x4,x5,x6,x7,x8,x9⟩:=(H2.out.get 0 _ _ _ rfl).ten;have B2:=hid (BAt.of_own ho2);have hn2 : n2≤1:=by (have:=own_len ho2;rw [putB_len] at this;omega))) | (go_at_call 76;((with_reducible refine (concatBytes_any w2 _ pa pk pc l a2 n2 c2 _ (HL.out _ H2.out.bel) B2.out (by omega) (by omega)).mono ?_);intro e w9 h9;have N9:=hid (NewB.on h9 H2.out.bel);obtain ⟨a9,n9,c9,rfl,ho9,hb9⟩:=h9)))
  go_ret
  exact N9.out
 ·rw [e]
  have hmx:=txnB_max _ ht
  have hX:=h.tx
  obtain ⟨k,s,q,a,n,c,b,m,d,i,j,g,st,y⟩:=x
  simp only at hk
  subst hk
  have cK : ∀ W,Calls Tryz.prog 34 #[.slice none 0 0,.int .u64 1,.int .i64 1] W (NewB W (putB 1 1)):=fun W=>put_any none 0 0 1 1 [] W BAt.nil (by omega) (by omega)
  have cT : ∀ a1 n1 c1 W,Below w.heap.size w W→BAt W W.heap.size a1 n1 (putB 1 1)→n1≤1→Calls Tryz.prog 73 #[.slice a1 n1 c1,.agg (txV s q a n c b m d)] W (NewB W (putB 1 1 ++ txnB bytesV (txT (s,q) rs ws))):=fun a1 n1 c1 W hW h1 h2=>(tPut_any a1 n1 c1 (putB 1 1) s q a n c b m d rs ws W h1 (by omega) (hX.later hW) (hU.below hW)).mono fun e w' h=>h.cast (by unfold putT;rw [if_pos ht])
  have HM : Hid (∀ z : Nat,(putB 1 1 ++ txnB bytesV (txT (s,q) rs ws)).length = z→z≤1179728):=fun z hz=>by rw [List.length_append,putB_len] at hz;have h1 : (txnB bytesV (txT (s,q) rs ws)).length≤1179727:=hmx;omega
  show Calls _ _ _ _ (NewB w (l ++ (putB 1 1 ++ txnB bytesV (txT (s,q) rs ws))))
  generalize putB 1 1 ++ txnB bytesV (txT (s,q) rs ws) = K2 at *
  obtain ⟨x0,x1,x2,x3,x4,x5,x6,x7,x8,x9⟩:=(H0.out.get 0 _ _ _ rfl).ten
  clear e hf h hU hX ht hmx
  go_enter Tryz.func36,Tryz.ntmps36
  go_wp2_with (first | (go_at_call 50;((with_reducible refine (cF _ H0.out.bel).mono ?_);rintro e w1 ⟨rfl,hb1⟩;have H1:=hid (H0.out.below hb1);(clear x0 x1 x2 x3 x4 x5 x6 x7 x8 x9);obtain ⟨x0,x1,x2,x3,x4,x5,x6,x7,x8,x9⟩:=(H1.out.get 0 _ _ _ rfl).ten)) | (go_at_call 34;((with_reducible refine (cK _).mono ?_);rintro e w2 ⟨a2,n2,c2,rfl,ho2,hb2⟩;have H2:=hid (H1.out.below hb2);(clear x0 x1 x2 x3 x4 x5 x6 x7 x8 x9);obtain ⟨x0,x1,x2,x3,x4,x5,x6,x7,x8,x9⟩:=(H2.out.get 0 _ _ _ rfl).ten;have B2:=hid (BAt.of_own ho2);have hn2 : n2≤1:=by (have:=own_len ho2;rw [putB_len] at this;omega))) | (go_at_call 73;((with_reducible refine (cT a2 n2 c2 _ H2.out.bel B2.out hn2).mono ?_);rintro e w3 ⟨a3,n3,c3,rfl,ho3,hb3⟩;have H3:=hid (H2.out.below hb3);have B3:=hid (BAt.of_own ho3);have hn3:=HM.out _ (own_len ho3))) | (go_at_call 76;((with_reducible refine (concatBytes_any w3 _ pa pk pc l a3 n3 c3 _ (HL.out _ H3.out.bel) B3.out (by omega) (by omega)).mono ?_);intro e w9 h9;have N9:=hid (NewB.on h9 H3.out.bel);obtain ⟨a9,n9,c9,rfl,ho9,hb9⟩:=h9)))
  go_ret
  exact N9.out
 ·rw [e]
  clear e hf h hU
  obtain ⟨k,s,q,a,n,c,b,m,d,i,j,g,st,y⟩:=x
  simp only at hk
  subst hk
  have cK : ∀ W,Calls Tryz.prog 34 #[.slice none 0 0,.int .u64 2,.int .i64 1] W (NewB W (putB 2 1)):=fun W=>put_any none 0 0 2 1 [] W BAt.nil (by omega) (by omega)
  have cO : ∀ a1 n1 c1 L W,BAt W W.heap.size a1 n1 L→n1≤1→Calls Tryz.prog 74 #[.slice a1 n1 c1,.agg (cmV ⟨2,s,q,a,n,c,b,m,d,i,j,g,st,y⟩)] W (NewB W (L ++ (idBytes (i,j) ++ putB g.toNat 1))):=fun a1 n1 c1 L W h1 h2=>kPutSource_any a1 n1 c1 L ⟨2,s,q,a,n,c,b,m,d,i,j,g,st,y⟩ W h1 (by omega) hi hg hg4
  have cP : ∀ a1 n1 c1 L W,BAt W W.heap.size a1 n1 L→n1≤1099511627776→Calls Tryz.prog 34 #[.slice a1 n1 c1,.int .u64 ((st : Nat) : Int),.int .i64 8] W (NewB W (L ++ putB st 8)):=fun a1 n1 c1 L W h1 h2=>put_any a1 n1 c1 st 8 L W h1 h2 hst
  have HE : Hid (putB 2 1 ++ (idBytes (i,j) ++ (putB g.toNat 1 ++ putB st 8)) = (putB 2 1 ++ (idBytes (i,j) ++ putB g.toNat 1)) ++ putB st 8):=by unfold Hid;simp only [List.append_assoc]
  have HM4 : Hid (∀ z : Nat,(putB 2 1 ++ (idBytes (i,j) ++ putB g.toNat 1)).length = z→z≤7):=fun z hz=>by simp only [List.length_append,putB_len,idBytes_len] at hz;omega
  have HM5 : Hid (∀ z : Nat,((putB 2 1 ++ (idBytes (i,j) ++ putB g.toNat 1)) ++ putB st 8).length = z→z≤15):=fun z hz=>by simp only [List.length_append,putB_len,idBytes_len] at hz;omega
  show Calls _ _ _ _ (NewB w (l ++ (putB 2 1 ++ (idBytes (i,j) ++ (putB g.toNat 1 ++ putB st 8)))))
  rw [HE.out]
  generalize idBytes (i,j) ++ putB g.toNat 1 = K2 at *
  generalize putB st 8 = K3 at *
  obtain ⟨x0,x1,x2,x3,x4,x5,x6,x7,x8,x9⟩:=(H0.out.get 0 _ _ _ rfl).ten
  clear hi hg hg4 HE
  go_enter Tryz.func36,Tryz.ntmps36
  go_upto_region 8 with (first | (go_at_call 50;((with_reducible refine (cF _ H0.out.bel).mono ?_);rintro e w1 ⟨rfl,hb1⟩;have H1:=hid (H0.out.below hb1);(clear x0 x1 x2 x3 x4 x5 x6 x7 x8 x9);obtain ⟨x0,x1,x2,x3,x4,x5,x6,x7,x8,x9⟩:=(H1.out.get 0 _ _ _ rfl).ten)) | (go_at_call 34;((with_reducible refine (cK _).mono ?_);rintro e w2 ⟨a2,n2,c2,rfl,ho2,hb2⟩;have H2:=hid (H1.out.below hb2);(clear x0 x1 x2 x3 x4 x5 x6 x7 x8 x9);obtain ⟨x0,x1,x2,x3,x4,x5,x6,x7,x8,x9⟩:=(H2.out.get 0 _ _ _ rfl).ten;have B2:=hid (BAt.of_own ho2);have hn2 : n2≤1:=by (have:=own_len ho2;rw [putB_len] at this;omega))))
  (clear x0 x1 x2 x3 x4 x5 x6 x7 x8 x9)
  have X0:=hid H2.out.drew
  have s0:=(X0.out.get 0 _ _ _ rfl).ten
  have L0 : Hid (BAt w2.drew w2.drew.heap.size a2 n2 (putB 2 1)):=BAt.of_own (own_below ho2 (below_drewN 1 (Below.refl _ _)))
  go_region_held3 (fun W=>(W.cell? ⟨w.heap.size,0,none⟩ = some (.int .i64 2)∧W.cell? ⟨w.heap.size,1,none⟩ = some (.int .i64 s)∧W.cell? ⟨w.heap.size,2,none⟩ = some (.int .i64 q)∧W.cell? ⟨w.heap.size,3,none⟩ = some (.slice a n c)∧W.cell? ⟨w.heap.size,4,none⟩ = some (.slice b m d)∧W.cell? ⟨w.heap.size,5,none⟩ = some (.int .i64 i)∧W.cell? ⟨w.heap.size,6,none⟩ = some (.int .i64 j)∧W.cell? ⟨w.heap.size,7,none⟩ = some (.int .i64 g)∧W.cell? ⟨w.heap.size,8,none⟩ = some (.int .u64 ((st : Nat) : Int))∧W.cell? ⟨w.heap.size,9,none⟩ = some (.bool y))) (first | (with_reducible exact s0) | (with_reducible exact s1) | (with_reducible exact s2))
   (first | (go_at_call 74;((with_reducible refine (cO a2 n2 c2 _ _ L0.out hn2).mono ?_);rintro e v4 ⟨a4,n4,c4,rfl,ho4,hb4⟩;have X4:=hid (X0.out.below hb4);have s1:=(X4.out.get 0 _ _ _ rfl).ten;have L4:=hid (BAt.of_own ho4);have hn4:=HM4.out _ (own_len ho4))) | (go_at_call 34;((with_reducible refine (cP a4 n4 c4 _ _ L4.out (by omega)).mono ?_);rintro e v5 ⟨a5,n5,c5,rfl,ho5,hb5⟩;have X5:=hid (X4.out.below hb5);have s2:=(X5.out.get 0 _ _ _ rfl).ten;have L5:=hid (BAt.of_own ho5);have hn5:=HM5.out _ (own_len ho5))))
  obtain ⟨x0,x1,x2,x3,x4,x5,x6,x7,x8,x9⟩:=(X5.out.get 0 _ _ _ rfl).ten
  (clear s0 s1 s2 X0 L0 X4 L4)
  go_wp2_with (go_at_call 76;((with_reducible refine (concatBytes_any v5 _ pa pk pc l a5 n5 c5 _ (HL.out _ X5.out.bel) L5.out (by omega) (by omega)).mono ?_);intro e w9 h9;have N9:=hid (NewB.on h9 X5.out.bel);obtain ⟨a9,n9,c9,rfl,ho9,hb9⟩:=h9))
  go_ret
  exact N9.out
 ·rw [e]
  clear e hf h hU
  obtain ⟨k,s,q,a,n,c,b,m,d,i,j,g,st,y⟩:=x
  simp only at hk
  subst hk
  have cK : ∀ W,Calls Tryz.prog 34 #[.slice none 0 0,.int .u64 3,.int .i64 1] W (NewB W (putB 3 1)):=fun W=>put_any none 0 0 3 1 [] W BAt.nil (by omega) (by omega)
  have cO : ∀ a1 n1 c1 L W,BAt W W.heap.size a1 n1 L→n1≤1→Calls Tryz.prog 74 #[.slice a1 n1 c1,.agg (cmV ⟨3,s,q,a,n,c,b,m,d,i,j,g,st,y⟩)] W (NewB W (L ++ (idBytes (i,j) ++ putB g.toNat 1))):=fun a1 n1 c1 L W h1 h2=>kPutSource_any a1 n1 c1 L ⟨3,s,q,a,n,c,b,m,d,i,j,g,st,y⟩ W h1 (by omega) hi hg hg4
  have cP : ∀ a1 n1 c1 L W,BAt W W.heap.size a1 n1 L→n1≤1099511000000→Calls Tryz.prog 75 #[.slice a1 n1 c1,.bool y] W (NewB W (L ++ putB (yesN y) 1)):=fun a1 n1 c1 L W h1 h2=>kPutYes_any a1 n1 c1 L y W h1 h2
  have HE : Hid (putB 3 1 ++ (idBytes (i,j) ++ (putB g.toNat 1 ++ putB (yesN y) 1)) = (putB 3 1 ++ (idBytes (i,j) ++ putB g.toNat 1)) ++ putB (yesN y) 1):=by unfold Hid;simp only [List.append_assoc]
  have HM4 : Hid (∀ z : Nat,(putB 3 1 ++ (idBytes (i,j) ++ putB g.toNat 1)).length = z→z≤7):=fun z hz=>by simp only [List.length_append,putB_len,idBytes_len] at hz;omega
  have HM5 : Hid (∀ z : Nat,((putB 3 1 ++ (idBytes (i,j) ++ putB g.toNat 1)) ++ putB (yesN y) 1).length = z→z≤15):=fun z hz=>by simp only [List.length_append,putB_len,idBytes_len] at hz;omega
  show Calls _ _ _ _ (NewB w (l ++ (putB 3 1 ++ (idBytes (i,j) ++ (putB g.toNat 1 ++ putB (yesN y) 1)))))
  rw [HE.out]
  generalize idBytes (i,j) ++ putB g.toNat 1 = K2 at *
  generalize putB (yesN y) 1 = K3 at *
  obtain ⟨x0,x1,x2,x3,x4,x5,x6,x7,x8,x9⟩:=(H0.out.get 0 _ _ _ rfl).ten
  clear hi hg hg4 HE
  go_enter Tryz.func36,Tryz.ntmps36
  go_upto_region 10 with (first | (go_at_call 50;((with_reducible refine (cF _ H0.out.bel).mono ?_);rintro e w1 ⟨rfl,hb1⟩;have H1:=hid (H0.out.below hb1);(clear x0 x1 x2 x3 x4 x5 x6 x7 x8 x9);obtain ⟨x0,x1,x2,x3,x4,x5,x6,x7,x8,x9⟩:=(H1.out.get 0 _ _ _ rfl).ten)) | (go_at_call 34;((with_reducible refine (cK _).mono ?_);rintro e w2 ⟨a2,n2,c2,rfl,ho2,hb2⟩;have H2:=hid (H1.out.below hb2);(clear x0 x1 x2 x3 x4 x5 x6 x7 x8 x9);obtain ⟨x0,x1,x2,x3,x4,x5,x6,x7,x8,x9⟩:=(H2.out.get 0 _ _ _ rfl).ten;have B2:=hid (BAt.of_own ho2);have hn2 : n2≤1:=by (have:=own_len ho2;rw [putB_len] at this;omega))))
  (clear x0 x1 x2 x3 x4 x5 x6 x7 x8 x9)
  have X0:=hid H2.out.drew
  have s0:=(X0.out.get 0 _ _ _ rfl).ten
  have L0 : Hid (BAt w2.drew w2.drew.heap.size a2 n2 (putB 3 1)):=BAt.of_own (own_below ho2 (below_drewN 1 (Below.refl _ _)))
  go_region_held3 (fun W=>(W.cell? ⟨w.heap.size,0,none⟩ = some (.int .i64 3)∧W.cell? ⟨w.heap.size,1,none⟩ = some (.int .i64 s)∧W.cell? ⟨w.heap.size,2,none⟩ = some (.int .i64 q)∧W.cell? ⟨w.heap.size,3,none⟩ = some (.slice a n c)∧W.cell? ⟨w.heap.size,4,none⟩ = some (.slice b m d)∧W.cell? ⟨w.heap.size,5,none⟩ = some (.int .i64 i)∧W.cell? ⟨w.heap.size,6,none⟩ = some (.int .i64 j)∧W.cell? ⟨w.heap.size,7,none⟩ = some (.int .i64 g)∧W.cell? ⟨w.heap.size,8,none⟩ = some (.int .u64 ((st : Nat) : Int))∧W.cell? ⟨w.heap.size,9,none⟩ = some (.bool y))) (first | (with_reducible exact s0) | (with_reducible exact s1) | (with_reducible exact s2))
   (first | (go_at_call 74;((with_reducible refine (cO a2 n2 c2 _ _ L0.out hn2).mono ?_);rintro e v4 ⟨a4,n4,c4,rfl,ho4,hb4⟩;have X4:=hid (X0.out.below hb4);have s1:=(X4.out.get 0 _ _ _ rfl).ten;have L4:=hid (BAt.of_own ho4);have hn4:=HM4.out _ (own_len ho4))) | (go_at_call 75;((with_reducible refine (cP a4 n4 c4 _ _ L4.out (by omega)).mono ?_);rintro e v5 ⟨a5,n5,c5,rfl,ho5,hb5⟩;have X5:=hid (X4.out.below hb5);have s2:=(X5.out.get 0 _ _ _ rfl).ten;have L5:=hid (BAt.of_own ho5);have hn5:=HM5.out _ (own_len ho5))))
  obtain ⟨x0,x1,x2,x3,x4,x5,x6,x7,x8,x9⟩:=(X5.out.get 0 _ _ _ rfl).ten
  (clear s0 s1 s2 X0 L0 X4 L4)
  go_wp2_with (go_at_call 76;((with_reducible refine (concatBytes_any v5 _ pa pk pc l a5 n5 c5 _ (HL.out _ X5.out.bel) L5.out (by omega) (by omega)).mono ?_);intro e w9 h9;have N9:=hid (NewB.on h9 X5.out.bel);obtain ⟨a9,n9,c9,rfl,ho9,hb9⟩:=h9))
  go_ret
  exact N9.out
theorem crcN_succ (k v : Nat) : crcN (k + 1) v = crcN k (crcStep v):=rfl
theorem sum_bits (v : Nat) (hv : v < 4294967296) : bits .and .u32 (v : Int) 1 = ((v % 2 : Nat) : Int):=by
 have:=u32_and_nat v 1 hv (by omega)
 rw [nat_mask1] at this;exact this
theorem sum_over (v : Nat) (hv : v < 4294967296) : bits .xor .u32 ((v : Int) / 2) 3988292384 = ((v / 2 ^^^ 3988292384 : Nat) : Int):=u32_xor_nat (v / 2) 3988292384 (by omega) (by omega)
theorem sum_byte (v c : Nat) (hv : v < 4294967296) (hc : c < 256) : bits .xor .u32 (v : Int) (c : Int) = ((v ^^^ c : Nat) : Int):=u32_xor_nat v c hv (by omega)
theorem sum_last (v : Nat) (hv : v < 4294967296) : bits .xor .u32 (v : Int) 4294967295 = ((4294967295 - v : Nat) : Int):=by
 have:=u32_xor_nat v 4294967295 hv (by omega)
 rw [all_turned v hv] at this;exact this
theorem shift_any (s : Nat) (w : World) (hs : s < 4294967296) :
  Calls Tryz.prog 140 #[.int .u32 s] w fun e w'=>e = .returned (.int .u32 (crcN 8 s : Nat))∧w = w':=by
 go_enter Tryz.func140,Tryz.ntmps140
 go_wp2
 go_loop [0,4] (fun x i => ∃ (j v : Nat),j≤8∧i = .int .i64 j∧x = .int .u32 v∧v < 4294967296∧crcN (8 - j) v = crcN 8 s) (fun _ i=>8 - (intOf i).toNat)
 case atStart=>exact ⟨0,s,by omega,rfl,rfl,hs,rfl⟩
 case round =>
  obtain ⟨j,v,hj,rfl,rfl,hv,hc⟩:=hrel
  by_cases hlt : j < 8
  ·have e1 : 8 - j = (8 - (j + 1)) + 1:=by omega
   rw [e1,crcN_succ] at hc
   have hst:=crcStep_lt v hv
   have HC:=hid hc
   clear hc e1
   have g1:=sum_bits v hv
   have g2:=sum_over v hv
   rcases Nat.mod_two_eq_zero_or_one v with h0 | h1
   ·rw [h0] at g1
    have hx : crcStep v = v / 2:=by unfold crcStep;rw [if_neg (by omega)]
    rw [hx] at HC hst
    clear hx g2
    go_wp2
    go_round
    case rel=>exact ⟨j + 1,v / 2,by omega,by go_num,by go_num,hst,HC.out⟩
    case measure=>simp [intOf];omega
   ·rw [h1] at g1
    have hx : crcStep v = v / 2 ^^^ 3988292384:=by unfold crcStep;rw [if_pos h1]
    rw [hx] at HC hst
    clear hx
    generalize v / 2 ^^^ 3988292384 = u at *
    go_wp2
    go_round
    case rel=>exact ⟨j + 1,u,by omega,by go_num,by go_num,hst,HC.out⟩
    case measure=>simp [intOf];omega
  ·obtain rfl : j = 8:=by omega
   have HC:=hid hc
   clear hc
   go_wp2
   go_ret
   exact ⟨by rw [← HC.out];rfl,rfl⟩
theorem sum_any (B : Nat) (a : Option Addr) (n c : Nat) (l : List UInt8) (w : World) (h : BAt w B a n l) (hn : n≤maxLen) :
  Calls Tryz.prog 128 #[.slice a n c] w fun e w'=>e = .returned (.int .u32 (sumB l : Nat))∧w = w':=by
 unfold maxLen at hn
 go_enter Tryz.func128,Tryz.ntmps128
 go_wp2
 go_loop [3,8] (fun x i => ∃ (k : Nat),k≤n∧i = .int .i64 k∧x = .int .u32 (crcAll 4294967295 (l.take k) : Nat)) (fun _ i=>n - (intOf i).toNat)
 case atStart=>exact ⟨0,by omega,rfl,rfl⟩
 case round =>
  obtain ⟨k,hk,rfl,rfl⟩:=hrel
  have hlen:=h.len
  have hv:=crcAll_lt 4294967295 (l.take k) (by omega)
  by_cases hlt : k < n
  ·obtain ⟨b,off,rfl,_,hc⟩:=h.at_ (i:=k) (by omega)
   have hS : crcAll 4294967295 (l.take (k + 1)) = crcN 8 (crcAll 4294967295 (l.take k) ^^^ (l[k]'(by omega)).toNat):=by
    rw [take_snoc _ _ (by omega),crcAll_snoc];rfl
   have hb8:=(l[k]'(by omega)).toNat_lt
   have HS:=hid hS
   clear hS
   generalize crcAll 4294967295 (l.take k) = v at *
   generalize (l[k]'(by omega)).toNat = d at *
   have g1:=sum_byte v d hv hb8
   have hx : v ^^^ d < 4294967296:=Nat.xor_lt_two_pow (n:=32) hv (by omega)
   generalize v ^^^ d = u at *
   clear h hlen
   go_wp2_with (go_at_call 140;((with_reducible refine (shift_any u _ hx).mono ?_);rintro e w' ⟨rfl,rfl⟩))
   go_round
   case rel=>exact ⟨k + 1,by omega,by go_num,by rw [HS.out]⟩
   case measure=>simp [intOf];omega
  ·have e1 : l.take k = l:=List.take_of_length_le (by omega)
   rw [e1] at hv ⊢
   have g:=sum_last _ hv
   have HS : Hid (sumB l = 4294967295 - crcAll 4294967295 l):=rfl
   generalize crcAll 4294967295 l = v at *
   clear h hlen e1
   go_wp2
   go_ret
   exact ⟨by rw [HS.out];rfl,rfl⟩
theorem refSum_any (B : Nat) (a : Option Addr) (n c : Nat) (l : List UInt8) (w : World) (h : BAt w B a n l) (hn : n≤maxLen) :
  Calls Tryz.prog 138 #[.slice a n c] w fun e w'=>e = .returned (.int .u32 (sumB l : Nat))∧w = w':=by
 unfold maxLen at hn
 go_enter Tryz.func138,Tryz.ntmps138
 go_wp2
 go_loop [3,4] (fun x i => ∃ (k : Nat),k≤n∧i = .int .i64 k∧x = .int .u32 (crcAll 4294967295 (l.take k) : Nat)) (fun _ i=>n - (intOf i).toNat)
 case atStart=>exact ⟨0,by omega,rfl,rfl⟩
 case round =>
  obtain ⟨k,hk,rfl,rfl⟩:=hrel
  have hlen:=h.len
  have hv:=crcAll_lt 4294967295 (l.take k) (by omega)
  by_cases hlt : k < n
  ·obtain ⟨b,off,rfl,_,hc⟩:=h.at_ (i:=k) (by omega)
   have hS : crcAll 4294967295 (l.take (k + 1)) = crcN 8 (crcAll 4294967295 (l.take k) ^^^ (l[k]'(by omega)).toNat):=by
    rw [take_snoc _ _ (by omega),crcAll_snoc];rfl
   have hb8:=(l[k]'(by omega)).toNat_lt
   have HS:=hid hS
   clear hS
   generalize crcAll 4294967295 (l.take k) = v at *
   generalize (l[k]'(by omega)).toNat = d at *
   have g1:=sum_byte v d hv hb8
   have hx : v ^^^ d < 4294967296:=Nat.xor_lt_two_pow (n:=32) hv (by omega)
   generalize v ^^^ d = s at *
   clear h hlen
   go_wp2
   clear g1
   go_loop [3,5] (fun x i => ∃ (j v : Nat),j≤8∧i = .int .i64 j∧x = .int .u32 v∧v < 4294967296∧crcN (8 - j) v = crcN 8 s) (fun _ i=>8 - (intOf i).toNat)
   case atStart=>exact ⟨0,s,by omega,rfl,rfl,hx,rfl⟩
   case round =>
    obtain ⟨j,v,hj,rfl,rfl,hv,hc⟩:=hrel
    by_cases hlt : j < 8
    ·have e1 : 8 - j = (8 - (j + 1)) + 1:=by omega
     rw [e1,crcN_succ] at hc
     have hst:=crcStep_lt v hv
     have HC:=hid hc
     clear hc e1
     have g2:=sum_over v hv
     rcases Nat.mod_two_eq_zero_or_one v with h0 | h1
     ·have g1 : (v : Int) % 2 = 0:=by omega
      have hx : crcStep v = v / 2:=by unfold crcStep;rw [if_neg (by omega)]
      rw [hx] at HC hst
      clear hx g2 h0
      go_wp2
      go_round
      case rel=>exact ⟨j + 1,v / 2,by omega,by go_num,by go_num,hst,HC.out⟩
      case measure=>simp [intOf];omega
     ·have g1 : (v : Int) % 2 = 1:=by omega
      have hx : crcStep v = v / 2 ^^^ 3988292384:=by unfold crcStep;rw [if_pos h1]
      rw [hx] at HC hst
      clear hx h1
      generalize v / 2 ^^^ 3988292384 = u at *
      go_wp2
      go_round
      case rel=>exact ⟨j + 1,u,by omega,by go_num,by go_num,hst,HC.out⟩
      case measure=>simp [intOf];omega
    ·obtain rfl : j = 8:=by omega
     have hc' : v = crcN 8 s:=hc
     subst hc'
     clear hc
     go_wp2
     go_round
     case rel=>exact ⟨k + 1,by omega,by go_num,by rw [HS.out]⟩
     case measure=>simp [intOf];omega
  ·have e1 : l.take k = l:=List.take_of_length_le (by omega)
   rw [e1] at hv ⊢
   have HS : Hid (sumB l = 4294967295 - crcAll 4294967295 l):=rfl
   generalize crcAll 4294967295 l = v at *
   clear h hlen e1
   go_wp2
   go_ret
   exact ⟨by rw [HS.out];go_num,rfl⟩
theorem held4 : held 4 = 4:=by decide
theorem sumB_lt' (l : List UInt8) : sumB l < 4294967296:=sumB_lt l
/-- New memory that holds the bytes l is answered, and OK. -/
def NewB2 (w : World) (l : List UInt8) (e : Ending) (w' : World) : Prop :=
 ∃ a n c,e = .returned (.tuple #[.slice a n c,.int .i64 0])∧w'.ownsRow w.heap.size 5 1 (.slice a n c) n (bcells l)∧Below w.heap.size w w'
theorem PutIn.out2 {w wr : World} {v : Value} {n : Nat} {l : List UInt8} (h : PutIn w wr v n l) : NewB2 w l (.returned (.tuple #[v,.int .i64 0])) wr:=by
 obtain ⟨a,c,rfl,_⟩:=own_form h.1
 exact ⟨a,n,c,rfl,h.1,h.2⟩
theorem wrap_yes (a : Option Addr) (m c : Nat) (l : List UInt8) (w : World) (hl : BAt w w.heap.size a m l) (hm : m≤60000) :
  Calls Tryz.prog 100 #[.slice a m c] w (NewB2 w (frameB l)):=by
 obtain ⟨i0,hi,hz0,hz1,hz2⟩:=info_parts Tryz.info5
 have hlen:=hl.len
 have hF : Hid (frameB l = ([] ++ putB m (held 4)) ++ putB (sumB l) (held 4) ++ l):=by rw [← hlen];rfl
 have hs:=sumB_lt' l
 have HL:=hid hlen
 clear hlen
 have hd : decide ((60000 : Int) < (m : Int)) = false:=by simp;omega
 go_enter Tryz.func100,Tryz.ntmps100
 go_wp2_with (first | (go_at_call 34;((with_reducible refine (put_any none 0 0 m 4 [] _ BAt.nil (by omega) (by omega)).mono ?_);rintro e w1 ⟨a1,n1,c1,rfl,ho1,hb1⟩;have hn1:=own_len ho1;have hn1' : n1 = 4:=hn1.symm.trans (by rw [List.nil_append,putB_len,held4]);subst hn1';clear hn1;have hl1 : BAt w1 w.heap.size a m l:=hl.below hb1 (Nat.le_refl _))) | (go_at_call 128;((with_reducible refine (sum_any w.heap.size a m c l _ hl1 (by unfold maxLen;omega)).mono ?_);rintro e w' ⟨rfl,rfl⟩)) | (go_at_call 34;((with_reducible refine (put_any a1 4 c1 (sumB l) 4 _ _ (BAt.of_own ho1) (by omega) (by omega)).mono ?_);rintro e w2 ⟨a2,n2,c2,rfl,ho2,hb2⟩;have hn2:=own_len ho2;have hn2' : n2 = 8:=hn2.symm.trans (by rw [List.nil_append,List.length_append,putB_len,putB_len,held4]);subst hn2';clear hn2;have hB2 : Below w.heap.size w w2:=hb1.trans (hb2.mono hb1.size))) | (at_builtin;(refine wpList_append_bytes _ rfl _ _ 34 rfl w.heap.size 5 i0 Tryz.underlying34 hi hz0 hz1 hz2 _ 8 _ rfl (own_base ho2 hb1.size) w.heap.size a m l c rfl (hl.below hB2 (Nat.le_refl _)) (by omega) hB2.size ?_;intro v3 w3 ho3 hg3;have R : PutIn w w3 v3 _ _:=PutIn.next0 ⟨own_base ho2 hb1.size,hB2⟩ ho3 hg3;clear ho3 hg3)))
 go_ret2
 rw [hF.out]
 exact R.out2
theorem refWrap_yes (a : Option Addr) (m c : Nat) (l : List UInt8) (w : World) (hl : BAt w w.heap.size a m l) (hm : m≤60000) :
  Calls Tryz.prog 126 #[.slice a m c] w (NewB2 w (frameB l)):=by
 obtain ⟨i0,hi,hz0,hz1,hz2⟩:=info_parts Tryz.info5
 have hlen:=hl.len
 have hF : Hid (frameB l = ([] ++ putB m (held 4)) ++ putB (sumB l) (held 4) ++ l):=by rw [← hlen];rfl
 have hs:=sumB_lt' l
 have HL:=hid hlen
 clear hlen
 have hd : decide ((60000 : Int) < (m : Int)) = false:=by simp;omega
 go_enter Tryz.func126,Tryz.ntmps126
 go_wp2_with (first | (go_at_call 40;((with_reducible refine (refPut_any none 0 0 m 4 [] _ BAt.nil (by omega) (by omega) (by omega) (by omega)).mono ?_);rintro e w1 ⟨a1,n1,c1,rfl,ho1,hb1⟩;have hn1:=own_len ho1;have hn1' : n1 = 4:=hn1.symm.trans (by rw [List.nil_append,putB_len,held4]);subst hn1';clear hn1;have hl1 : BAt w1 w.heap.size a m l:=hl.below hb1 (Nat.le_refl _))) | (go_at_call 138;((with_reducible refine (refSum_any w.heap.size a m c l _ hl1 (by unfold maxLen;omega)).mono ?_);rintro e w' ⟨rfl,rfl⟩)) | (go_at_call 40;((with_reducible refine (refPut_any a1 4 c1 (sumB l) 4 _ _ (BAt.of_own ho1) (by omega) (by omega) (by omega) (by omega)).mono ?_);rintro e w2 ⟨a2,n2,c2,rfl,ho2,hb2⟩;have hn2:=own_len ho2;have hn2' : n2 = 8:=hn2.symm.trans (by rw [List.nil_append,List.length_append,putB_len,putB_len,held4]);subst hn2';clear hn2;have hB2 : Below w.heap.size w w2:=hb1.trans (hb2.mono hb1.size))) | (at_builtin;(refine wpList_append_bytes _ rfl _ _ 34 rfl w.heap.size 5 i0 Tryz.underlying34 hi hz0 hz1 hz2 _ 8 _ rfl (own_base ho2 hb1.size) w.heap.size a m l c rfl (hl.below hB2 (Nat.le_refl _)) (by omega) hB2.size ?_;intro v3 w3 ho3 hg3;have R : PutIn w w3 v3 _ _:=PutIn.next0 ⟨own_base ho2 hb1.size,hB2⟩ ho3 hg3;clear ho3 hg3)))
 go_ret2
 rw [hF.out]
 exact R.out2
/-- A row of elements of k cells is the call's own, beside boxes that lie there. -/
def MadeL {α : Type} (f : α→List Value) (k : Nat) (e : TypeId) (w wr : World) (v : Value) (l : List α) (L : List (Nat×Array Value×TypeId)) : Prop :=
 Boxs w wr L∧wr.ownsRow w.heap.size e k v l.length (l.flatMap f)∧∀ b ∈ L,v.ownBlock≠some b.1
/-- A new row is answered. -/
def NewL {α : Type} (f : α→List Value) (k : Nat) (w : World) (l : List α) (e : Ending) (w' : World) : Prop :=
 ∃ a c,e = .returned (.slice a l.length c)∧RowAt w' w'.heap.size a l.length k (l.flatMap f)∧((l.length≤c∧c≤maxLen)∧∀ j,(Value.slice a l.length c).ownBlock = some j→w.heap.size≤j)∧Below w.heap.size w w'
section
variable {α : Type} {f : α→List Value} {k : Nat} {e : TypeId} {w wr w1 : World} {v v' : Value} {l : List α} {x : α} {L : List (Nat×Array Value×TypeId)} {o : Obj}
end
/-- A row: the kind of its elements, how many cells each has, the slice, how many there are, and the cells. -/
structure Row1 where
 e : TypeId
 k : Nat
 v : Value
 n : Nat
 xs : List Value
/-- Two rows lie apart. -/
def Apart (r s : Row1) : Prop := ∀ j,r.v.ownBlock = some j→s.v.ownBlock≠some j
/-- Rows of the call's own, apart from one another and from the boxes. -/
def Owns (w W : World) (L : List (Nat×Array Value×TypeId)) (Rs : List Row1) : Prop :=
 Boxs w W L∧(∀ r ∈ Rs,W.ownsRow w.heap.size r.e r.k r.v r.n r.xs∧∀ b ∈ L,r.v.ownBlock≠some b.1)∧Rs.Pairwise Apart
section
variable {w W W' : World} {L : List (Nat×Array Value×TypeId)} {Rs Rs' : List Row1} {r : Row1}
theorem own_keep {B n k : Nat} {e : TypeId} {v : Value} {xs : List Value} (h : W.ownsRow B e k v n xs) (hk : ∀ j,v.ownBlock = some j→W'.heap[j]? = W.heap[j]?) : W'.ownsRow B e k v n xs:=by
 refine ⟨h.1,?_⟩
 rcases h.2 with ⟨rfl,rfl⟩ | ⟨b,cap,cur,rfl,h1,hh,hr⟩
 ·exact .inl ⟨rfl,rfl⟩
 ·exact .inr ⟨b,cap,cur,rfl,h1,(hk b rfl).trans hh,hr⟩
end
end Go.Proofs.YtcfmifongbapkaaGreatDoor
