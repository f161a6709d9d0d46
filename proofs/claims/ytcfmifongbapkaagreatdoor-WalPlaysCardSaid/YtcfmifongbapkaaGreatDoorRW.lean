/- Contracts of the document's Write and Frame. Conditions: the record's lists lie in memory, and are no longer than a million. Contract of the program's Take of values. Conditions: its reader lies in memory; utf8's tables hold what they hold. Boxes made after others; a transaction in memory while a box is written to. No condition. -/
import Derived.Test.YtcfmifongbapkaaGreatDoorRO
import Derived.Test.YtcfmifongbapkaaGreatDoorRU
import Derived.Test.YtcfmifongbapkaaGreatDoorRV
import Derived.Test.YtcfmifongbapkaaGreatDoorRR
import Derived.Test.YtcfmifongbapkaaGreatDoorRD
import Derived.Test.YtcfmifongbapkaaGreatDoorRQ
import Derived.Test.YtcfmifongbapkaaGreatDoorRE
namespace Go.Proofs.YtcfmifongbapkaaGreatDoor
set_option maxRecDepth 100000
set_option maxHeartbeats 8000000
open Go.RowKit
open Go.Lib (hid)
set_option linter.unusedVariables false
set_option linter.unusedSimpArgs false
theorem BoxC.allR {w : World} {g : Nat} {x : RcM} (h : BoxC w g (rcV x) 47) : w.cell? ⟨g,0,none⟩ = some (.int .i64 x.k)∧w.cell? ⟨g,1,none⟩ = some (.int .u32 ((x.br : Nat) : Int))∧w.cell? ⟨g,2,none⟩ = some (.int .i64 x.bn)∧w.cell? ⟨g,3,none⟩ = some (.int .i64 x.sl)∧w.cell? ⟨g,4,none⟩ = some (.int .i64 x.cm.k)∧w.cell? ⟨g,5,none⟩ = some (.int .i64 x.cm.s)∧w.cell? ⟨g,6,none⟩ = some (.int .i64 x.cm.q)∧w.cell? ⟨g,7,none⟩ = some (.slice x.cm.a x.cm.n x.cm.c)∧w.cell? ⟨g,8,none⟩ = some (.slice x.cm.b x.cm.m x.cm.d)∧w.cell? ⟨g,9,none⟩ = some (.int .i64 x.cm.i)∧w.cell? ⟨g,10,none⟩ = some (.int .i64 x.cm.j)∧w.cell? ⟨g,11,none⟩ = some (.int .i64 x.cm.g)∧w.cell? ⟨g,12,none⟩ = some (.int .u64 ((x.cm.st : Nat) : Int))∧w.cell? ⟨g,13,none⟩ = some (.bool x.cm.y)∧w.cell? ⟨g,14,none⟩ = some (.slice x.da x.dn x.dc)∧(Go.Proofs.YtcfmifongbapkaaGreatDoor.ldR (.pointer (some ⟨g,0,none⟩))).run Tryz.prog w = .ok (.agg (rcV x)) w :=
 ⟨h.cell 0 _ rfl,h.cell 1 _ rfl,h.cell 2 _ rfl,h.cell 3 _ rfl,h.cell 4 _ rfl,h.cell 5 _ rfl,h.cell 6 _ rfl,h.cell 7 _ rfl,h.cell 8 _ rfl,h.cell 9 _ rfl,h.cell 10 _ rfl,h.cell 11 _ rfl,h.cell 12 _ rfl,h.cell 13 _ rfl,h.cell 14 _ rfl,h.ldR⟩
theorem rWrite_no (x : RcM) (L : RcL) (w : World) (h : RcAt w x L) (hf : RcF x) (hF : formR (rcT x L) = false) :
  Calls Tryz.prog 11 #[.agg (rcV x)] w (NoForm w):=by
 have H0:=hid ((Boxs.start w).more (rcV x) 47)
 have cF : ∀ W,Below w.heap.size w W→Calls Tryz.prog 16 #[.agg (rcV x)] W (Says W false):=fun W hW=>by have:=rFormed13_any x L W (h.later hW) hf;rw [hF] at this;exact this
 have xR:=(H0.out.get 0 _ _ _ rfl).ldR
 clear h hf
 go_enter Tryz.func11,Tryz.ntmps11
 go_wp2_with (go_at_call 16;((with_reducible refine (cF _ H0.out.bel).mono ?_);rintro e w1 ⟨rfl,hb1⟩;have H1:=hid (H0.out.below hb1)))
 go_ret2
 exact ⟨rfl,H1.out.bel⟩
theorem rWrite_yes (x : RcM) (L : RcL) (w : World) (h : RcAt w x L) (hf : RcF x) (hF : formR (rcT x L) = true) :
  Calls Tryz.prog 11 #[.agg (rcV x)] w (NewB2 w (rcB (rcT x L))):=by
 obtain ⟨i0,hi,hz0,hz1,hz2⟩:=info_parts Tryz.info5
 have H0:=hid ((Boxs.start w).more (rcV x) 47)
 have cF : ∀ W,Below w.heap.size w W→Calls Tryz.prog 16 #[.agg (rcV x)] W (Says W true):=fun W hW=>by have:=rFormed13_any x L W (h.later hW) hf;rw [hF] at this;exact this
 have cS : ∀ a n c (l : List UInt8) (S : Nat) W,BAt W W.heap.size a n l→n≤1000000→S≤1000000→Calls Tryz.prog 40 #[.slice a n c,.int .u64 ((S : Nat) : Int),.int .i64 4] W (NewB W (l ++ putB S 4)):=fun a n c l S W h1 h2 h3=>refPut_any a n c S 4 l W h1 (by omega) (by omega) (by omega) (by omega)
 have cB : ∀ a n c (l : List UInt8) W,BAt W W.heap.size a n l→n≤1000000→formB x.bn = true→Calls Tryz.prog 39 #[.slice a n c,.agg #[.int .u32 ((x.br : Nat) : Int),.int .i64 x.bn]] W (NewB W (l ++ balBytes (((x.br : Nat) : Int),x.bn))):=fun a n c l W h1 h2 h3=>by
  have h4:=rPut_any a n c x.br x.bn l W h1 (by omega) h.br
  rw [bal_put _ _ h3] at h4;exact h4
 have cC : ∀ a n c (l : List UInt8) W,BAt W W.heap.size a n l→n≤1000000→Below w.heap.size w W→formCm (cmT x.cm L.rs L.ws) = true→Calls Tryz.prog 41 #[.slice a n c,.agg (cmV x.cm)] W (NewB W (l ++ cmB (cmT x.cm L.rs L.ws))):=fun a n c l W h1 h2 hW h3=>(dPut_any a n c l x.cm L.rs L.ws W h1 (by omega) (h.cm.later hW) hf.n hf.m).mono fun e w' h=>h.cast (by unfold putC;rw [if_pos h3])
 have HD : Hid (∀ W,Below w.heap.size w W→BAt W w.heap.size x.da x.dn L.dl):=fun W hW=>h.da.below hW (Nat.le_refl _)
 have hdl:=h.da.len
 have hFR:=(formR_iff _).1 hF
 clear h hf hF
 obtain ⟨x0,x1,x2,x3,x4,x5,x6,x7,x8,x9,x10,x11,x12,x13,x14,xR⟩:=(H0.out.get 0 _ _ _ rfl).allR
 unfold FormR slotP rcT at hFR
 simp only at hFR
 unfold rcT
 unfold rcB
 simp only
 rcases hFR with ⟨hk,f1,f2,f3,f4⟩ | ⟨hk,f1,f2,f3,f4⟩ | ⟨hk,f1,f2,f3,f4⟩ | ⟨hk,f1,f2,f3,f4⟩
 ·clear hdl
  obtain ⟨k,br,bn,sl,cm,da,dn,dc⟩:=x
  simp only at hk
  subst hk
  dsimp only at cB cC cF f1 f2 f3 f4
  clear HD
  subst f2
  show Calls _ _ _ _ (NewB2 w (putB 1 1 ++ (balBytes (((br : Nat) : Int),bn))))
  rw [put_one 1]
  go_enter Tryz.func11,Tryz.ntmps11
  go_upto_region 4 with (go_at_call 16;((with_reducible refine (cF _ H0.out.bel).mono ?_);rintro e w1 ⟨rfl,hb1⟩;have H1:=hid (H0.out.below hb1);(clear x0 x1 x2 x3 x4 x5 x6 x7 x8 x9 x10 x11 x12 x13 x14 xR);obtain ⟨x0,x1,x2,x3,x4,x5,x6,x7,x8,x9,x10,x11,x12,x13,x14,xR⟩:=(H1.out.get 0 _ _ _ rfl).allR))
  have X2 : Hid (Boxs w (w1.alloc (.cells #[.int .u8 1] 5)) [(w.heap.size,rcV ⟨1,br,bn,0,cm,da,dn,dc⟩,47)]):=H1.out.below ((Below.refl _ _).alloc (Nat.le_refl _) _)
  have L2 : Hid (BAt (w1.alloc (.cells #[.int .u8 1] 5)) (w1.alloc (.cells #[.int .u8 1] 5)).heap.size (some ⟨w1.heap.size,0,none⟩) 1 [UInt8.ofNat 1]):=(BAt.one _ _ _ _ rfl).more (by simp)
  clear H0 H1 x0 x1 x2 x3 x4 x5 x6 x7 x8 x9 x10 x11 x12 x13 x14 xR cF hb1
  generalize w1.alloc (.cells #[.int .u8 1] 5) = v2 at *
  generalize w1.heap.size = b2 at *
  obtain ⟨x0,x1,x2,x3,x4,x5,x6,x7,x8,x9,x10,x11,x12,x13,x14,xR⟩:=(X2.out.get 0 _ _ _ rfl).allR
  go_wp2_with ((go_at_call 39;((with_reducible refine (cB _ _ _ _ _ L2.out (by omega) f1).mono ?_);rintro e v3 ⟨a3,n3,c3,rfl,ho3,hb3⟩;have X3:=hid (X2.out.below hb3);have L3:=hid (BAt.of_own ho3);have hn3:=own_len ho3;have P3:=hid (PutIn.call X2.out.bel ho3 hb3);(clear x0 x1 x2 x3 x4 x5 x6 x7 x8 x9 x10 x11 x12 x13 x14 xR);obtain ⟨x0,x1,x2,x3,x4,x5,x6,x7,x8,x9,x10,x11,x12,x13,x14,xR⟩:=(X3.out.get 0 _ _ _ rfl).allR;clear ho3 hb3)))
  go_ret2
  have E:=P3.out.out2
  try simp only [List.append_assoc] at E
  exact E
 ·clear hdl
  obtain ⟨k,br,bn,sl,cm,da,dn,dc⟩:=x
  simp only at hk
  subst hk
  dsimp only at cB cC cF f1 f2 f3 f4
  clear HD
  obtain ⟨g1,g2⟩:=f2
  obtain ⟨S,rfl⟩ : ∃ S : Nat,sl = ((S : Nat) : Int):=⟨sl.toNat,by omega⟩
  have hS : S≤1000000:=by omega
  have eS : (((S : Nat) : Int)).toNat = S:=Int.toNat_natCast S
  clear g1 g2
  show Calls _ _ _ _ (NewB2 w (putB 2 1 ++ (balBytes (((br : Nat) : Int),bn) ++ (putB (((S : Nat) : Int)).toNat 4 ++ cmB (cmT cm L.rs L.ws)))))
  rw [eS]
  clear eS
  rw [put_one 2]
  go_enter Tryz.func11,Tryz.ntmps11
  go_upto_region 4 with (go_at_call 16;((with_reducible refine (cF _ H0.out.bel).mono ?_);rintro e w1 ⟨rfl,hb1⟩;have H1:=hid (H0.out.below hb1);(clear x0 x1 x2 x3 x4 x5 x6 x7 x8 x9 x10 x11 x12 x13 x14 xR);obtain ⟨x0,x1,x2,x3,x4,x5,x6,x7,x8,x9,x10,x11,x12,x13,x14,xR⟩:=(H1.out.get 0 _ _ _ rfl).allR))
  have X2 : Hid (Boxs w (w1.alloc (.cells #[.int .u8 2] 5)) [(w.heap.size,rcV ⟨2,br,bn,((S : Nat) : Int),cm,da,dn,dc⟩,47)]):=H1.out.below ((Below.refl _ _).alloc (Nat.le_refl _) _)
  have L2 : Hid (BAt (w1.alloc (.cells #[.int .u8 2] 5)) (w1.alloc (.cells #[.int .u8 2] 5)).heap.size (some ⟨w1.heap.size,0,none⟩) 1 [UInt8.ofNat 2]):=(BAt.one _ _ _ _ rfl).more (by simp)
  clear H0 H1 x0 x1 x2 x3 x4 x5 x6 x7 x8 x9 x10 x11 x12 x13 x14 xR cF hb1
  generalize w1.alloc (.cells #[.int .u8 2] 5) = v2 at *
  generalize w1.heap.size = b2 at *
  obtain ⟨x0,x1,x2,x3,x4,x5,x6,x7,x8,x9,x10,x11,x12,x13,x14,xR⟩:=(X2.out.get 0 _ _ _ rfl).allR
  go_wp2_with (first | (go_at_call 39;((with_reducible refine (cB _ _ _ _ _ L2.out (by omega) f1).mono ?_);rintro e v3 ⟨a3,n3,c3,rfl,ho3,hb3⟩;have X3:=hid (X2.out.below hb3);have L3:=hid (BAt.of_own ho3);have hn3:=own_len ho3;have P3:=hid (PutIn.call X2.out.bel ho3 hb3);(clear x0 x1 x2 x3 x4 x5 x6 x7 x8 x9 x10 x11 x12 x13 x14 xR);obtain ⟨x0,x1,x2,x3,x4,x5,x6,x7,x8,x9,x10,x11,x12,x13,x14,xR⟩:=(X3.out.get 0 _ _ _ rfl).allR;clear ho3 hb3)) | (go_at_call 40;((with_reducible refine (cS _ _ _ _ S _ L3.out (by have:=hn3;simp only [List.length_append,putB_len,balBytes_len,List.length_cons,List.length_nil] at this;omega) hS).mono ?_);rintro e v4 ⟨a4,n4,c4,rfl,ho4,hb4⟩;have X4:=hid (X3.out.below hb4);have L4:=hid (BAt.of_own ho4);have hn4:=own_len ho4;have P4:=hid (PutIn.call X3.out.bel ho4 hb4);(clear x0 x1 x2 x3 x4 x5 x6 x7 x8 x9 x10 x11 x12 x13 x14 xR);obtain ⟨x0,x1,x2,x3,x4,x5,x6,x7,x8,x9,x10,x11,x12,x13,x14,xR⟩:=(X4.out.get 0 _ _ _ rfl).allR;clear ho4 hb4)) | (go_at_call 41;((with_reducible refine (cC _ _ _ _ _ L4.out (by have:=hn4;simp only [List.length_append,putB_len,balBytes_len,List.length_cons,List.length_nil] at this;omega) X4.out.bel f3).mono ?_);rintro e v5 ⟨a5,n5,c5,rfl,ho5,hb5⟩;have X5:=hid (X4.out.below hb5);have L5:=hid (BAt.of_own ho5);have hn5:=own_len ho5;have P5:=hid (PutIn.call X4.out.bel ho5 hb5);(clear x0 x1 x2 x3 x4 x5 x6 x7 x8 x9 x10 x11 x12 x13 x14 xR);obtain ⟨x0,x1,x2,x3,x4,x5,x6,x7,x8,x9,x10,x11,x12,x13,x14,xR⟩:=(X5.out.get 0 _ _ _ rfl).allR;clear ho5 hb5)))
  go_ret2
  have E:=P5.out.out2
  try simp only [List.append_assoc] at E
  exact E
 ·clear hdl
  obtain ⟨k,br,bn,sl,cm,da,dn,dc⟩:=x
  simp only at hk
  subst hk
  dsimp only at cB cC cF f1 f2 f3 f4
  clear HD
  obtain ⟨g1,g2⟩:=f2
  obtain ⟨S,rfl⟩ : ∃ S : Nat,sl = ((S : Nat) : Int):=⟨sl.toNat,by omega⟩
  have hS : S≤1000000:=by omega
  have eS : (((S : Nat) : Int)).toNat = S:=Int.toNat_natCast S
  clear g1 g2
  show Calls _ _ _ _ (NewB2 w (putB 3 1 ++ (putB (((S : Nat) : Int)).toNat 4 ++ cmB (cmT cm L.rs L.ws))))
  rw [eS]
  clear eS
  rw [put_one 3]
  go_enter Tryz.func11,Tryz.ntmps11
  go_upto_region 4 with (go_at_call 16;((with_reducible refine (cF _ H0.out.bel).mono ?_);rintro e w1 ⟨rfl,hb1⟩;have H1:=hid (H0.out.below hb1);(clear x0 x1 x2 x3 x4 x5 x6 x7 x8 x9 x10 x11 x12 x13 x14 xR);obtain ⟨x0,x1,x2,x3,x4,x5,x6,x7,x8,x9,x10,x11,x12,x13,x14,xR⟩:=(H1.out.get 0 _ _ _ rfl).allR))
  have X2 : Hid (Boxs w (w1.alloc (.cells #[.int .u8 3] 5)) [(w.heap.size,rcV ⟨3,br,bn,((S : Nat) : Int),cm,da,dn,dc⟩,47)]):=H1.out.below ((Below.refl _ _).alloc (Nat.le_refl _) _)
  have L2 : Hid (BAt (w1.alloc (.cells #[.int .u8 3] 5)) (w1.alloc (.cells #[.int .u8 3] 5)).heap.size (some ⟨w1.heap.size,0,none⟩) 1 [UInt8.ofNat 3]):=(BAt.one _ _ _ _ rfl).more (by simp)
  clear H0 H1 x0 x1 x2 x3 x4 x5 x6 x7 x8 x9 x10 x11 x12 x13 x14 xR cF hb1
  generalize w1.alloc (.cells #[.int .u8 3] 5) = v2 at *
  generalize w1.heap.size = b2 at *
  obtain ⟨x0,x1,x2,x3,x4,x5,x6,x7,x8,x9,x10,x11,x12,x13,x14,xR⟩:=(X2.out.get 0 _ _ _ rfl).allR
  go_wp2_with (first | (go_at_call 40;((with_reducible refine (cS _ _ _ _ S _ L2.out (by omega) hS).mono ?_);rintro e v3 ⟨a3,n3,c3,rfl,ho3,hb3⟩;have X3:=hid (X2.out.below hb3);have L3:=hid (BAt.of_own ho3);have hn3:=own_len ho3;have P3:=hid (PutIn.call X2.out.bel ho3 hb3);(clear x0 x1 x2 x3 x4 x5 x6 x7 x8 x9 x10 x11 x12 x13 x14 xR);obtain ⟨x0,x1,x2,x3,x4,x5,x6,x7,x8,x9,x10,x11,x12,x13,x14,xR⟩:=(X3.out.get 0 _ _ _ rfl).allR;clear ho3 hb3)) | (go_at_call 41;((with_reducible refine (cC _ _ _ _ _ L3.out (by have:=hn3;simp only [List.length_append,putB_len,balBytes_len,List.length_cons,List.length_nil] at this;omega) X3.out.bel f3).mono ?_);rintro e v4 ⟨a4,n4,c4,rfl,ho4,hb4⟩;have X4:=hid (X3.out.below hb4);have L4:=hid (BAt.of_own ho4);have hn4:=own_len ho4;have P4:=hid (PutIn.call X3.out.bel ho4 hb4);(clear x0 x1 x2 x3 x4 x5 x6 x7 x8 x9 x10 x11 x12 x13 x14 xR);obtain ⟨x0,x1,x2,x3,x4,x5,x6,x7,x8,x9,x10,x11,x12,x13,x14,xR⟩:=(X4.out.get 0 _ _ _ rfl).allR;clear ho4 hb4)))
  go_ret2
  have E:=P4.out.out2
  try simp only [List.append_assoc] at E
  exact E
 ·have hd : x.dn≤59900:=by omega
  obtain ⟨k,br,bn,sl,cm,da,dn,dc⟩:=x
  simp only at hk
  subst hk
  dsimp only at cB cC cF f1 f2 f3 f4 HD hd hdl
  obtain ⟨g1,g2⟩:=f2
  obtain ⟨S,rfl⟩ : ∃ S : Nat,sl = ((S : Nat) : Int):=⟨sl.toNat,by omega⟩
  have hS : S≤1000000:=by omega
  have eS : (((S : Nat) : Int)).toNat = S:=Int.toNat_natCast S
  clear g1 g2
  show Calls _ _ _ _ (NewB2 w (putB 4 1 ++ (putB (((S : Nat) : Int)).toNat 4 ++ dataB L.dl)))
  rw [eS]
  clear eS
  have eDD : dataB L.dl = putB dn 4 ++ L.dl:=by unfold dataB;rw [hdl]
  rw [eDD]
  clear eDD
  rw [put_one 4]
  go_enter Tryz.func11,Tryz.ntmps11
  go_upto_region 4 with (go_at_call 16;((with_reducible refine (cF _ H0.out.bel).mono ?_);rintro e w1 ⟨rfl,hb1⟩;have H1:=hid (H0.out.below hb1);(clear x0 x1 x2 x3 x4 x5 x6 x7 x8 x9 x10 x11 x12 x13 x14 xR);obtain ⟨x0,x1,x2,x3,x4,x5,x6,x7,x8,x9,x10,x11,x12,x13,x14,xR⟩:=(H1.out.get 0 _ _ _ rfl).allR))
  have X2 : Hid (Boxs w (w1.alloc (.cells #[.int .u8 4] 5)) [(w.heap.size,rcV ⟨4,br,bn,((S : Nat) : Int),cm,da,dn,dc⟩,47)]):=H1.out.below ((Below.refl _ _).alloc (Nat.le_refl _) _)
  have L2 : Hid (BAt (w1.alloc (.cells #[.int .u8 4] 5)) (w1.alloc (.cells #[.int .u8 4] 5)).heap.size (some ⟨w1.heap.size,0,none⟩) 1 [UInt8.ofNat 4]):=(BAt.one _ _ _ _ rfl).more (by simp)
  clear H0 H1 x0 x1 x2 x3 x4 x5 x6 x7 x8 x9 x10 x11 x12 x13 x14 xR cF hb1
  generalize w1.alloc (.cells #[.int .u8 4] 5) = v2 at *
  generalize w1.heap.size = b2 at *
  obtain ⟨x0,x1,x2,x3,x4,x5,x6,x7,x8,x9,x10,x11,x12,x13,x14,xR⟩:=(X2.out.get 0 _ _ _ rfl).allR
  go_upto_region 12 with (first | (go_at_call 40;((with_reducible refine (cS _ _ _ _ S _ L2.out (by omega) hS).mono ?_);rintro e v3 ⟨a3,n3,c3,rfl,ho3,hb3⟩;have X3:=hid (X2.out.below hb3);have L3:=hid (BAt.of_own ho3);have hn3:=own_len ho3;have P3:=hid (PutIn.call X2.out.bel ho3 hb3);(clear x0 x1 x2 x3 x4 x5 x6 x7 x8 x9 x10 x11 x12 x13 x14 xR);obtain ⟨x0,x1,x2,x3,x4,x5,x6,x7,x8,x9,x10,x11,x12,x13,x14,xR⟩:=(X3.out.get 0 _ _ _ rfl).allR;clear ho3 hb3)) | (go_at_call 40;((with_reducible refine (cS _ _ _ _ dn _ L3.out (by have:=hn3;simp only [List.length_append,putB_len,balBytes_len,List.length_cons,List.length_nil] at this;omega) (by omega)).mono ?_);rintro e v4 ⟨a4,n4,c4,rfl,ho4,hb4⟩;have X4:=hid (X3.out.below hb4);have L4:=hid (BAt.of_own ho4);have hn4:=own_len ho4;have P4:=hid (PutIn.call X3.out.bel ho4 hb4);(clear x0 x1 x2 x3 x4 x5 x6 x7 x8 x9 x10 x11 x12 x13 x14 xR);obtain ⟨x0,x1,x2,x3,x4,x5,x6,x7,x8,x9,x10,x11,x12,x13,x14,xR⟩:=(X4.out.get 0 _ _ _ rfl).allR;clear ho4 hb4)))
  have hm4 : n4≤1000000:=(by have:=hn4;simp only [List.length_append,putB_len,balBytes_len,List.length_cons,List.length_nil] at this;omega)
  go_wp2_with (at_builtin;(refine wpList_append_bytes _ rfl _ _ 34 rfl w.heap.size 5 i0 Tryz.underlying34 hi hz0 hz1 hz2 _ n4 _ rfl P4.out.own w.heap.size da dn L.dl dc rfl (HD.out _ X4.out.bel) (by omega) X4.out.bel.size ?_;intro v9 w9 ho9 hg9;have P9:=hid (P4.out.next0 ho9 hg9);clear ho9 hg9))
  obtain ⟨a9,c9,rfl⟩:=P9.out.form
  go_ret2
  have E:=P9.out.out2
  try simp only [List.append_assoc] at E
  exact E
theorem rFrame_yes (x : RcM) (L : RcL) (w : World) (h : RcAt w x L) (hf : RcF x) (hF : formR (rcT x L) = true) :
  Calls Tryz.prog 96 #[.agg (rcV x)] w (NewB w (frameB (rcB (rcT x L)))):=by
 have H0:=hid ((Boxs.start w).more (rcV x) 47)
 have cW:=fun W (hW : Below w.heap.size w W)=>rWrite_yes x L W (h.later hW) hf hF
 have hmx:=(rcB_max ((formR_iff _).1 hF)).2
 have xR:=(H0.out.get 0 _ _ _ rfl).ldR
 clear h hf hF
 generalize rcB (rcT x L) = B at *
 go_enter Tryz.func96,Tryz.ntmps96
 go_wp2_with (first | (go_at_call 11;((with_reducible refine (cW _ H0.out.bel).mono ?_);rintro e w1 ⟨a1,n1,c1,rfl,ho1,hb1⟩;have H1:=hid (H0.out.below hb1);have hn1:=own_len ho1;have L1:=hid (BAt.of_own ho1))) | (go_at_call 126;((with_reducible refine (refWrap_yes _ _ _ _ _ L1.out (by omega)).mono ?_);rintro e w2 ⟨a2,n2,c2,rfl,ho2,hb2⟩;have P2:=hid (PutIn.call H1.out.bel ho2 hb2))))
 go_ret
 exact P2.out.out
/-- What holds while a value is taken: the reader, and the answer's cell. -/
def FW (w W : World) (g : Nat) (l : List UInt8) (ok : Bool) : Prop :=
 RdAt W g l ok∧Only g w W∧W.heap[w.heap.size]? = some (.cells #[.int .i64 0,.int .u64 0,.string ⟨#[]⟩] 155 (0,0))∧g < w.heap.size
section
variable {w W W' : World} {g : Nat} {l l' : List UInt8} {ok ok' : Bool}
theorem FW.start (h : RdAt w g l ok) : FW w (w.alloc (.cells #[.int .i64 0,.int .u64 0,.string ⟨#[]⟩] 155)) g l ok :=
 ⟨h.keep fun b hb=>Below.heap_alloc _ _ _ (by have:=h.lt;omega),⟨rfl,rfl,rfl,by simp,fun b hb _=>Below.heap_alloc _ _ _ hb⟩,heap_alloc_new _ _,h.lt⟩
theorem FW.rd (h : FW w W g l ok) : RdAt W g l ok:=h.1
theorem FW.size (h : FW w W g l ok) : w.heap.size < W.heap.size:=lt_of_heap h.2.2.1
theorem FW.only (h : FW w W g l ok) (hr : RdAt W' g l' ok') (ho : Only g W W') : FW w W' g l' ok' :=
 ⟨hr,h.2.1.trans ho,(ho.block _ h.size (fun e=>by injection e with e;have:=h.2.2.2;omega)).trans h.2.2.1,h.2.2.2⟩
theorem FW.below (h : FW w W g l ok) (hb : Below W.heap.size W W') : FW w W' g l ok :=
 h.only (h.1.below hb) ⟨hb.os,hb.tape,hb.output,hb.size,fun b hb' _=>hb.block _ hb'⟩
theorem FW.out (h : FW w W g l ok) (u v z : Value) : RdAt (((W.setCell ⟨w.heap.size,0,none⟩ u).setCell ⟨w.heap.size,1,none⟩ v).setCell ⟨w.heap.size,2,none⟩ z) g l ok∧Only g w (((W.setCell ⟨w.heap.size,0,none⟩ u).setCell ⟨w.heap.size,1,none⟩ v).setCell ⟨w.heap.size,2,none⟩ z):=by
 have hb : ∀ b,b < w.heap.size→(((W.setCell ⟨w.heap.size,0,none⟩ u).setCell ⟨w.heap.size,1,none⟩ v).setCell ⟨w.heap.size,2,none⟩ z).heap[b]? = W.heap[b]?:=by
  intro b hb
  rw [Below.heap_setCell _ _ _ _ (by show b≠w.heap.size;omega),Below.heap_setCell _ _ _ _ (by show b≠w.heap.size;omega),Below.heap_setCell _ _ _ _ (by show b≠w.heap.size;omega)]
 have hg:=h.2.2.2
 refine ⟨h.1.keep fun b hb'=>hb b (by omega),⟨h.2.1.os,h.2.1.tape,h.2.1.output,by have:=h.2.1.size;simpa [World.setCell] using this,fun b hb' hne=>(hb b hb').trans (h.2.1.block b hb' hne)⟩⟩
theorem FW.cells (h : FW w W g l ok) : W.cell? ⟨w.heap.size,0,none⟩ = some (.int .i64 0)∧W.cell? ⟨w.heap.size,1,none⟩ = some (.int .u64 0)∧W.cell? ⟨w.heap.size,2,none⟩ = some (.string ⟨#[]⟩)∧W.frozen? ⟨w.heap.size,0,none⟩ = false∧W.frozen? ⟨w.heap.size,1,none⟩ = false∧W.frozen? ⟨w.heap.size,2,none⟩ = false:=three_cells h.2.2.1
end
/-- A value is answered, and the reader is as it is. -/
def Got (g : Nat) (r : List UInt8) (ok : Bool) (k : Int) (b : Nat) (t : ByteArray) (w : World) (e : Ending) (w' : World) : Prop :=
 e = .returned (.agg #[.int .i64 k,.int .u64 (b : Nat),.string t])∧RdAt w' g r ok∧Only g w w'
theorem fields_num (g : Nat) (l r1 r2 : List UInt8) (ok ok1 ok2 : Bool) (w : World) (h : RdAt w g l ok) (x : Nat) (c1 : ∀ W,RdAt W g l ok→Calls Tryz.prog 80 #[.pointer (some ⟨g,0,none⟩),.int .i64 1] W fun e w'=>e = .returned (.int .u64 1)∧RdAt w' g r1 ok1∧Only g W w')
  (c8 : ∀ W,RdAt W g r1 ok1→Calls Tryz.prog 80 #[.pointer (some ⟨g,0,none⟩),.int .i64 8] W fun e w'=>e = .returned (.int .u64 (x : Nat))∧RdAt w' g r2 ok2∧Only g W w') :
  Calls Tryz.prog 157 #[.pointer (some ⟨g,0,none⟩)] w (Got g r2 ok2 1 x ⟨#[]⟩ w):=by
 have F0:=hid (FW.start h)
 clear h
 go_enter Tryz.func157,Tryz.ntmps157
 go_wp2_with (first | (go_at_call 80;((with_reducible refine (c1 _ F0.out.rd).mono ?_);rintro e w1 ⟨rfl,hr1,ho1⟩;have F1:=hid (F0.out.only hr1 ho1))) | (go_at_call 80;((with_reducible refine (c8 _ F1.out.rd).mono ?_);rintro e w2 ⟨rfl,hr2,ho2⟩;have F2:=hid (F1.out.only hr2 ho2))) | (go_at_call 146;((with_reducible refine (number_any x _).mono ?_);rintro e w3 ⟨rfl,hb3⟩;have F3:=hid (F2.out.below hb3);obtain ⟨m0,m1,m2,n0,n1,n2⟩:=F3.out.cells)))
 exact bodyPost_ret (v:=.agg #[.int .i64 1,.int .u64 x,.string ⟨#[]⟩]) (by simp [results,Tryz.results157,go_sem,m0,m1,m2]) rfl ⟨rfl,(F3.out.out _ _ _).1,(F3.out.out _ _ _).2⟩
theorem fields_text (g : Nat) (l r1 r2 : List UInt8) (ok ok1 ok2 : Bool) (w : World) (h : RdAt w g l ok) (S : ByteArray) (c1 : ∀ W,RdAt W g l ok→Calls Tryz.prog 80 #[.pointer (some ⟨g,0,none⟩),.int .i64 1] W fun e w'=>e = .returned (.int .u64 2)∧RdAt w' g r1 ok1∧Only g W w')
  (c8 : ∀ W,RdAt W g r1 ok1→Calls Tryz.prog 151 #[.pointer (some ⟨g,0,none⟩),.int .i64 40] W fun e w'=>e = .returned (.string S)∧RdAt w' g r2 ok2∧Only g W w') :
  Calls Tryz.prog 157 #[.pointer (some ⟨g,0,none⟩)] w (Got g r2 ok2 2 0 S w):=by
 have F0:=hid (FW.start h)
 clear h
 go_enter Tryz.func157,Tryz.ntmps157
 go_wp2_with (first | (go_at_call 80;((with_reducible refine (c1 _ F0.out.rd).mono ?_);rintro e w1 ⟨rfl,hr1,ho1⟩;have F1:=hid (F0.out.only hr1 ho1))) | (go_at_call 151;((with_reducible refine (c8 _ F1.out.rd).mono ?_);rintro e w2 ⟨rfl,hr2,ho2⟩;have F2:=hid (F1.out.only hr2 ho2))) | (go_at_call 148;((with_reducible refine (text_any S _).mono ?_);rintro e w3 ⟨rfl,hb3⟩;have F3:=hid (F2.out.below hb3);obtain ⟨m0,m1,m2,n0,n1,n2⟩:=F3.out.cells)))
 exact bodyPost_ret (v:=.agg #[.int .i64 2,.int .u64 0,.string S]) (by simp [results,Tryz.results157,go_sem,m0,m1,m2]) rfl ⟨rfl,(F3.out.out _ _ _).1,(F3.out.out _ _ _).2⟩
theorem fields_other (g : Nat) (l r1 : List UInt8) (ok ok1 : Bool) (w : World) (h : RdAt w g l ok) (c : Nat) (hc : c < 256) (h1 : c≠1) (h2 : c≠2) (c1 : ∀ W,RdAt W g l ok→Calls Tryz.prog 80 #[.pointer (some ⟨g,0,none⟩),.int .i64 1] W fun e w'=>e = .returned (.int .u64 (c : Nat))∧RdAt w' g r1 ok1∧Only g W w') :
  Calls Tryz.prog 157 #[.pointer (some ⟨g,0,none⟩)] w (Got g r1 ok1 c 0 ⟨#[]⟩ w):=by
 have F0:=hid (FW.start h)
 have q1 : ((c : Int) == 1) = false:=by simp;omega
 have q2 : ((c : Int) == 2) = false:=by simp;omega
 clear h
 go_enter Tryz.func157,Tryz.ntmps157
 go_wp2_with (go_at_call 80;((with_reducible refine (c1 _ F0.out.rd).mono ?_);rintro e w1 ⟨rfl,hr1,ho1⟩;have F1:=hid (F0.out.only hr1 ho1);obtain ⟨m0,m1,m2,n0,n1,n2⟩:=F1.out.cells))
 exact bodyPost_ret (v:=.agg #[.int .i64 c,.int .u64 0,.string ⟨#[]⟩]) (by simp [results,Tryz.results157,go_sem,m0,m1,m2]) rfl ⟨rfl,(F1.out.out _ _ _).1,(F1.out.out _ _ _).2⟩
theorem rtake1_yes (g : Nat) (l : List UInt8) (w : World) (h : RdAt w g l true) (h1 : 1≤l.length) (c : Nat) (hc : tkC l = c) :
  Calls Tryz.prog 80 #[.pointer (some ⟨g,0,none⟩),.int .i64 1] w fun e w'=>e = .returned (.int .u64 (c : Nat))∧RdAt w' g (l.drop 1) true∧Only g w w':=by
 have:=take_yes g l 1 w h h1 (by omega)
 rw [show numB (l.take 1) = c from hc] at this
 exact this
theorem rtake8_yes (g : Nat) (l : List UInt8) (w : World) (h : RdAt w g l true) (h8 : 8≤l.length) :
  Calls Tryz.prog 80 #[.pointer (some ⟨g,0,none⟩),.int .i64 8] w fun e w'=>e = .returned (.int .u64 (numB (l.take 8) : Nat))∧RdAt w' g (l.drop 8) true∧Only g w w':=take_yes g l 8 w h h8 (by omega)
/-- What the program takes of a value, formed or not. -/
def Fields (g : Nat) (l : List UInt8) (ok : Bool) (w : World) (e : Ending) (w' : World) : Prop :=
 ∃ (k : Int) (b : Nat) (t : ByteArray) (r : List UInt8) (ok' : Bool),Got g r ok' k b t w e w'∧b < 18446744073709551616∧t.size≤maxLen ∧
  ((ok = true∧tkOk l)→(⟨k,b,t.data.toList⟩ : Val) = tkV l∧r = l.drop (tkN l)∧ok' = true)∧(¬ (ok = true∧tkOk l)→ok' = false∨formedB ⟨k,b,t.data.toList⟩ = false)
theorem vfields_any (g : Nat) (l : List UInt8) (ok : Bool) (w : World) (h : RdAt w g l ok) : Calls Tryz.prog 157 #[.pointer (some ⟨g,0,none⟩)] w (Fields g l ok w):=by
 by_cases h1 : ok = true∧1≤l.length
 ·obtain ⟨rfl,h1⟩:=h1
  have hc256:=tkC_lt l
  by_cases k1 : tkC l = 1
  ·have ev : tkV l = ⟨1,numB ((l.drop 1).take 8),[]⟩:=by simp [tkV,k1]
   have en : tkN l = 1 + 8:=by simp [tkN,k1]
   by_cases h8 : 8≤(l.drop 1).length
   ·refine (fields_num g l (l.drop 1) ((l.drop 1).drop 8) true true true w h _ (fun W hW=>rtake1_yes g l W hW h1 1 k1) (fun W hW=>rtake8_yes g (l.drop 1) W hW h8)).mono fun e w' hg=>?_
    refine ⟨_,_,_,_,_,hg,num8_lt _,by decide,fun _=>⟨ev.symm,by rw [en,List.drop_drop],rfl⟩,fun hn=>.inr ?_⟩
    cases hf : formedB ⟨1,numB ((l.drop 1).take 8),(⟨#[]⟩ : ByteArray).data.toList⟩
    ·rfl
    ·exact absurd ⟨rfl,h1,fun _=>h8,fun e=>by omega,by rw [ev];exact hf⟩ hn
   ·refine (fields_num g l (l.drop 1) [] true true false w h 0 (fun W hW=>rtake1_yes g l W hW h1 1 k1) (fun W hW=>take_no g (l.drop 1) true 8 W hW (.inr (.inr (.inr (by omega)))))).mono fun e w' hg=>?_
    exact ⟨_,_,_,_,_,hg,by omega,by decide,fun hy=>absurd (hy.2.2.1 k1) h8,fun _=>.inl rfl⟩
  ·by_cases k2 : tkC l = 2
   ·have ev : tkV l = ⟨2,0,((l.drop 1).drop 2).take (textLen (l.drop 1))⟩:=by simp [tkV,k2]
    have en : tkN l = 1 + 2 + textLen (l.drop 1):=by simp [tkN,k2]
    by_cases hT : textOk (l.drop 1) 40
    ·refine (fields_text g l (l.drop 1) (((l.drop 1).drop 2).drop (textLen (l.drop 1))) true true true w h ⟨(((l.drop 1).drop 2).take (textLen (l.drop 1))).toArray⟩ (fun W hW=>rtake1_yes g l W hW h1 2 k2) (fun W hW=>takeText_yes g (l.drop 1) 40 W hW hT)).mono fun e w' hg=>?_
     refine ⟨_,_,_,_,_,hg,by omega,?_,fun _=>⟨ev.symm,by rw [en,List.drop_drop,List.drop_drop,Nat.add_assoc],rfl⟩,fun hn=>.inr ?_⟩
     ·show (((l.drop 1).drop 2).take (textLen (l.drop 1))).toArray.size≤maxLen
      rw [List.size_toArray,List.length_take]
      have:=textLen_lt (l.drop 1)
      unfold maxLen;omega
     ·cases hf : formedB ⟨2,0,(⟨(((l.drop 1).drop 2).take (textLen (l.drop 1))).toArray⟩ : ByteArray).data.toList⟩
      ·rfl
      ·exact absurd ⟨rfl,h1,fun e=>by omega,fun _=>hT,by rw [ev];exact hf⟩ hn
    ·refine (fields_text g l (l.drop 1) [] true true false w h ⟨#[]⟩ (fun W hW=>rtake1_yes g l W hW h1 2 k2) (fun W hW=>takeText_no g (l.drop 1) true 40 W hW (fun e=>hT e.2))).mono fun e w' hg=>?_
     exact ⟨_,_,_,_,_,hg,by omega,by decide,fun hy=>absurd (hy.2.2.2.1 k2) hT,fun _=>.inl rfl⟩
   ·have ev : tkV l = ⟨tkC l,0,[]⟩:=by simp [tkV,k1,k2]
    have en : tkN l = 1:=by simp [tkN,k1,k2]
    refine (fields_other g l (l.drop 1) true true w h (tkC l) hc256 k1 k2 (fun W hW=>rtake1_yes g l W hW h1 _ rfl)).mono fun e w' hg=>?_
    refine ⟨_,_,_,_,_,hg,by omega,by decide,fun _=>⟨ev.symm,by rw [en],rfl⟩,fun hn=>.inr ?_⟩
    cases hf : formedB ⟨tkC l,0,(⟨#[]⟩ : ByteArray).data.toList⟩
    ·rfl
    ·exact absurd ⟨rfl,h1,fun e=>absurd e k1,fun e=>absurd e k2,by rw [ev];exact hf⟩ hn
 ·have hbad : ok = false∨(1 : Int) < 0∨(8 : Int) < 1∨((l.length : Nat) : Int) < 1:=by
   cases ok
   ·exact .inl rfl
   ·right;right;right
    have : ¬ 1≤l.length:=fun e=>h1 ⟨rfl,e⟩
    omega
  refine (fields_other g l [] ok false w h 0 (by omega) (by omega) (by omega) (fun W hW=>take_no g l ok 1 W hW hbad)).mono fun e w' hg=>?_
  exact ⟨_,_,_,_,_,hg,by omega,by decide,fun hy=>absurd ⟨hy.1,hy.2.1⟩ h1,fun _=>.inl rfl⟩
theorem vfail_any (g : Nat) (l : List UInt8) (ok : Bool) (w : World) (h : RdAt w g l ok) :
  Calls Tryz.prog 158 #[.pointer (some ⟨g,0,none⟩)] w fun e w'=>e = .returned (.tuple #[])∧RdAt w' g [] false∧Only g w w':=by
 have c:=take_no g l ok (-1) w h (.inr (.inl (by omega)))
 go_enter Tryz.func158,Tryz.ntmps158
 go_wp2_with (go_at_call 80;((with_reducible refine c.mono ?_);rintro e w1 ⟨rfl,hr1,ho1⟩))
 go_end0
 exact ⟨rfl,hr1,ho1⟩
/-- The reader, the answer's cell and the value's. -/
theorem FW.box {w w1 : World} {g : Nat} {r : List UInt8} {ok : Bool} (h : FW w w1 g r ok) (k : Int) (b : Nat) (t : ByteArray) :
  FW w (w1.alloc (.cells #[.int .i64 k,.int .u64 (b : Nat),.string t] 155)) g r ok∧VW (w1.alloc (.cells #[.int .i64 k,.int .u64 (b : Nat),.string t] 155)) w1.heap.size k b t∧g≠w1.heap.size :=
 ⟨h.below ((Below.refl _ _).alloc (Nat.le_refl _) _),heap_alloc_new _ _,by have:=h.1.lt;omega⟩
theorem Tabs.only {W W' : World} {g : Nat} {l : List UInt8} {ok : Bool} (h : Tabs W) (hr : RdAt W g l ok) (ho : Only g W W') : Tabs W':=by
 have key : ∀ {p : Addr} {k : IntKind} {v : Int},W.cell? p = some (.int k v)→W'.cell? p = some (.int k v):=fun {p k v} hp =>
  (World.cell?_of_block (ho.block p.block (block_lt hp) (fun e=>by injection e with e;exact hr.not_int hp e))).trans hp
 exact ⟨fun c hc=>key (h.1 c hc),fun i hi=>⟨key (h.2 i hi).1,key (h.2 i hi).2⟩⟩
theorem takeV_yes (g : Nat) (l : List UInt8) (w : World) (h : RdAt w g l true) (hk : tkOk l) (hT : Tabs w) (k : Int) (b : Nat) (t : ByteArray) (hv : (⟨k,b,t.data.toList⟩ : Val) = tkV l) :
  Calls Tryz.prog 152 #[.pointer (some ⟨g,0,none⟩)] w (Got g (l.drop (tkN l)) true k b t w):=by
 have F0:=hid (FW.start h)
 have HT:=hid hT
 have HR0:=hid h
 have cF : ∀ W,RdAt W g l true→Calls Tryz.prog 157 #[.pointer (some ⟨g,0,none⟩)] W fun e w'=>e = .returned (.agg #[.int .i64 k,.int .u64 (b : Nat),.string t])∧b < 18446744073709551616∧t.size≤maxLen∧RdAt w' g (l.drop (tkN l)) true∧Only g W w':=fun W hW=>by
  refine (vfields_any g l true W hW).mono ?_
  rintro e w' ⟨k',b',t',r,ok',⟨he,hr,ho⟩,hb,ht,hy,_⟩
  obtain ⟨e1,rfl,rfl⟩:=hy ⟨rfl,hk⟩
  rw [← hv] at e1
  injection e1 with e1 e2 e3
  subst e1;subst e2
  obtain rfl : t' = t:=WideShapes.bytes_inj e3
  exact ⟨he,hb,ht,hr,ho⟩
 have hf : formedB ⟨k,b,t.data.toList⟩ = true:=by rw [hv];exact hk.2.2.2
 have cV : ∀ W,b < 18446744073709551616→t.size≤maxLen→Tabs W→Calls Tryz.prog 135 #[.agg #[.int .i64 k,.int .u64 b,.string t]] W fun e w'=>e = .returned (.bool true)∧Below W.heap.size W w':=fun W h1 h2 h3=>by
  have:=formed_any k b t W h1 h2 h3
  rw [hf] at this;exact this
 clear hf hv hT h hk
 generalize l.drop (tkN l) = r at *
 go_enter Tryz.func152,Tryz.ntmps152
 go_upto_region 2 with (go_at_call 157;((with_reducible refine (cF _ F0.out.rd).mono ?_);rintro e w1 ⟨rfl,hb,ht,hr1,ho1⟩))
 have T1 : Tabs (w1.alloc (.cells #[.int .i64 k,.int .u64 b,.string t] 155)):=(HT.out.only HR0.out (F0.out.only hr1 ho1).2.1).below ((Below.refl _ _).alloc (Nat.le_refl _) _)
 have P1:=hid ((F0.out.only hr1 ho1).box k b t)
 clear cF hr1 ho1
 generalize w1.alloc (.cells #[.int .i64 k,.int .u64 b,.string t] 155) = W at *
 generalize w1.heap.size = G at *
 have HT1:=hid T1
 clear T1
 obtain ⟨o0,o1,o2,_,_,_⟩:=three_cells P1.out.2.1
 go_wp2_with (first | (go_at_call 135;((with_reducible refine (cV _ hb ht HT1.out).mono ?_);rintro e w2 ⟨rfl,hb2⟩;have F2:=hid (P1.out.1.below hb2);obtain ⟨m0,m1,m2,n0,n1,n2⟩:=F2.out.cells;obtain ⟨o0,o1,o2,_,_,_⟩:=three_cells (P1.out.2.1.below hb2))) | (go_at_call 85;((with_reducible refine (ok_any g r true _ F2.out.rd).mono ?_);rintro e w' ⟨rfl,rfl⟩)))
 exact bodyPost_ret (v:=.agg #[.int .i64 k,.int .u64 b,.string t]) (by simp [results,Tryz.results152,go_sem,m0,m1,m2]) rfl ⟨rfl,(F2.out.out _ _ _).1,(F2.out.out _ _ _).2⟩
theorem takeV_no (g : Nat) (l : List UInt8) (ok : Bool) (w : World) (h : RdAt w g l ok) (hk : ¬ (ok = true∧tkOk l)) (hT : Tabs w) :
  Calls Tryz.prog 152 #[.pointer (some ⟨g,0,none⟩)] w (Got g [] false 0 0 ⟨#[]⟩ w):=by
 have F0:=hid (FW.start h)
 have HT:=hid hT
 have HR0:=hid h
 have cF : ∀ W,RdAt W g l ok→Calls Tryz.prog 157 #[.pointer (some ⟨g,0,none⟩)] W fun e w' => ∃ (k : Int) (b : Nat) (t : ByteArray) (r : List UInt8) (ok' : Bool),e = .returned (.agg #[.int .i64 k,.int .u64 (b : Nat),.string t])∧b < 18446744073709551616∧t.size≤maxLen∧(ok' = false∨formedB ⟨k,b,t.data.toList⟩ = false)∧RdAt w' g r ok'∧Only g W w':=fun W hW=>by
  refine (vfields_any g l ok W hW).mono ?_
  rintro e w' ⟨k',b',t',r,ok',⟨he,hr,ho⟩,hb,ht,_,hn⟩
  exact ⟨k',b',t',r,ok',he,hb,ht,hn hk,hr,ho⟩
 clear hT h hk
 go_enter Tryz.func152,Tryz.ntmps152
 go_upto_region 2 with (go_at_call 157;((with_reducible refine (cF _ F0.out.rd).mono ?_);rintro e w1 ⟨k,b,t,r,ok',rfl,hb,ht,hn,hr1,ho1⟩))
 have T1 : Tabs (w1.alloc (.cells #[.int .i64 k,.int .u64 b,.string t] 155)):=(HT.out.only HR0.out (F0.out.only hr1 ho1).2.1).below ((Below.refl _ _).alloc (Nat.le_refl _) _)
 have P1:=hid ((F0.out.only hr1 ho1).box k b t)
 clear cF hr1 ho1
 generalize w1.alloc (.cells #[.int .i64 k,.int .u64 b,.string t] 155) = W at *
 generalize w1.heap.size = G at *
 have cV:=formed_any k b t W hb ht T1
 clear T1
 obtain ⟨o0,o1,o2,_,_,_⟩:=three_cells P1.out.2.1
 cases hf : formedB ⟨k,b,t.data.toList⟩
 ·rw [hf] at cV
  clear hf hn
  go_wp2_with (first | (go_at_call 135;((with_reducible refine cV.mono ?_);rintro e w2 ⟨rfl,hb2⟩;have F2:=hid (P1.out.1.below hb2))) | (go_at_call 158;((with_reducible refine (vfail_any g r ok' _ F2.out.rd).mono ?_);rintro e w3 ⟨rfl,hr3,ho3⟩;have F3:=hid (F2.out.only hr3 ho3);obtain ⟨m0,m1,m2,n0,n1,n2⟩:=F3.out.cells)) | (go_at_call 85;((with_reducible refine (ok_any g [] false _ F3.out.rd).mono ?_);rintro e w' ⟨rfl,rfl⟩)))
  exact bodyPost_ret (v:=.agg #[.int .i64 0,.int .u64 0,.string ⟨#[]⟩]) (by simp [results,Tryz.results152,go_sem,m0,m1,m2]) rfl ⟨rfl,(F3.out.out _ _ _).1,(F3.out.out _ _ _).2⟩
 ·rw [hf] at cV hn
  obtain rfl : ok' = false:=by
   rcases hn with e | e
   ·exact e
   ·cases e
  obtain rfl : r = []:=by
   obtain ⟨_,_,_,_,_,_,_,hz⟩:=P1.out.1.rd
   exact hz rfl
  clear hf hn
  go_wp2_with (first | (go_at_call 135;((with_reducible refine cV.mono ?_);rintro e w2 ⟨rfl,hb2⟩;have F2:=hid (P1.out.1.below hb2);obtain ⟨m0,m1,m2,n0,n1,n2⟩:=F2.out.cells)) | (go_at_call 85;((with_reducible refine (ok_any g [] false _ F2.out.rd).mono ?_);rintro e w' ⟨rfl,rfl⟩)))
  exact bodyPost_ret (v:=.agg #[.int .i64 0,.int .u64 0,.string ⟨#[]⟩]) (by simp [results,Tryz.results152,go_sem,m0,m1,m2]) rfl ⟨rfl,(F2.out.out _ _ _).1,(F2.out.out _ _ _).2⟩
theorem takesV : TakesV 152 :=
 ⟨fun g l W h hk hT=>takeV_yes g l W h hk hT (tkV l).k (tkV l).b ⟨(tkV l).t.toArray⟩ rfl,fun g l ok W h hk hT=>takeV_no g l ok W h hk hT⟩
theorem Tryz.rInfo153 : (Tryz.prog.info? 153).map (fun i=>(i.zero,i.size,i.bytes)) = some (some (.agg #[.string ⟨#[]⟩,.int .u64 0]),2,24):=by kernel_rfl
theorem Tryz.rInfo157 : (Tryz.prog.info? 157).map (fun i=>(i.zero,i.size,i.bytes)) = some (some (.agg #[.string ⟨#[]⟩,.int .i64 0,.int .u64 0,.string ⟨#[]⟩]),4,48):=by kernel_rfl
theorem RowAt.oneR (W : World) (x : RdM) (t : TypeId) : RowAt (W.alloc (.cells #[.string x.1,.int .u64 ((x.2 : Nat) : Int)] t)) (W.heap.size + 1) (some ⟨W.heap.size,0,none⟩) 1 2 (readC x):=RowAt.one W #[.string x.1,.int .u64 ((x.2 : Nat) : Int)] t
theorem RowAt.oneW (W : World) (x : WrM) (t : TypeId) : RowAt (W.alloc (.cells #[.string x.key,.int .i64 x.k,.int .u64 ((x.b : Nat) : Int),.string x.t] t)) (W.heap.size + 1) (some ⟨W.heap.size,0,none⟩) 1 4 (writeC x):=RowAt.one W #[.string x.key,.int .i64 x.k,.int .u64 ((x.b : Nat) : Int),.string x.t] t
/-- A box beside those that lie there, made after them. -/
def BoxG (w W : World) (G : Nat) (cs : Array Value) (t : TypeId) (L : List (Nat×Array Value×TypeId)) : Prop:=Boxs w W ((G,cs,t) :: L)∧(∀ b ∈ L,b.1 < G)∧w.heap.size≤G
section
variable {w W W' : World} {G : Nat} {cs : Array Value} {t : TypeId} {L : List (Nat×Array Value×TypeId)}
/-- No cell of it is a text. -/
def NoStr (cs : Array Value) : Prop := ∀ (i : Nat) (z : ByteArray),cs[i]?≠some (.string z)
theorem RowAt.set_far {B n k : Nat} {a : Option Addr} {xs : List Value} (h : RowAt W B a n k xs) (hs : n≠0→∃ z,xs[0]? = some (.string z)) (hb : BoxC W G cs t) (hn : NoStr cs) (i : Nat) (u : Value) : RowAt (W.setCell ⟨G,i,none⟩ u) B a n k xs:=by
 rcases h with ⟨hl,h | ⟨b,off,ha,hb',hc⟩⟩
 ·exact ⟨hl,.inl h⟩
 ·by_cases h0 : n = 0
  ·exact ⟨hl,.inl h0⟩
  ·obtain ⟨z,hz⟩:=hs h0
   have h1:=hc 0 _ hz
   have hne : b≠G:=by
    rintro rfl
    rw [cell_of_row _ _ _ _ _ _ hb] at h1
    exact hn _ _ h1
   exact ⟨hl,.inr ⟨b,off,ha,hb',fun j v hv=>(World.cell?_of_block (Below.heap_setCell _ _ _ _ hne)).trans (hc j v hv)⟩⟩
theorem TxAt.set1 {a1 a2 : Option Addr} {n1 n2 : Nat} {L1 : List RdM} {L2 : List WrM} (h : TxAt W a1 n1 a2 n2 L1 L2) (hb : BoxC W G cs t) (hn : NoStr cs) (i : Nat) (u : Value) : TxAt (W.setCell ⟨G,i,none⟩ u) a1 n1 a2 n2 L1 L2:=by
 have e : (W.setCell ⟨G,i,none⟩ u).heap.size = W.heap.size:=by simp
 refine ⟨⟨⟨h.lenR,?_⟩,⟨h.lenW,?_⟩⟩,h.okR,h.okW⟩
 ·rw [e]
  refine h.rds.2.set_far (fun h0=>?_) hb hn i u
  have:=h.lenR
  match L1 with
  | []=>exact absurd this.symm h0
  | x :: r=>exact ⟨x.1,rfl⟩
 ·rw [e]
  refine h.wrs.2.set_far (fun h0=>?_) hb hn i u
  have:=h.lenW
  match L2 with
  | []=>exact absurd this.symm h0
  | x :: r=>exact ⟨x.key,rfl⟩
theorem TxAt.rows {a1 a2 : Option Addr} {L1 : List RdM} {L2 : List WrM} (h1 : RowAt W W.heap.size a1 L1.length 2 (L1.flatMap readC)) (h2 : RowAt W W.heap.size a2 L2.length 4 (L2.flatMap writeC)) (o1 : ∀ x ∈ L1,RdOk x) (o2 : ∀ x ∈ L2,WrOk x) : TxAt W a1 L1.length a2 L2.length L1 L2:=⟨⟨⟨rfl,h1⟩,⟨rfl,h2⟩⟩,o1,o2⟩
end
end Go.Proofs.YtcfmifongbapkaaGreatDoor
