/- Contract of the document's Put of a transaction. Conditions: what it is handed lies in memory. Contract of the document's Put of commands. -/
import Derived.Test.YtcfmifongbapkaaGreatDoorRS
import Derived.Test.YtcfmifongbapkaaGreatDoorRO
import Derived.Test.YtcfmifongbapkaaGreatDoorRT
namespace Go.Proofs.YtcfmifongbapkaaGreatDoor
set_option maxRecDepth 100000
set_option maxHeartbeats 4000000
open Go.RowKit
set_option linter.unusedVariables false
theorem rPutT_any (a : Option Addr) (k0 c : Nat) (l : List UInt8) (s q : Int) (ra : Option Addr) (n rc : Nat) (rb : Option Addr) (m rd : Nat) (rs : List RdM) (ws : List WrM) (w : World) (hl : BAt w w.heap.size a k0 l) (hk0 : k0≤1099500000000) (hX : TxAt w ra n rb m rs ws) :
  Calls Tryz.prog 77 #[.slice a k0 c,.agg (txV s q ra n rc rb m rd)] w (NewB w (putT l (txT (s,q) rs ws))):=by
 obtain ⟨i0,hi,hz0,hz1,hz2⟩:=info_parts Tryz.info5
 have H0:=Lib.hid ((Boxs.start w).more (txV s q ra n rc rb m rd) 30)
 have hl1:=(hl.below H0.out.bel (Nat.le_refl _)).more H0.out.bel.size
 have cF:=fun W (hW : Below w.heap.size w W)=>rFormedT_any s q ra n rc rb m rd rs ws W (hX.later hW)
 have HX:=Lib.hid hX
 have hln:=hX.lenR
 have hlm:=hX.lenW
 clear hl hX
 unfold putT
 cases hf : formT formedB (txT (s,q) rs ws)
 ·rw [hf] at cF
  rw [if_neg (by decide)]
  clear hf
  go_enter Tryz.func77,Tryz.ntmps77
  go_upto_region 2 with (fail)
  generalize w.alloc (.cells (txV s q ra n rc rb m rd) 30) = w0 at *
  obtain ⟨x0,x1,x2,x3⟩:=(H0.out.get 0 _ _ _ rfl).four
  go_wp2_with (first | (at_builtin;(refine wpList_append_bytes _ rfl _ _ 34 rfl w0.heap.size 5 i0 Tryz.underlying34 hi hz0 hz1 hz2 _ 0 [] rfl (World.ownsRow_nil _ _ _ _) w0.heap.size a k0 l c rfl hl1 (by omega) (Nat.le_refl _) ?_;intro v1 w1 ho1 hg1;rw [Nat.zero_add,List.nil_append] at ho1;have P1 : Hid (PutIn w0 w1 v1 k0 l):=⟨ho1,(Below.refl _ _).grown hg1 (Nat.le_refl _) (by intro j hj;cases hj)⟩;clear ho1 hg1;have H1:=Lib.hid (H0.out.below P1.out.bel);(clear x0 x1 x2 x3);obtain ⟨x0,x1,x2,x3⟩:=(H1.out.get 0 _ _ _ rfl).four)) | (go_at_call 94;((with_reducible refine (cF _ H1.out.bel).mono ?_);rintro e w2 ⟨rfl,hb2⟩;have P2:=Lib.hid (P1.out.below hb2))))
  go_ret
  exact P2.out.out.on H0.out.bel
 ·rw [hf] at cF
  rw [if_pos rfl,txnB_eq]
  have hT:=(formT_iff _ _).1 hf
  have h6 : n≤6:=by
   have h1:=hT.rlen
   simp only [txT,txR,List.length_map] at h1;omega
  have h7 : m≤6:=by
   have h1:=hT.wlen
   simp only [txT,txW,List.length_map] at h1;omega
  have hid : idB (s,q) = true:=hT.id
  have HV0 : Hid (∀ x ∈ ws,formedB (valM x) = true):=fun x hx=>List.all_eq_true.1 hT.vals (x.key.data.toList,valM x) (List.mem_map.2 ⟨x,hx,rfl⟩)
  have cI : ∀ a1 c1 W,BAt W W.heap.size a1 k0 l→Calls Tryz.prog 78 #[.slice a1 k0 c1,.agg #[.int .i64 s,.int .i64 q]] W (NewB W (l ++ idBytes (s,q))):=fun a1 c1 W h=>(rPutId_any a1 k0 c1 s q l W h (by omega)).mono fun e w' h=>h.cast (by unfold putId;rw [if_pos hid])
  have hI5:=idBytes_len (s,q)
  have HE : Hid (l ++ writesB (readsB (idBytes (s,q)) rs) ws = (((l ++ idBytes (s,q)) ++ [UInt8.ofNat n]) ++ (txR rs).flatMap readB ++ [UInt8.ofNat m]) ++ (txW ws).flatMap (writeB bytesV)):=by
   unfold Hid writesB readsB
   rw [hln,hlm,put_one,put_one]
   simp only [List.append_assoc]
  have hll:=hl1.len
  generalize idBytes (s,q) = I at *
  clear hf hT hid
  go_enter Tryz.func77,Tryz.ntmps77
  go_upto_region 2 with (fail)
  generalize w.alloc (.cells (txV s q ra n rc rb m rd) 30) = w0 at *
  obtain ⟨x0,x1,x2,x3⟩:=(H0.out.get 0 _ _ _ rfl).four
  go_upto_region 5 with (first | (at_builtin;(refine wpList_append_bytes _ rfl _ _ 34 rfl w0.heap.size 5 i0 Tryz.underlying34 hi hz0 hz1 hz2 _ 0 [] rfl (World.ownsRow_nil _ _ _ _) w0.heap.size a k0 l c rfl hl1 (by omega) (Nat.le_refl _) ?_;intro v1 w1 ho1 hg1;rw [Nat.zero_add,List.nil_append] at ho1;have P1 : Hid (PutIn w0 w1 v1 k0 l):=⟨ho1,(Below.refl _ _).grown hg1 (Nat.le_refl _) (by intro j hj;cases hj)⟩;clear ho1 hg1;have H1:=Lib.hid (H0.out.below P1.out.bel);(clear x0 x1 x2 x3);obtain ⟨x0,x1,x2,x3⟩:=(H1.out.get 0 _ _ _ rfl).four)) | (go_at_call 94;((with_reducible refine (cF _ H1.out.bel).mono ?_);rintro e w2 ⟨rfl,hb2⟩;have P2:=Lib.hid (P1.out.below hb2))))
  have H2:=Lib.hid (H0.out.below P2.out.bel)
  (clear x0 x1 x2 x3);obtain ⟨x0,x1,x2,x3⟩:=(H2.out.get 0 _ _ _ rfl).four
  obtain ⟨a2,c2,rfl⟩:=P2.out.form
  go_upto_region 6 with (go_at_call 78;((with_reducible refine (cI a2 c2 _ P2.out.bat).mono ?_);rintro e w3 ⟨a3,n3,c3,rfl,ho3,hb3⟩;have P3:=Lib.hid (PutIn.call P2.out.bel ho3 hb3)))
  have hn3 : n3≤k0 + 5:=by have:=P3.out.len;rw [List.length_append] at this;omega
  have H3:=Lib.hid (H0.out.below P3.out.bel)
  (clear x0 x1 x2 x3);obtain ⟨x0,x1,x2,x3⟩:=(H3.out.get 0 _ _ _ rfl).four
  have hsz3:=P3.out.bel.size
  clear P1 P2 H1 H2 cF cI ho3 hb3
  generalize l ++ I = l2 at *
  go_upto_region 7 with (at_builtin;(refine wpList_append_bytes _ rfl _ _ 34 rfl w0.heap.size 5 i0 Tryz.underlying34 hi hz0 hz1 hz2 _ n3 l2 rfl (P3.out.own.alloc _) (w3.heap.size + 1) (some ⟨w3.heap.size,0,none⟩) 1 [UInt8.ofNat n] 1 rfl (BAt.one _ _ _ _ (by first | exact byte_nat n (by omega) | exact byte_mod n)) (by omega) (by simp;omega) ?_;intro v4 w4 ho4 hg4;have P4:=Lib.hid (P3.out.next ho4 hg4);clear ho4 hg4))
  clear P3 H3 x0 x1 x2 x3
  have HE2:=Lib.hid HE.out
  generalize l2 ++ [UInt8.ofNat n] = l4 at *
  go_wp2
  go_loopw [5,6] (fun v i wr => ∃ (k r : Nat),k≤n∧i = .int .i64 k∧PutIn w0 wr v r (l4 ++ (txR (rs.take k)).flatMap readB)∧r≤k0 + 6 + 65545 * k) (fun _ i _=>n - (intOf i).toNat)
  case atStart=>exact ⟨0,n3 + 1,Nat.zero_le _,rfl,P4.out.cast (by simp [txR]),by omega⟩
  case round =>
   obtain ⟨k,r,hk,rfl,hP,hrr⟩:=hrel
   have PP:=Lib.hid hP
   obtain ⟨a2',c2',rfl⟩:=hP.form
   clear hP P4
   have H4:=Lib.hid (H0.out.below PP.out.bel)
   obtain ⟨x0,x1,x2,x3⟩:=(H4.out.get 0 _ _ _ rfl).four
   by_cases hlt : k < n
   ·have hk1 : k < rs.length:=by omega
    have HQ : Hid (l4 ++ (txR (rs.take (k + 1))).flatMap readB = ((l4 ++ (txR (rs.take k)).flatMap readB) ++ textB rs[k].1.data.toList) ++ putB rs[k].2 8):=by unfold Hid;rw [txR_snoc rs k hk1];simp only [List.append_assoc]
    have hx:=HX.out.okR _ (List.getElem_mem hk1)
    have HC : Hid (∀ W,Boxs w W [(w.heap.size,txV s q ra n rc rb m rd,30)]→∃ b0 off,ra = some ⟨b0,off,none⟩∧W.cell? ⟨b0,off + k * 2,none⟩ = some (.string rs[k].1)∧W.cell? ⟨b0,off + k * 2 + 1,none⟩ = some (.int .u64 ((rs[k].2 : Nat) : Int))):=fun W hW=>by
     obtain ⟨b0,off,e,_,h0,h1⟩:=(HX.out.later hW.bel).rds.at_ (i:=k) hk1
     exact ⟨b0,off,e,h0,h1⟩
    generalize rs[k] = x at *
    generalize l4 ++ (txR (rs.take k)).flatMap readB = L at *
    obtain ⟨xk,xv⟩:=x
    have hx1 : xk.size≤maxLen:=hx.1
    have hx2 : xv < 18446744073709551616:=hx.2
    obtain ⟨b0,off,rfl,y0,y1⟩:=HC.out _ H4.out
    have HT : Hid (∀ z : Nat,(L ++ textB xk.data.toList).length = z→z≤r + 65537):=fun z hz=>by have h1:=PP.out.len;have h2:=textB_le xk.data.toList;rw [List.length_append] at hz;omega
    have HV : Hid (∀ z : Nat,((L ++ textB xk.data.toList) ++ putB xv 8).length = z→z≤r + 65545):=fun z hz=>by have h1:=PP.out.len;have h2:=textB_le xk.data.toList;rw [List.length_append,List.length_append,putB_len] at hz;omega
    have cP : ∀ a1 n1 c1 M W,BAt W W.heap.size a1 n1 M→n1≤1099511627776→Calls Tryz.prog 40 #[.slice a1 n1 c1,.int .u64 ((xv : Nat) : Int),.int .i64 8] W (NewB W (M ++ putB xv 8)):=fun a1 n1 c1 M W h1 h2=>refPut_any a1 n1 c1 xv 8 M W h1 h2 hx2 (by omega) (by omega)
    go_upto_region 11 with (go_at_call 107;((with_reducible refine (refPutText_any a2' r c2' xk L _ PP.out.bat (by omega) hx1).mono ?_);rintro e w5 ⟨a5,n5,c5,rfl,ho5,hb5⟩;have P5:=Lib.hid (PutIn.call PP.out.bel ho5 hb5);have hn5:=HT.out _ (own_len ho5)))
    have H5:=Lib.hid (H0.out.below P5.out.bel)
    (clear x0 x1 x2 x3);obtain ⟨x0,x1,x2,x3⟩:=(H5.out.get 0 _ _ _ rfl).four
    clear y0 y1
    obtain ⟨b1,off1,e1,y0,y1⟩:=HC.out _ H5.out
    injection e1 with e1
    injection e1 with e1 e2
    subst e1;subst e2
    go_wp2_with (go_at_call 40;((with_reducible refine (cP a5 n5 c5 _ _ P5.out.bat (by omega)).mono ?_);rintro e w6 ⟨a6,n6,c6,rfl,ho6,hb6⟩;have P6:=Lib.hid (PutIn.call P5.out.bel ho6 hb6)))
    have hn6:=HV.out _ P6.out.len
    go_roundw
    case rel=>exact ⟨k + 1,n6,by omega,by go_num,by rw [HQ.out];exact P6.out,Nat.le_trans hn6 (by rw [Nat.mul_succ,← Nat.add_assoc];exact Nat.add_le_add_right hrr _)⟩
    case measure=>simp [intOf];omega
   ·have HQ : Hid (rs.take k = rs):=List.take_of_length_le (by omega)
    rw [HQ.out] at PP
    have hk6 : k≤6:=by omega
    have hr6 : r≤k0 + 393276:=by omega
    clear hrr
    generalize l4 ++ (txR rs).flatMap readB = l6 at *
    have hsz5:=PP.out.bel.size
    go_upto_region 13 with (at_builtin;(refine wpList_append_bytes _ rfl _ _ 34 rfl w0.heap.size 5 i0 Tryz.underlying34 hi hz0 hz1 hz2 _ r l6 rfl (PP.out.own.alloc _) (wr.heap.size + 1) (some ⟨wr.heap.size,0,none⟩) 1 [UInt8.ofNat m] 1 rfl (BAt.one _ _ _ _ (by first | exact byte_nat m (by omega) | exact byte_mod m)) (by omega) (by simp;omega) ?_;intro v7 w7 ho7 hg7;have P7:=Lib.hid (PP.out.next ho7 hg7);clear ho7 hg7))
    clear PP H4 x0 x1 x2 x3 HE2
    have HE3:=Lib.hid HE.out
    clear HE
    generalize l6 ++ [UInt8.ofNat m] = l7 at *
    go_wp2
    go_loopw [5,7] (fun v i wr => ∃ (j r' : Nat),j≤m∧i = .int .i64 j∧PutIn w0 wr v r' (l7 ++ (txW (ws.take j)).flatMap (writeB bytesV))∧r'≤k0 + 393277 + 131075 * j) (fun _ i _=>m - (intOf i).toNat)
    case atStart=>exact ⟨0,r + 1,Nat.zero_le _,rfl,P7.out.cast (by simp [txW]),by omega⟩
    case round =>
     obtain ⟨j,r',hj,rfl,hP,hrr⟩:=hrel
     have PP:=Lib.hid hP
     obtain ⟨a3',c3',rfl⟩:=hP.form
     clear hP P7
     have H4:=Lib.hid (H0.out.below PP.out.bel)
     obtain ⟨x0,x1,x2,x3⟩:=(H4.out.get 0 _ _ _ rfl).four
     by_cases hlt2 : j < m
     ·have hk1 : j < ws.length:=by omega
      have HQ2 : Hid (l7 ++ (txW (ws.take (j + 1))).flatMap (writeB bytesV) = ((l7 ++ (txW (ws.take j)).flatMap (writeB bytesV)) ++ textB ws[j].key.data.toList) ++ bytesV (valM ws[j])):=by unfold Hid;rw [txW_snoc ws j hk1];simp only [List.append_assoc]
      have hx:=HX.out.okW _ (List.getElem_mem hk1)
      have hvx:=HV0.out _ (List.getElem_mem hk1)
      have HC : Hid (∀ W,Boxs w W [(w.heap.size,txV s q ra n rc rb m rd,30)]→∃ b0 off,rb = some ⟨b0,off,none⟩∧W.cell? ⟨b0,off + j * 4,none⟩ = some (.string ws[j].key)∧W.cell? ⟨b0,off + j * 4 + 1,none⟩ = some (.int .i64 ws[j].k)∧W.cell? ⟨b0,off + j * 4 + 2,none⟩ = some (.int .u64 ((ws[j].b : Nat) : Int))∧W.cell? ⟨b0,off + j * 4 + 3,none⟩ = some (.string ws[j].t)):=fun W hW=>by
       obtain ⟨b0,off,e,_,h0,h1,h2,h3⟩:=(HX.out.later hW.bel).wrs.at_ (i:=j) hk1
       exact ⟨b0,off,e,h0,h1,h2,h3⟩
      generalize ws[j] = x at *
      generalize l7 ++ (txW (ws.take j)).flatMap (writeB bytesV) = L at *
      obtain ⟨xk,xa,xb,xt⟩:=x
      have hx1 : xk.size≤maxLen:=hx.1
      have hx2 : xb < 18446744073709551616:=hx.2.1
      have hx3 : xt.size≤maxLen:=hx.2.2
      have hbl:=bytesV_len ⟨xa,xb,xt.data.toList⟩
      obtain ⟨b0,off,rfl,y0,y1,y2,y3⟩:=HC.out _ H4.out
      have HT : Hid (∀ z : Nat,(L ++ textB xk.data.toList).length = z→z≤r' + 65537):=fun z hz=>by have h1:=PP.out.len;have h2:=textB_le xk.data.toList;rw [List.length_append] at hz;omega
      have HV : Hid (∀ z : Nat,((L ++ textB xk.data.toList) ++ bytesV ⟨xa,xb,xt.data.toList⟩).length = z→z≤r' + 131075):=fun z hz=>by have h1:=PP.out.len;have h2:=textB_le xk.data.toList;rw [List.length_append,List.length_append] at hz;omega
      have cV : ∀ (a3 : Option Addr) (n3 c3 : Nat) (M : List UInt8) (W : World),BAt W W.heap.size a3 n3 M→n3≤1099511600000→Calls Tryz.prog 108 #[.slice a3 n3 c3,.agg #[.int .i64 xa,.int .u64 ((xb : Nat) : Int),.string xt]] W (NewB W (M ++ bytesV ⟨xa,xb,xt.data.toList⟩)):=fun a3 n3 c3 M W h1 h2=>by
       have h:=refPutV_any a3 n3 c3 M xa xb xt W h1 h2 hx2 hx3
       unfold putV at h
       rw [if_pos (show formedB ⟨xa,xb,xt.data.toList⟩ = true from hvx)] at h;exact h
      clear hvx hbl
      go_upto_region 17 with (go_at_call 107;((with_reducible refine (refPutText_any a3' r' c3' xk L _ PP.out.bat (by omega) hx1).mono ?_);rintro e w5 ⟨a5,n5,c5,rfl,ho5,hb5⟩;have P5:=Lib.hid (PutIn.call PP.out.bel ho5 hb5);have hn5:=HT.out _ (own_len ho5)))
      have H5:=Lib.hid (H0.out.below P5.out.bel)
      (clear x0 x1 x2 x3);obtain ⟨x0,x1,x2,x3⟩:=(H5.out.get 0 _ _ _ rfl).four
      clear y0 y1 y2 y3
      obtain ⟨b1,off1,e1,y0,y1,y2,y3⟩:=HC.out _ H5.out
      injection e1 with e1
      injection e1 with e1 e2
      subst e1;subst e2
      go_wp2_with (go_at_call 108;((with_reducible refine (cV a5 n5 c5 _ _ P5.out.bat (by omega)).mono ?_);rintro e w6 ⟨a6,n6,c6,rfl,ho6,hb6⟩;have P6:=Lib.hid (PutIn.call P5.out.bel ho6 hb6)))
      have hn6:=HV.out _ P6.out.len
      go_roundw
      case rel=>exact ⟨j + 1,n6,by omega,by go_num,by rw [HQ2.out];exact P6.out,Nat.le_trans hn6 (by rw [Nat.mul_succ,← Nat.add_assoc];exact Nat.add_le_add_right hrr _)⟩
      case measure=>simp [intOf];omega
     ·have HQ2 : Hid (ws.take j = ws):=List.take_of_length_le (by omega)
      rw [HQ2.out] at PP
      have N:=Lib.hid (PP.out.out.on H0.out.bel)
      clear PP H4
      go_wp2
      go_ret
      rw [HE3.out]
      exact N.out
theorem dPut_any (pa : Option Addr) (pk pc : Nat) (l : List UInt8) (x : CmM) (rs : List RdM) (ws : List WrM) (w : World) (hl : BAt w w.heap.size pa pk l) (hpk : pk≤1099490000000) (h : CmAt w x rs ws) (hn : x.n≤1000000) (hm : x.m≤1000000) :
  Calls Tryz.prog 41 #[.slice pa pk pc,.agg (cmV x)] w (NewB w (putC l (cmT x rs ws))):=by
 obtain ⟨i0,hi,hz0,hz1,hz2⟩:=info_parts Tryz.info5
 have H0:=Lib.hid ((Boxs.start w).more (cmV x) 45)
 have hl1:=(hl.below H0.out.bel (Nat.le_refl _)).more H0.out.bel.size
 have cF:=fun W (hW : Below w.heap.size w W)=>dFormed_any x rs ws W (h.later hW) hn hm
 have hll:=hl.len
 clear hl
 unfold putC
 cases hf : formCm (cmT x rs ws)
 ·rw [hf] at cF
  rw [if_neg (by decide)]
  clear hf h
  go_enter Tryz.func41,Tryz.ntmps41
  go_upto_region 2 with (fail)
  generalize w.alloc (.cells (cmV x) 45) = w0 at *
  obtain ⟨x0,x1,x2,x3,x4,x5,x6,x7,x8,x9⟩:=(H0.out.get 0 _ _ _ rfl).ten
  go_wp2_with (first | (at_builtin;(refine wpList_append_bytes _ rfl _ _ 34 rfl w0.heap.size 5 i0 Tryz.underlying34 hi hz0 hz1 hz2 _ 0 [] rfl (World.ownsRow_nil _ _ _ _) w0.heap.size pa pk l pc rfl hl1 (by omega) (Nat.le_refl _) ?_;intro v1 w1 ho1 hg1;rw [Nat.zero_add,List.nil_append] at ho1;have P1 : Hid (PutIn w0 w1 v1 pk l):=⟨ho1,(Below.refl _ _).grown hg1 (Nat.le_refl _) (by intro j hj;cases hj)⟩;clear ho1 hg1;have H1:=Lib.hid (H0.out.below P1.out.bel);(clear x0 x1 x2 x3 x4 x5 x6 x7 x8 x9);obtain ⟨x0,x1,x2,x3,x4,x5,x6,x7,x8,x9⟩:=(H1.out.get 0 _ _ _ rfl).ten)) | (go_at_call 53;((with_reducible refine (cF _ H1.out.bel).mono ?_);rintro e w2 ⟨rfl,hb2⟩;have P2:=Lib.hid (P1.out.below hb2))))
  go_ret
  exact P2.out.out.on H0.out.bel
 rw [hf] at cF
 rw [if_pos rfl]
 have hst:=h.st
 have hX:=h.tx
 rcases form_M hf with ⟨hk,e⟩ | ⟨hk,ht,e⟩ | ⟨hk,⟨hid,hg,hg4⟩,e⟩ | ⟨hk,⟨hid,hg,hg4⟩,e⟩
 ·rw [e]
  clear e hf h
  obtain ⟨k,s,q,a,n,c,b,m,d,i,j,g,st,y⟩:=x
  simp only at hk
  subst hk
  show Calls _ _ _ _ (NewB w (l ++ putB 0 1))
  have HE : Hid (l ++ putB 0 1 = l ++ [UInt8.ofNat 0]):=by unfold Hid;rw [put_one]
  rw [HE.out]
  clear hX
  go_enter Tryz.func41,Tryz.ntmps41
  go_upto_region 2 with (fail)
  generalize w.alloc (.cells (cmV ⟨0,s,q,a,n,c,b,m,d,i,j,g,st,y⟩) 45) = w0 at *
  obtain ⟨x0,x1,x2,x3,x4,x5,x6,x7,x8,x9⟩:=(H0.out.get 0 _ _ _ rfl).ten
  go_upto_region 5 with (first | (at_builtin;(refine wpList_append_bytes _ rfl _ _ 34 rfl w0.heap.size 5 i0 Tryz.underlying34 hi hz0 hz1 hz2 _ 0 [] rfl (World.ownsRow_nil _ _ _ _) w0.heap.size pa pk l pc rfl hl1 (by omega) (Nat.le_refl _) ?_;intro v1 w1 ho1 hg1;rw [Nat.zero_add,List.nil_append] at ho1;have P1 : Hid (PutIn w0 w1 v1 pk l):=⟨ho1,(Below.refl _ _).grown hg1 (Nat.le_refl _) (by intro j hj;cases hj)⟩;clear ho1 hg1;have H1:=Lib.hid (H0.out.below P1.out.bel);(clear x0 x1 x2 x3 x4 x5 x6 x7 x8 x9);obtain ⟨x0,x1,x2,x3,x4,x5,x6,x7,x8,x9⟩:=(H1.out.get 0 _ _ _ rfl).ten)) | (go_at_call 53;((with_reducible refine (cF _ H1.out.bel).mono ?_);rintro e w2 ⟨rfl,hb2⟩;have P2:=Lib.hid (P1.out.below hb2))))
  have H2:=Lib.hid (H0.out.below P2.out.bel)
  (clear x0 x1 x2 x3 x4 x5 x6 x7 x8 x9)
  obtain ⟨x0,x1,x2,x3,x4,x5,x6,x7,x8,x9⟩:=(H2.out.get 0 _ _ _ rfl).ten
  have hsz2:=P2.out.bel.size
  go_upto_region 6 with (at_builtin;(refine wpList_append_bytes _ rfl _ _ 34 rfl w0.heap.size 5 i0 Tryz.underlying34 hi hz0 hz1 hz2 _ pk l rfl (P2.out.own.alloc _) (w2.heap.size + 1) (some ⟨w2.heap.size,0,none⟩) 1 [UInt8.ofNat 0] 1 rfl (BAt.one _ _ _ _ (by first | rfl | decide)) (by omega) (by simp;omega) ?_;intro v3 w3 ho3 hg3;have P3:=Lib.hid (P2.out.next ho3 hg3);clear ho3 hg3))
  obtain ⟨a3,c3,rfl⟩:=P3.out.form
  have H3:=Lib.hid (H0.out.below P3.out.bel)
  (clear x0 x1 x2 x3 x4 x5 x6 x7 x8 x9)
  obtain ⟨x0,x1,x2,x3,x4,x5,x6,x7,x8,x9⟩:=(H3.out.get 0 _ _ _ rfl).ten
  have hl3:=P3.out.len
  (clear P1 P2 H1 H2 cF)
  generalize l ++ [UInt8.ofNat 0] = l3 at *
  go_wp2
  go_ret
  exact P3.out.out.on H0.out.bel
 ·rw [e]
  clear e hf h
  obtain ⟨k,s,q,a,n,c,b,m,d,i,j,g,st,y⟩:=x
  simp only at hk
  subst hk
  show Calls _ _ _ _ (NewB w (l ++ (putB 1 1 ++ txnB bytesV (txT (s,q) rs ws))))
  have HE : Hid (l ++ (putB 1 1 ++ txnB bytesV (txT (s,q) rs ws)) = (l ++ [UInt8.ofNat 1]) ++ txnB bytesV (txT (s,q) rs ws)):=by unfold Hid;rw [put_one,List.append_assoc]
  have cT : ∀ a1 n1 c1 L W,Below w.heap.size w W→BAt W W.heap.size a1 n1 L→n1≤1099500000000→Calls Tryz.prog 77 #[.slice a1 n1 c1,.agg (txV s q a n c b m d)] W (NewB W (L ++ txnB bytesV (txT (s,q) rs ws))):=fun a1 n1 c1 L W hW h1 h2=>(rPutT_any a1 n1 c1 L s q a n c b m d rs ws W h1 h2 (hX.later hW)).mono fun e w' h=>h.cast (by unfold putT;rw [if_pos ht])
  rw [HE.out]
  generalize txnB bytesV (txT (s,q) rs ws) = K2 at *
  clear hX
  go_enter Tryz.func41,Tryz.ntmps41
  go_upto_region 2 with (fail)
  generalize w.alloc (.cells (cmV ⟨1,s,q,a,n,c,b,m,d,i,j,g,st,y⟩) 45) = w0 at *
  obtain ⟨x0,x1,x2,x3,x4,x5,x6,x7,x8,x9⟩:=(H0.out.get 0 _ _ _ rfl).ten
  go_upto_region 5 with (first | (at_builtin;(refine wpList_append_bytes _ rfl _ _ 34 rfl w0.heap.size 5 i0 Tryz.underlying34 hi hz0 hz1 hz2 _ 0 [] rfl (World.ownsRow_nil _ _ _ _) w0.heap.size pa pk l pc rfl hl1 (by omega) (Nat.le_refl _) ?_;intro v1 w1 ho1 hg1;rw [Nat.zero_add,List.nil_append] at ho1;have P1 : Hid (PutIn w0 w1 v1 pk l):=⟨ho1,(Below.refl _ _).grown hg1 (Nat.le_refl _) (by intro j hj;cases hj)⟩;clear ho1 hg1;have H1:=Lib.hid (H0.out.below P1.out.bel);(clear x0 x1 x2 x3 x4 x5 x6 x7 x8 x9);obtain ⟨x0,x1,x2,x3,x4,x5,x6,x7,x8,x9⟩:=(H1.out.get 0 _ _ _ rfl).ten)) | (go_at_call 53;((with_reducible refine (cF _ H1.out.bel).mono ?_);rintro e w2 ⟨rfl,hb2⟩;have P2:=Lib.hid (P1.out.below hb2))))
  have H2:=Lib.hid (H0.out.below P2.out.bel)
  (clear x0 x1 x2 x3 x4 x5 x6 x7 x8 x9)
  obtain ⟨x0,x1,x2,x3,x4,x5,x6,x7,x8,x9⟩:=(H2.out.get 0 _ _ _ rfl).ten
  have hsz2:=P2.out.bel.size
  go_upto_region 6 with (at_builtin;(refine wpList_append_bytes _ rfl _ _ 34 rfl w0.heap.size 5 i0 Tryz.underlying34 hi hz0 hz1 hz2 _ pk l rfl (P2.out.own.alloc _) (w2.heap.size + 1) (some ⟨w2.heap.size,0,none⟩) 1 [UInt8.ofNat 1] 1 rfl (BAt.one _ _ _ _ (by first | rfl | decide)) (by omega) (by simp;omega) ?_;intro v3 w3 ho3 hg3;have P3:=Lib.hid (P2.out.next ho3 hg3);clear ho3 hg3))
  obtain ⟨a3,c3,rfl⟩:=P3.out.form
  have H3:=Lib.hid (H0.out.below P3.out.bel)
  (clear x0 x1 x2 x3 x4 x5 x6 x7 x8 x9)
  obtain ⟨x0,x1,x2,x3,x4,x5,x6,x7,x8,x9⟩:=(H3.out.get 0 _ _ _ rfl).ten
  have hl3:=P3.out.len
  (clear P1 P2 H1 H2 cF)
  generalize l ++ [UInt8.ofNat 1] = l3 at *
  go_wp2_with (go_at_call 77;((with_reducible refine (cT a3 _ c3 _ _ H3.out.bel P3.out.bat (by omega)).mono ?_);intro e w4 h4;have N4:=Lib.hid (NewB.on h4 H3.out.bel);obtain ⟨a4,n4,c4,rfl,ho4,hb4⟩:=h4))
  go_ret
  exact N4.out
 ·rw [e]
  clear e hf h
  obtain ⟨k,s,q,a,n,c,b,m,d,i,j,g,st,y⟩:=x
  simp only at hk
  subst hk
  simp only at hid hg hg4
  obtain ⟨D,rfl⟩ : ∃ D : Nat,g = (D : Int):=⟨g.toNat,by omega⟩
  show Calls _ _ _ _ (NewB w (l ++ (putB 2 1 ++ (idBytes (i,j) ++ (putB D 1 ++ putB st 8)))))
  have HE : Hid (l ++ (putB 2 1 ++ (idBytes (i,j) ++ (putB D 1 ++ putB st 8))) = (((l ++ [UInt8.ofNat 2]) ++ idBytes (i,j)) ++ [UInt8.ofNat D]) ++ putB st 8):=by unfold Hid;rw [put_one 2,put_one D];simp only [List.append_assoc]
  have cI : ∀ a1 n1 c1 L W,BAt W W.heap.size a1 n1 L→n1≤1099511600000→Calls Tryz.prog 78 #[.slice a1 n1 c1,.agg #[.int .i64 i,.int .i64 j]] W (NewB W (L ++ idBytes (i,j))):=fun a1 n1 c1 L W h1 h2=>(rPutId_any a1 n1 c1 i j L W h1 h2).mono fun e w' h=>h.cast (by unfold putId;rw [if_pos hid])
  have hI5:=idBytes_len (i,j)
  rw [HE.out]
  generalize idBytes (i,j) = I at *
  clear hX
  go_enter Tryz.func41,Tryz.ntmps41
  go_upto_region 2 with (fail)
  generalize w.alloc (.cells (cmV ⟨2,s,q,a,n,c,b,m,d,i,j,((D : Nat) : Int),st,y⟩) 45) = w0 at *
  obtain ⟨x0,x1,x2,x3,x4,x5,x6,x7,x8,x9⟩:=(H0.out.get 0 _ _ _ rfl).ten
  go_upto_region 5 with (first | (at_builtin;(refine wpList_append_bytes _ rfl _ _ 34 rfl w0.heap.size 5 i0 Tryz.underlying34 hi hz0 hz1 hz2 _ 0 [] rfl (World.ownsRow_nil _ _ _ _) w0.heap.size pa pk l pc rfl hl1 (by omega) (Nat.le_refl _) ?_;intro v1 w1 ho1 hg1;rw [Nat.zero_add,List.nil_append] at ho1;have P1 : Hid (PutIn w0 w1 v1 pk l):=⟨ho1,(Below.refl _ _).grown hg1 (Nat.le_refl _) (by intro j hj;cases hj)⟩;clear ho1 hg1;have H1:=Lib.hid (H0.out.below P1.out.bel);(clear x0 x1 x2 x3 x4 x5 x6 x7 x8 x9);obtain ⟨x0,x1,x2,x3,x4,x5,x6,x7,x8,x9⟩:=(H1.out.get 0 _ _ _ rfl).ten)) | (go_at_call 53;((with_reducible refine (cF _ H1.out.bel).mono ?_);rintro e w2 ⟨rfl,hb2⟩;have P2:=Lib.hid (P1.out.below hb2))))
  have H2:=Lib.hid (H0.out.below P2.out.bel)
  (clear x0 x1 x2 x3 x4 x5 x6 x7 x8 x9)
  obtain ⟨x0,x1,x2,x3,x4,x5,x6,x7,x8,x9⟩:=(H2.out.get 0 _ _ _ rfl).ten
  have hsz2:=P2.out.bel.size
  go_upto_region 6 with (at_builtin;(refine wpList_append_bytes _ rfl _ _ 34 rfl w0.heap.size 5 i0 Tryz.underlying34 hi hz0 hz1 hz2 _ pk l rfl (P2.out.own.alloc _) (w2.heap.size + 1) (some ⟨w2.heap.size,0,none⟩) 1 [UInt8.ofNat 2] 1 rfl (BAt.one _ _ _ _ (by first | rfl | decide)) (by omega) (by simp;omega) ?_;intro v3 w3 ho3 hg3;have P3:=Lib.hid (P2.out.next ho3 hg3);clear ho3 hg3))
  obtain ⟨a3,c3,rfl⟩:=P3.out.form
  have H3:=Lib.hid (H0.out.below P3.out.bel)
  (clear x0 x1 x2 x3 x4 x5 x6 x7 x8 x9)
  obtain ⟨x0,x1,x2,x3,x4,x5,x6,x7,x8,x9⟩:=(H3.out.get 0 _ _ _ rfl).ten
  have hl3:=P3.out.len
  (clear P1 P2 H1 H2 cF)
  generalize l ++ [UInt8.ofNat 2] = l3 at *
  go_upto_region 11 with (go_at_call 78;((with_reducible refine (cI a3 _ c3 _ _ P3.out.bat (by omega)).mono ?_);rintro e w4 ⟨a4,n4,c4,rfl,ho4,hb4⟩;have P4:=Lib.hid (PutIn.call P3.out.bel ho4 hb4)))
  have hn4 : n4 = pk + 6:=by have:=P4.out.len;rw [List.length_append] at this;omega
  have H4:=Lib.hid (H0.out.below P4.out.bel)
  (clear x0 x1 x2 x3 x4 x5 x6 x7 x8 x9)
  obtain ⟨x0,x1,x2,x3,x4,x5,x6,x7,x8,x9⟩:=(H4.out.get 0 _ _ _ rfl).ten
  have hsz4:=P4.out.bel.size
  (clear P3 H3 cI ho4 hb4)
  generalize l3 ++ I = l4 at *
  have hn4' : n4≤1099490000006:=by omega
  clear hn4
  go_upto_region 12 with (at_builtin;(refine wpList_append_bytes _ rfl _ _ 34 rfl w0.heap.size 5 i0 Tryz.underlying34 hi hz0 hz1 hz2 _ n4 l4 rfl (P4.out.own.alloc _) (w4.heap.size + 1) (some ⟨w4.heap.size,0,none⟩) 1 [UInt8.ofNat D] 1 rfl (BAt.one _ _ _ _ (by first | exact byte_nat D (by omega) | exact byte_mod D)) (by omega) (by simp;omega) ?_;intro v5 w5 ho5 hg5;have P5:=Lib.hid (P4.out.next ho5 hg5);clear ho5 hg5))
  obtain ⟨a5,c5,rfl⟩:=P5.out.form
  have H5:=Lib.hid (H0.out.below P5.out.bel)
  (clear x0 x1 x2 x3 x4 x5 x6 x7 x8 x9)
  obtain ⟨x0,x1,x2,x3,x4,x5,x6,x7,x8,x9⟩:=(H5.out.get 0 _ _ _ rfl).ten
  have hsz5:=P5.out.bel.size
  (clear P4 H4)
  generalize l4 ++ [UInt8.ofNat D] = l5 at *
  have cP : ∀ a1 n1 c1 L W,BAt W W.heap.size a1 n1 L→n1≤1099511627776→Calls Tryz.prog 40 #[.slice a1 n1 c1,.int .u64 ((st : Nat) : Int),.int .i64 8] W (NewB W (L ++ putB st 8)):=fun a1 n1 c1 L W h1 h2=>refPut_any a1 n1 c1 st 8 L W h1 h2 hst (by omega) (by omega)
  go_wp2_with (go_at_call 40;((with_reducible refine (cP a5 _ c5 _ _ P5.out.bat (by omega)).mono ?_);intro e w6 h6;have N6:=Lib.hid (NewB.on h6 H5.out.bel);obtain ⟨a6,n6,c6,rfl,ho6,hb6⟩:=h6))
  go_ret
  exact N6.out
 ·rw [e]
  clear e hf h
  obtain ⟨k,s,q,a,n,c,b,m,d,i,j,g,st,y⟩:=x
  simp only at hk
  subst hk
  simp only at hid hg hg4
  obtain ⟨D,rfl⟩ : ∃ D : Nat,g = (D : Int):=⟨g.toNat,by omega⟩
  show Calls _ _ _ _ (NewB w (l ++ (putB 3 1 ++ (idBytes (i,j) ++ (putB D 1 ++ putB (yesN y) 1)))))
  have HE : Hid (l ++ (putB 3 1 ++ (idBytes (i,j) ++ (putB D 1 ++ putB (yesN y) 1))) = (((l ++ [UInt8.ofNat 3]) ++ idBytes (i,j)) ++ [UInt8.ofNat D]) ++ putB (yesN y) 1):=by unfold Hid;rw [put_one 3,put_one D];simp only [List.append_assoc]
  have cI : ∀ a1 n1 c1 L W,BAt W W.heap.size a1 n1 L→n1≤1099511600000→Calls Tryz.prog 78 #[.slice a1 n1 c1,.agg #[.int .i64 i,.int .i64 j]] W (NewB W (L ++ idBytes (i,j))):=fun a1 n1 c1 L W h1 h2=>(rPutId_any a1 n1 c1 i j L W h1 h2).mono fun e w' h=>h.cast (by unfold putId;rw [if_pos hid])
  have hI5:=idBytes_len (i,j)
  rw [HE.out]
  generalize idBytes (i,j) = I at *
  clear hX
  go_enter Tryz.func41,Tryz.ntmps41
  go_upto_region 2 with (fail)
  generalize w.alloc (.cells (cmV ⟨3,s,q,a,n,c,b,m,d,i,j,((D : Nat) : Int),st,y⟩) 45) = w0 at *
  obtain ⟨x0,x1,x2,x3,x4,x5,x6,x7,x8,x9⟩:=(H0.out.get 0 _ _ _ rfl).ten
  go_upto_region 5 with (first | (at_builtin;(refine wpList_append_bytes _ rfl _ _ 34 rfl w0.heap.size 5 i0 Tryz.underlying34 hi hz0 hz1 hz2 _ 0 [] rfl (World.ownsRow_nil _ _ _ _) w0.heap.size pa pk l pc rfl hl1 (by omega) (Nat.le_refl _) ?_;intro v1 w1 ho1 hg1;rw [Nat.zero_add,List.nil_append] at ho1;have P1 : Hid (PutIn w0 w1 v1 pk l):=⟨ho1,(Below.refl _ _).grown hg1 (Nat.le_refl _) (by intro j hj;cases hj)⟩;clear ho1 hg1;have H1:=Lib.hid (H0.out.below P1.out.bel);(clear x0 x1 x2 x3 x4 x5 x6 x7 x8 x9);obtain ⟨x0,x1,x2,x3,x4,x5,x6,x7,x8,x9⟩:=(H1.out.get 0 _ _ _ rfl).ten)) | (go_at_call 53;((with_reducible refine (cF _ H1.out.bel).mono ?_);rintro e w2 ⟨rfl,hb2⟩;have P2:=Lib.hid (P1.out.below hb2))))
  have H2:=Lib.hid (H0.out.below P2.out.bel)
  (clear x0 x1 x2 x3 x4 x5 x6 x7 x8 x9)
  obtain ⟨x0,x1,x2,x3,x4,x5,x6,x7,x8,x9⟩:=(H2.out.get 0 _ _ _ rfl).ten
  have hsz2:=P2.out.bel.size
  go_upto_region 6 with (at_builtin;(refine wpList_append_bytes _ rfl _ _ 34 rfl w0.heap.size 5 i0 Tryz.underlying34 hi hz0 hz1 hz2 _ pk l rfl (P2.out.own.alloc _) (w2.heap.size + 1) (some ⟨w2.heap.size,0,none⟩) 1 [UInt8.ofNat 3] 1 rfl (BAt.one _ _ _ _ (by first | rfl | decide)) (by omega) (by simp;omega) ?_;intro v3 w3 ho3 hg3;have P3:=Lib.hid (P2.out.next ho3 hg3);clear ho3 hg3))
  obtain ⟨a3,c3,rfl⟩:=P3.out.form
  have H3:=Lib.hid (H0.out.below P3.out.bel)
  (clear x0 x1 x2 x3 x4 x5 x6 x7 x8 x9)
  obtain ⟨x0,x1,x2,x3,x4,x5,x6,x7,x8,x9⟩:=(H3.out.get 0 _ _ _ rfl).ten
  have hl3:=P3.out.len
  (clear P1 P2 H1 H2 cF)
  generalize l ++ [UInt8.ofNat 3] = l3 at *
  go_upto_region 11 with (go_at_call 78;((with_reducible refine (cI a3 _ c3 _ _ P3.out.bat (by omega)).mono ?_);rintro e w4 ⟨a4,n4,c4,rfl,ho4,hb4⟩;have P4:=Lib.hid (PutIn.call P3.out.bel ho4 hb4)))
  have hn4 : n4 = pk + 6:=by have:=P4.out.len;rw [List.length_append] at this;omega
  have H4:=Lib.hid (H0.out.below P4.out.bel)
  (clear x0 x1 x2 x3 x4 x5 x6 x7 x8 x9)
  obtain ⟨x0,x1,x2,x3,x4,x5,x6,x7,x8,x9⟩:=(H4.out.get 0 _ _ _ rfl).ten
  have hsz4:=P4.out.bel.size
  (clear P3 H3 cI ho4 hb4)
  generalize l3 ++ I = l4 at *
  have hn4' : n4≤1099490000006:=by omega
  clear hn4
  go_upto_region 12 with (at_builtin;(refine wpList_append_bytes _ rfl _ _ 34 rfl w0.heap.size 5 i0 Tryz.underlying34 hi hz0 hz1 hz2 _ n4 l4 rfl (P4.out.own.alloc _) (w4.heap.size + 1) (some ⟨w4.heap.size,0,none⟩) 1 [UInt8.ofNat D] 1 rfl (BAt.one _ _ _ _ (by first | exact byte_nat D (by omega) | exact byte_mod D)) (by omega) (by simp;omega) ?_;intro v5 w5 ho5 hg5;have P5:=Lib.hid (P4.out.next ho5 hg5);clear ho5 hg5))
  obtain ⟨a5,c5,rfl⟩:=P5.out.form
  have H5:=Lib.hid (H0.out.below P5.out.bel)
  (clear x0 x1 x2 x3 x4 x5 x6 x7 x8 x9)
  obtain ⟨x0,x1,x2,x3,x4,x5,x6,x7,x8,x9⟩:=(H5.out.get 0 _ _ _ rfl).ten
  have hsz5:=P5.out.bel.size
  (clear P4 H4)
  generalize l4 ++ [UInt8.ofNat D] = l5 at *
  cases y
  ·show _
   go_wp2_with (at_builtin;(refine wpList_append_bytes _ rfl _ _ 34 rfl w0.heap.size 5 i0 Tryz.underlying34 hi hz0 hz1 hz2 _ (n4 + 1) l5 rfl (P5.out.own.alloc _) (w5.heap.size + 1) (some ⟨w5.heap.size,0,none⟩) 1 [UInt8.ofNat 0] 1 rfl (BAt.one _ _ _ _ (by first | rfl | decide)) (by omega) (by simp;omega) ?_;intro v6 w6 ho6 hg6;have P6:=Lib.hid (P5.out.next ho6 hg6);clear ho6 hg6))
   go_ret
   exact (P6.out.out.on H0.out.bel).cast (by rw [← put_one];rfl)
  ·show _
   go_wp2_with (at_builtin;(refine wpList_append_bytes _ rfl _ _ 34 rfl w0.heap.size 5 i0 Tryz.underlying34 hi hz0 hz1 hz2 _ (n4 + 1) l5 rfl (P5.out.own.alloc _) (w5.heap.size + 1) (some ⟨w5.heap.size,0,none⟩) 1 [UInt8.ofNat 1] 1 rfl (BAt.one _ _ _ _ (by first | rfl | decide)) (by omega) (by simp;omega) ?_;intro v6 w6 ho6 hg6;have P6:=Lib.hid (P5.out.next ho6 hg6);clear ho6 hg6))
   go_ret
   exact (P6.out.out.on H0.out.bel).cast (by rw [← put_one];rfl)
end Go.Proofs.YtcfmifongbapkaaGreatDoor
