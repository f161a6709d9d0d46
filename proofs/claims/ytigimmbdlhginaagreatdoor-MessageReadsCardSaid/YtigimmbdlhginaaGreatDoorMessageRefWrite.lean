/- Contract of the document's Write of messages. Conditions: the message's lists lie in memory, and are no longer than a million. -/
import Derived.Test.YtigimmbdlhginaaGreatDoorGW
import Derived.Test.YtigimmbdlhginaaGreatDoorGV
import Derived.Test.YtigimmbdlhginaaGreatDoorHB
import Derived.Test.YtigimmbdlhginaaGreatDoorGO
import Derived.Test.YtigimmbdlhginaaGreatDoorGG
namespace Go.Proofs.YtigimmbdlhginaaGreatDoor
set_option maxRecDepth 100000
set_option maxHeartbeats 4000000
open Go.RowKit
open Go.Lib (hid)
set_option linter.unusedVariables false
set_option linter.unusedSimpArgs false
/-- The document's bytes so far, in a row of the call's own, beside the message's box. -/
def DW (x : MgM) (w W : World) (v : Value) (n : Nat) (l : List UInt8) : Prop :=
 (W.ownsRow (w.heap.size + 1) 5 1 v n (bcells l)∧Below w.heap.size w W)∧BoxC W w.heap.size (mgV x) 46∧w.heap.size + 1≤W.heap.size
section
variable {x : MgM} {w W w1 : World} {v v' : Value} {a a' : Option Addr} {n n' c c' : Nat} {l l' : List UInt8}
theorem DW.own (h : DW x w W v n l) : W.ownsRow (w.heap.size + 1) 5 1 v n (bcells l):=h.1.1
theorem DW.bel (h : DW x w W v n l) : Below w.heap.size w W:=h.1.2
theorem DW.mx (h : DW x w W v n l) : BoxC W w.heap.size (mgV x) 46:=h.2.1
theorem DW.size (h : DW x w W v n l) : w.heap.size + 1≤W.heap.size:=h.2.2
theorem DW.len (h : DW x w W v n l) : l.length = n:=own_len h.1.1
theorem DW.bat (h : DW x w W (.slice a n c) n l) : BAt W W.heap.size a n l:=BAt.of_own h.1.1
theorem DW.call (h : DW x w W v n l) (ho : w1.ownsRow W.heap.size 5 1 (.slice a' n' c') n' (bcells l')) (hb : Below W.heap.size W w1) : DW x w w1 (.slice a' n' c') n' l' :=
 ⟨⟨own_base ho h.size,h.bel.trans (hb.mono h.bel.size)⟩,h.mx.below hb,Nat.le_trans h.size hb.size⟩
theorem DW.grow0 (h : DW x w W v n l) (ho : w1.ownsRow (w.heap.size + 1) 5 1 v' n' (bcells l')) (hg : W.grownBy w1 v.ownBlock) : DW x w w1 v' n' l' :=
 ⟨⟨ho,h.bel.grown hg h.bel.size (fun j hj=>by have:=(h.own.lt j hj).1;omega)⟩,h.mx.grown hg (fun e=>by have:=(h.own.lt _ e.symm).1;omega),Nat.le_trans h.size hg.size⟩
theorem DW.grow (h : DW x w W v n l) {o : Obj} (ho : w1.ownsRow (w.heap.size + 1) 5 1 v' n' (bcells l')) (hg : (W.alloc o).grownBy w1 v.ownBlock) : DW x w w1 v' n' l':=by
 have hs : W.heap.size≤(W.alloc o).heap.size:=by simp
 refine h.grow0 ho ⟨hg.os,hg.tape,hg.output,Nat.le_trans hs hg.size,fun b hb hne=>?_⟩
 exact (hg.block b (Nat.lt_of_lt_of_le hb hs) hne).trans (Below.heap_alloc _ _ _ hb)
end
/-- The row of one byte. -/
theorem own_first (w : World) (k : Nat) (hk : k < 256) : (w.alloc (.cells #[.int .u8 ((k : Nat) : Int)] 5)).ownsRow w.heap.size 5 1 (.slice (some ⟨w.heap.size,0,none⟩) 1 1) 1 (bcells (putB k 1)):=by
 have e : (UInt8.ofNat k).toNat = k:=by rw [UInt8.toNat_ofNat'];omega
 refine ⟨by rw [bcells_len,putB_len],.inr ⟨w.heap.size,1,_,rfl,Nat.le_refl _,heap_alloc_new w _,by simp,by unfold maxLen;omega,rfl,?_⟩⟩
 rw [put_one]
 show #[Value.int .u8 ((k : Nat) : Int)].toList.take _ = [Value.int .u8 (((UInt8.ofNat k).toNat : Nat) : Int)]
 rw [e];rfl
theorem byte_int (z : Int) (h0 : 0≤z) (h : z < 256) : z = ((UInt8.ofNat z.toNat).toNat : Int):=by
 have e : (UInt8.ofNat z.toNat).toNat = z.toNat % 256:=UInt8.toNat_ofNat'
 rw [e];omega
theorem refPutM_any (a : Option Addr) (m c : Nat) (z : Int) (k : Int) (l : List UInt8) (w : World) (hl : BAt w w.heap.size a m l) (hlen : m≤1099511627776) (h0 : 0≤z) (hx : z < 18446744073709551616) (k1 : -1000≤k) (k2 : k≤1000) :
  Calls Tryz.prog 49 #[.slice a m c,.int .u64 z,.int .i64 k] w (NewB w (l ++ putB z.toNat (held k))):=by
 have h:=refPut_any a m c z.toNat k l w hl hlen (by omega) k1 k2
 rw [Int.toNat_of_nonneg h0] at h
 exact h
theorem rFlag_any (B : Nat) (a : Option Addr) (n c : Nat) (l : List UInt8) (y : Bool) (W : World) (ho : W.ownsRow B 5 1 (.slice a n c) n (bcells l)) (hB : B≤W.heap.size) (hn : n≤1000000000) :
  Calls Tryz.prog 50 #[.slice a n c,.bool y] W fun e w' => ∃ v',e = .returned v'∧w'.ownsRow B 5 1 v' (n + 1) (bcells (l ++ putB (yesN y) 1))∧W.grownBy w' (Value.slice a n c).ownBlock:=by
 obtain ⟨i0,hi,hz0,hz1,hz2⟩:=info_parts Tryz.info5
 have HG : Hid (∀ (o : Obj) (w1 : World),(W.alloc o).grownBy w1 (Value.slice a n c).ownBlock→W.grownBy w1 (Value.slice a n c).ownBlock):=fun o w1 hg=>by
  have hs : W.heap.size≤(W.alloc o).heap.size:=by simp
  exact ⟨hg.os,hg.tape,hg.output,Nat.le_trans hs hg.size,fun b hb hne=>(hg.block b (Nat.lt_of_lt_of_le hb hs) hne).trans (Below.heap_alloc _ _ _ hb)⟩
 have e0 : putB (yesN false) 1 = [0]:=by decide
 have e1 : putB (yesN true) 1 = [1]:=by decide
 cases y
 ·rw [e0]
  clear e0 e1
  go_enter Tryz.func50,Tryz.ntmps50
  go_wp2_with (at_builtin;(refine wpList_append_bytes _ rfl _ _ 22 rfl B 5 i0 Tryz.underlying22 hi hz0 hz1 hz2 _ n l rfl (ho.alloc _) (W.heap.size + 1) (some ⟨W.heap.size,0,none⟩) 1 [0] 1 rfl (BAt.one _ _ _ _ rfl) (by omega) (by simp;omega) ?_;intro v2 w2 ho2 hg2;have G2:=hid (HG.out _ _ hg2);have O2:=hid ho2;clear ho2 hg2))
  go_ret
  exact ⟨v2,rfl,O2.out,G2.out⟩
 ·rw [e1]
  clear e0 e1
  go_enter Tryz.func50,Tryz.ntmps50
  go_wp2_with (at_builtin;(refine wpList_append_bytes _ rfl _ _ 22 rfl B 5 i0 Tryz.underlying22 hi hz0 hz1 hz2 _ n l rfl (ho.alloc _) (W.heap.size + 1) (some ⟨W.heap.size,0,none⟩) 1 [1] 1 rfl (BAt.one _ _ _ _ rfl) (by omega) (by simp;omega) ?_;intro v2 w2 ho2 hg2;have G2:=hid (HG.out _ _ hg2);have O2:=hid ho2;clear ho2 hg2))
  go_ret
  exact ⟨v2,rfl,O2.out,G2.out⟩
section
variable {x : MgM} {L : MgL} {w : World}
theorem rWrite_1 (h : MgAt w x L) (hf : MgF x) (hk : x.k = 1) (F : FormMg (mgT x L)) :
  Calls Tryz.prog 21 #[.agg (mgV x)] w (WrB w true (mgB (mgT x L))):=by
 obtain ⟨i0,hi,hz0,hz1,hz2⟩:=info_parts Tryz.info5
 have H0:=hid ((Boxs.start w).more (mgV x) 46)
 have hz : (w.alloc (.cells (mgV x) 46)).heap.size = w.heap.size + 1:=by simp
 have xW:=(H0.g 0 rfl).ldD
 have cF : ∀ W,Below w.heap.size w W→Calls Tryz.prog 47 #[.agg (mgV x)] W (Says W true):=fun W hW=>by
  have h1:=rFormedG_any x L W (h.later hW) hf
  rw [(formMg_iff _).2 F] at h1;exact h1
 have hE:=bytes_1 hk F
 have hh : x.has = false:=F.has0 (show uHas (mgT x L).k = false by rw [show (mgT x L).k = 1 from hk];rfl)
 have FB : formB x.bn = true:=F.ba (show uBal (mgT x L).k = true by rw [show (mgT x L).k = 1 from hk];rfl)
 have k0 : 1≤x.k:=F.kind.1
 have k1 : x.k≤15:=F.kind.2
 have cUBal : ∀ W,Calls Tryz.prog 17 #[.int .i64 x.k,nBal] W fun e w'=>e = .returned (.bool true)∧W = w':=fun W=>by
  have h1:=useBal_any x.k W
  rw [show uBal x.k = true by rw [hk];rfl] at h1;exact h1
 have cUSlot : ∀ W,Calls Tryz.prog 17 #[.int .i64 x.k,nSlot] W fun e w'=>e = .returned (.bool false)∧W = w':=fun W=>by
  have h1:=useSlot_any x.k W
  rw [show uSlot x.k = false by rw [hk];rfl] at h1;exact h1
 have cUHas : ∀ W,Calls Tryz.prog 17 #[.int .i64 x.k,nHas] W fun e w'=>e = .returned (.bool false)∧W = w':=fun W=>by
  have h1:=useHas_any x.k W
  rw [show uHas x.k = false by rw [hk];rfl] at h1;exact h1
 have cUCmd : ∀ W,Calls Tryz.prog 17 #[.int .i64 x.k,nCmd] W fun e w'=>e = .returned (.bool false)∧W = w':=fun W=>by
  have h1:=useCmd_any x.k W
  rw [show uCmd x.k = false by rw [hk];rfl] at h1;exact h1
 have cUTxn : ∀ W,Calls Tryz.prog 17 #[.int .i64 x.k,nTxn] W fun e w'=>e = .returned (.bool false)∧W = w':=fun W=>by
  have h1:=useTxn_any x.k W
  rw [show uTxn x.k = false by rw [hk];rfl] at h1;exact h1
 have cUId : ∀ W,Calls Tryz.prog 17 #[.int .i64 x.k,nId] W fun e w'=>e = .returned (.bool false)∧W = w':=fun W=>by
  have h1:=useId_any x.k W
  rw [show uId x.k = false by rw [hk];rfl] at h1;exact h1
 have cUGrp : ∀ W,Calls Tryz.prog 17 #[.int .i64 x.k,nGrp] W fun e w'=>e = .returned (.bool false)∧W = w':=fun W=>by
  have h1:=useGrp_any x.k W
  rw [show uGrp x.k = false by rw [hk];rfl] at h1;exact h1
 have cUStp : ∀ W,Calls Tryz.prog 17 #[.int .i64 x.k,nStp] W fun e w'=>e = .returned (.bool false)∧W = w':=fun W=>by
  have h1:=useStp_any x.k W
  rw [show uStp x.k = false by rw [hk];rfl] at h1;exact h1
 have cUYes : ∀ W,Calls Tryz.prog 17 #[.int .i64 x.k,nYes] W fun e w'=>e = .returned (.bool false)∧W = w':=fun W=>by
  have h1:=useYes_any x.k W
  rw [show uYes x.k = false by rw [hk];rfl] at h1;exact h1
 have cUNum : ∀ W,Calls Tryz.prog 17 #[.int .i64 x.k,nNum] W fun e w'=>e = .returned (.bool false)∧W = w':=fun W=>by
  have h1:=useNum_any x.k W
  rw [show uNum x.k = false by rw [hk];rfl] at h1;exact h1
 have cUKey : ∀ W,Calls Tryz.prog 17 #[.int .i64 x.k,nKey] W fun e w'=>e = .returned (.bool false)∧W = w':=fun W=>by
  have h1:=useKey_any x.k W
  rw [show uKey x.k = false by rw [hk];rfl] at h1;exact h1
 have cUVal : ∀ W,Calls Tryz.prog 17 #[.int .i64 x.k,nVal] W fun e w'=>e = .returned (.bool false)∧W = w':=fun W=>by
  have h1:=useVal_any x.k W
  rw [show uVal x.k = false by rw [hk];rfl] at h1;exact h1
 have cUDat : ∀ W,Calls Tryz.prog 17 #[.int .i64 x.k,nDat] W fun e w'=>e = .returned (.bool false)∧W = w':=fun W=>by
  have h1:=useDat_any x.k W
  rw [show uDat x.k = false by rw [hk];rfl] at h1;exact h1
 have cB : ∀ a1 n1 c1 L1 W,Below w.heap.size w W→BAt W W.heap.size a1 n1 L1→n1≤1000000000→Calls Tryz.prog 48 #[.slice a1 n1 c1,.agg #[.int .u32 ((x.br : Nat) : Int),.int .i64 x.bn]] W (NewB W (L1 ++ balBytes (((x.br : Nat) : Int),x.bn))):=fun a1 n1 c1 L1 W hW h1 h2=>by
   have h3:=rPut_any a1 n1 c1 x.br x.bn L1 W h1 (by omega) h.nb.br
   rw [bal_put _ _ FB] at h3;exact h3
 have E : Hid ((putB x.k.toNat 1 ++ balBytes (((x.br : Nat) : Int),x.bn)) = mgB (mgT x L)):=by
  unfold Hid
  rw [← hE,show lets (letters x.k) = [98] by rw [hk];rfl]
  unfold putFs
  simp only [List.flatMap_cons,List.flatMap_nil,List.append_nil]
  rfl
 have QKB : Hid ((balBytes (((x.br : Nat) : Int),x.bn)).length≤5):=by unfold Hid;rw [balBytes_len];omega
 have KK1 : Hid (((x.k.toNat : Nat) : Int) = x.k):=Int.toNat_of_nonneg (by omega)
 clear h hf hk F hE FB
 go_enter Tryz.func21,Tryz.ntmps21
 go_upto_region 3 with (go_at_call 47;((with_reducible refine (cF _ H0.out.bel).mono ?_);rintro e w1 ⟨rfl,hb1⟩;have H1:=hid (H0.out.below hb1)))
 clear xW cF
 have HS1 : Hid (w.heap.size + 1≤w1.heap.size):=by have:=hb1.size;rw [hz] at this;exact this
 clear hz
 have x0:=H1.c 0 0 rfl rfl
 go_upto_region 5 with (fail)
 have D0 : Hid (DW x w (w1.alloc (.cells #[.int .u8 x.k] 5)) (.slice (some ⟨w1.heap.size,0,none⟩) 1 1) 1 (putB x.k.toNat 1)):=by
  have o1:=own_first w1 x.k.toNat (by omega)
  rw [KK1.out] at o1
  have b1:=H1.out.bel
  exact ⟨⟨own_base o1 HS1.out,b1.alloc b1.size _⟩,(H1.g 0 rfl).alloc _,by have:=HS1.out;simp;omega⟩
 clear x0 H1 HS1 hb1 H0
 generalize w1.alloc (.cells #[.int .u8 x.k] 5) = v0 at *
 generalize some (⟨w1.heap.size,0,none⟩ : Addr) = a0 at *
 have hn0 : (1 : Nat)≤1:=Nat.le_refl _
 have x0:=D0.out.mx.cell 0 _ rfl;have x1:=D0.out.mx.cell 1 _ rfl;have x2:=D0.out.mx.cell 2 _ rfl;have x4:=D0.out.mx.cell 4 _ rfl
 go_wp2_with (first | (go_at_call 17;(with_reducible first | refine (cUBal _).mono ?_ | refine (cUSlot _).mono ?_ | refine (cUHas _).mono ?_ | refine (cUCmd _).mono ?_ | refine (cUTxn _).mono ?_ | refine (cUId _).mono ?_ | refine (cUGrp _).mono ?_ | refine (cUStp _).mono ?_ | refine (cUYes _).mono ?_ | refine (cUNum _).mono ?_ | refine (cUKey _).mono ?_ | refine (cUVal _).mono ?_ | refine (cUDat _).mono ?_);rintro e w0 ⟨rfl,rfl⟩) | (go_at_call 48;((with_reducible refine (cB a0 1 1 _ _ D0.out.bel D0.out.bat (by omega)).mono ?_);rintro e v1 ⟨a1,n1,c1,rfl,ho1,hb1⟩;have D1:=hid (D0.out.call ho1 hb1);clear ho1 hb1;have hn1 : n1≤6:=(by have e1:=D1.out.len;rw [List.length_append,D0.out.len] at e1;have e2:=QKB.out;omega);(clear x0 x1 x2 x4);have x0:=D1.out.mx.cell 0 _ rfl;have x1:=D1.out.mx.cell 1 _ rfl;have x2:=D1.out.mx.cell 2 _ rfl;have x4:=D1.out.mx.cell 4 _ rfl)))
 go_ret2
 exact ⟨a1,n1,c1,rfl,by rw [if_pos rfl,← E.out];exact own_base D1.out.own (Nat.le_succ _),D1.out.bel⟩
theorem rWrite_2n (h : MgAt w x L) (hf : MgF x) (hk : x.k = 2) (F : FormMg (mgT x L)) (hh : x.has = false) :
  Calls Tryz.prog 21 #[.agg (mgV x)] w (WrB w true (mgB (mgT x L))):=by
 obtain ⟨i0,hi,hz0,hz1,hz2⟩:=info_parts Tryz.info5
 have H0:=hid ((Boxs.start w).more (mgV x) 46)
 have hz : (w.alloc (.cells (mgV x) 46)).heap.size = w.heap.size + 1:=by simp
 have xW:=(H0.g 0 rfl).ldD
 have cF : ∀ W,Below w.heap.size w W→Calls Tryz.prog 47 #[.agg (mgV x)] W (Says W true):=fun W hW=>by
  have h1:=rFormedG_any x L W (h.later hW) hf
  rw [(formMg_iff _).2 F] at h1;exact h1
 have hE:=bytes_2 hk F
 have FB : formB x.bn = true:=F.ba (show uBal (mgT x L).k = true by rw [show (mgT x L).k = 2 from hk];rfl)
 have s0 : 0≤x.sl:=F.sl.1
 have s1 : x.sl≤1000000:=F.sl.2.1
 have k0 : 1≤x.k:=F.kind.1
 have k1 : x.k≤15:=F.kind.2
 have cUBal : ∀ W,Calls Tryz.prog 17 #[.int .i64 x.k,nBal] W fun e w'=>e = .returned (.bool true)∧W = w':=fun W=>by
  have h1:=useBal_any x.k W
  rw [show uBal x.k = true by rw [hk];rfl] at h1;exact h1
 have cUSlot : ∀ W,Calls Tryz.prog 17 #[.int .i64 x.k,nSlot] W fun e w'=>e = .returned (.bool true)∧W = w':=fun W=>by
  have h1:=useSlot_any x.k W
  rw [show uSlot x.k = true by rw [hk];rfl] at h1;exact h1
 have cUHas : ∀ W,Calls Tryz.prog 17 #[.int .i64 x.k,nHas] W fun e w'=>e = .returned (.bool true)∧W = w':=fun W=>by
  have h1:=useHas_any x.k W
  rw [show uHas x.k = true by rw [hk];rfl] at h1;exact h1
 have cUCmd : ∀ W,Calls Tryz.prog 17 #[.int .i64 x.k,nCmd] W fun e w'=>e = .returned (.bool false)∧W = w':=fun W=>by
  have h1:=useCmd_any x.k W
  rw [show uCmd x.k = false by rw [hk];rfl] at h1;exact h1
 have cUTxn : ∀ W,Calls Tryz.prog 17 #[.int .i64 x.k,nTxn] W fun e w'=>e = .returned (.bool false)∧W = w':=fun W=>by
  have h1:=useTxn_any x.k W
  rw [show uTxn x.k = false by rw [hk];rfl] at h1;exact h1
 have cUId : ∀ W,Calls Tryz.prog 17 #[.int .i64 x.k,nId] W fun e w'=>e = .returned (.bool false)∧W = w':=fun W=>by
  have h1:=useId_any x.k W
  rw [show uId x.k = false by rw [hk];rfl] at h1;exact h1
 have cUGrp : ∀ W,Calls Tryz.prog 17 #[.int .i64 x.k,nGrp] W fun e w'=>e = .returned (.bool false)∧W = w':=fun W=>by
  have h1:=useGrp_any x.k W
  rw [show uGrp x.k = false by rw [hk];rfl] at h1;exact h1
 have cUStp : ∀ W,Calls Tryz.prog 17 #[.int .i64 x.k,nStp] W fun e w'=>e = .returned (.bool false)∧W = w':=fun W=>by
  have h1:=useStp_any x.k W
  rw [show uStp x.k = false by rw [hk];rfl] at h1;exact h1
 have cUYes : ∀ W,Calls Tryz.prog 17 #[.int .i64 x.k,nYes] W fun e w'=>e = .returned (.bool false)∧W = w':=fun W=>by
  have h1:=useYes_any x.k W
  rw [show uYes x.k = false by rw [hk];rfl] at h1;exact h1
 have cUNum : ∀ W,Calls Tryz.prog 17 #[.int .i64 x.k,nNum] W fun e w'=>e = .returned (.bool false)∧W = w':=fun W=>by
  have h1:=useNum_any x.k W
  rw [show uNum x.k = false by rw [hk];rfl] at h1;exact h1
 have cUKey : ∀ W,Calls Tryz.prog 17 #[.int .i64 x.k,nKey] W fun e w'=>e = .returned (.bool false)∧W = w':=fun W=>by
  have h1:=useKey_any x.k W
  rw [show uKey x.k = false by rw [hk];rfl] at h1;exact h1
 have cUVal : ∀ W,Calls Tryz.prog 17 #[.int .i64 x.k,nVal] W fun e w'=>e = .returned (.bool false)∧W = w':=fun W=>by
  have h1:=useVal_any x.k W
  rw [show uVal x.k = false by rw [hk];rfl] at h1;exact h1
 have cUDat : ∀ W,Calls Tryz.prog 17 #[.int .i64 x.k,nDat] W fun e w'=>e = .returned (.bool false)∧W = w':=fun W=>by
  have h1:=useDat_any x.k W
  rw [show uDat x.k = false by rw [hk];rfl] at h1;exact h1
 have cB : ∀ a1 n1 c1 L1 W,Below w.heap.size w W→BAt W W.heap.size a1 n1 L1→n1≤1000000000→Calls Tryz.prog 48 #[.slice a1 n1 c1,.agg #[.int .u32 ((x.br : Nat) : Int),.int .i64 x.bn]] W (NewB W (L1 ++ balBytes (((x.br : Nat) : Int),x.bn))):=fun a1 n1 c1 L1 W hW h1 h2=>by
   have h3:=rPut_any a1 n1 c1 x.br x.bn L1 W h1 (by omega) h.nb.br
   rw [bal_put _ _ FB] at h3;exact h3
 have cS : ∀ a1 n1 c1 L1 W,Below w.heap.size w W→BAt W W.heap.size a1 n1 L1→n1≤1000000000→Calls Tryz.prog 49 #[.slice a1 n1 c1,.int .u64 x.sl,.int .i64 4] W (NewB W (L1 ++ putB x.sl.toNat 4)):=fun a1 n1 c1 L1 W hW h1 h2=>refPutM_any a1 n1 c1 x.sl 4 L1 W h1 (by omega) s0 (by omega) (by omega) (by omega)
 have E : Hid ((((putB x.k.toNat 1 ++ balBytes (((x.br : Nat) : Int),x.bn)) ++ putB x.sl.toNat 4) ++ putB (yesN false) 1) = mgB (mgT x L)):=by
  unfold Hid
  rw [← hE,show lets (letters x.k) = [98,115,104] by rw [hk];rfl]
  unfold putFs
  simp only [List.flatMap_cons,List.flatMap_nil,List.append_nil]
  show _ = putB x.k.toNat 1 ++ (balBytes _ ++ (putB _ 4 ++ voteBytes x L))
  unfold voteBytes
  rw [hh]
  simp only [if_true,if_false,Bool.false_eq_true,List.append_nil,List.append_assoc]
 have QKB : Hid ((balBytes (((x.br : Nat) : Int),x.bn)).length≤5):=by unfold Hid;rw [balBytes_len];omega
 have QKS : Hid ((putB x.sl.toNat 4).length≤4):=by unfold Hid;rw [putB_len];omega
 have QKH : Hid ((putB (yesN false) 1).length≤1):=by unfold Hid;rw [putB_len];omega
 have KK1 : Hid (((x.k.toNat : Nat) : Int) = x.k):=Int.toNat_of_nonneg (by omega)
 clear h hf hk F hE FB
 go_enter Tryz.func21,Tryz.ntmps21
 go_upto_region 3 with (go_at_call 47;((with_reducible refine (cF _ H0.out.bel).mono ?_);rintro e w1 ⟨rfl,hb1⟩;have H1:=hid (H0.out.below hb1)))
 clear xW cF
 have HS1 : Hid (w.heap.size + 1≤w1.heap.size):=by have:=hb1.size;rw [hz] at this;exact this
 clear hz
 have x0:=H1.c 0 0 rfl rfl
 go_upto_region 5 with (fail)
 have D0 : Hid (DW x w (w1.alloc (.cells #[.int .u8 x.k] 5)) (.slice (some ⟨w1.heap.size,0,none⟩) 1 1) 1 (putB x.k.toNat 1)):=by
  have o1:=own_first w1 x.k.toNat (by omega)
  rw [KK1.out] at o1
  have b1:=H1.out.bel
  exact ⟨⟨own_base o1 HS1.out,b1.alloc b1.size _⟩,(H1.g 0 rfl).alloc _,by have:=HS1.out;simp;omega⟩
 clear x0 H1 HS1 hb1 H0
 generalize w1.alloc (.cells #[.int .u8 x.k] 5) = v0 at *
 generalize some (⟨w1.heap.size,0,none⟩ : Addr) = a0 at *
 have hn0 : (1 : Nat)≤1:=Nat.le_refl _
 have x0:=D0.out.mx.cell 0 _ rfl;have x1:=D0.out.mx.cell 1 _ rfl;have x2:=D0.out.mx.cell 2 _ rfl;have x3:=D0.out.mx.cell 3 _ rfl;have x4:=D0.out.mx.cell 4 _ rfl
 go_wp2_with (first | (go_at_call 17;(with_reducible first | refine (cUBal _).mono ?_ | refine (cUSlot _).mono ?_ | refine (cUHas _).mono ?_ | refine (cUCmd _).mono ?_ | refine (cUTxn _).mono ?_ | refine (cUId _).mono ?_ | refine (cUGrp _).mono ?_ | refine (cUStp _).mono ?_ | refine (cUYes _).mono ?_ | refine (cUNum _).mono ?_ | refine (cUKey _).mono ?_ | refine (cUVal _).mono ?_ | refine (cUDat _).mono ?_);rintro e w0 ⟨rfl,rfl⟩) | (go_at_call 48;((with_reducible refine (cB a0 1 1 _ _ D0.out.bel D0.out.bat (by omega)).mono ?_);rintro e v1 ⟨a1,n1,c1,rfl,ho1,hb1⟩;have D1:=hid (D0.out.call ho1 hb1);clear ho1 hb1;have hn1 : n1≤6:=(by have e1:=D1.out.len;rw [List.length_append,D0.out.len] at e1;have e2:=QKB.out;omega);(clear x0 x1 x2 x3 x4);have x0:=D1.out.mx.cell 0 _ rfl;have x1:=D1.out.mx.cell 1 _ rfl;have x2:=D1.out.mx.cell 2 _ rfl;have x3:=D1.out.mx.cell 3 _ rfl;have x4:=D1.out.mx.cell 4 _ rfl)) | (go_at_call 49;((with_reducible refine (cS a1 n1 c1 _ _ D1.out.bel D1.out.bat (by omega)).mono ?_);rintro e v2 ⟨a2,n2,c2,rfl,ho2,hb2⟩;have D2:=hid (D1.out.call ho2 hb2);clear ho2 hb2;have hn2 : n2≤10:=(by have e1:=D2.out.len;rw [List.length_append,D1.out.len] at e1;have e2:=QKS.out;omega);(clear x0 x1 x2 x3 x4);have x0:=D2.out.mx.cell 0 _ rfl;have x1:=D2.out.mx.cell 1 _ rfl;have x2:=D2.out.mx.cell 2 _ rfl;have x3:=D2.out.mx.cell 3 _ rfl;have x4:=D2.out.mx.cell 4 _ rfl)) | (go_at_call 50;((with_reducible refine (rFlag_any (w.heap.size + 1) a2 n2 c2 _ false _ D2.out.own D2.out.size (by omega)).mono ?_);rintro e v3 ⟨u3,rfl,ho3,hg3⟩;obtain ⟨a3,c3,rfl,_,_,_⟩:=own_form ho3;obtain ⟨n3,hnn3⟩ : ∃ q,n2 + 1 = q:=⟨_,rfl⟩;rw [hnn3] at ho3 ⊢;have D3:=hid (D2.out.grow0 ho3 hg3);clear ho3 hg3 hnn3;have hn3 : n3≤11:=(by have e1:=D3.out.len;rw [List.length_append,D2.out.len] at e1;have e2:=QKH.out;omega);(clear x0 x1 x2 x3 x4);have x0:=D3.out.mx.cell 0 _ rfl;have x1:=D3.out.mx.cell 1 _ rfl;have x2:=D3.out.mx.cell 2 _ rfl;have x3:=D3.out.mx.cell 3 _ rfl;have x4:=D3.out.mx.cell 4 _ rfl)))
 go_ret2
 exact ⟨a3,n3,c3,rfl,by rw [if_pos rfl,← E.out];exact own_base D3.out.own (Nat.le_succ _),D3.out.bel⟩
theorem rWrite_2y (h : MgAt w x L) (hf : MgF x) (hk : x.k = 2) (F : FormMg (mgT x L)) (hh : x.has = true) :
  Calls Tryz.prog 21 #[.agg (mgV x)] w (WrB w true (mgB (mgT x L))):=by
 obtain ⟨i0,hi,hz0,hz1,hz2⟩:=info_parts Tryz.info5
 have H0:=hid ((Boxs.start w).more (mgV x) 46)
 have hz : (w.alloc (.cells (mgV x) 46)).heap.size = w.heap.size + 1:=by simp
 have xW:=(H0.g 0 rfl).ldD
 have cF : ∀ W,Below w.heap.size w W→Calls Tryz.prog 47 #[.agg (mgV x)] W (Says W true):=fun W hW=>by
  have h1:=rFormedG_any x L W (h.later hW) hf
  rw [(formMg_iff _).2 F] at h1;exact h1
 have hE:=bytes_2 hk F
 have FB : formB x.bn = true:=F.ba (show uBal (mgT x L).k = true by rw [show (mgT x L).k = 2 from hk];rfl)
 have FV : formB x.vn = true:=F.vo hh
 have FC : formCm (cmT x.cm L.rs L.ws) = true:=F.cm (by rw [show (mgT x L).has = true from hh];rfl)
 have s0 : 0≤x.sl:=F.sl.1
 have s1 : x.sl≤1000000:=F.sl.2.1
 have k0 : 1≤x.k:=F.kind.1
 have k1 : x.k≤15:=F.kind.2
 have cUBal : ∀ W,Calls Tryz.prog 17 #[.int .i64 x.k,nBal] W fun e w'=>e = .returned (.bool true)∧W = w':=fun W=>by
  have h1:=useBal_any x.k W
  rw [show uBal x.k = true by rw [hk];rfl] at h1;exact h1
 have cUSlot : ∀ W,Calls Tryz.prog 17 #[.int .i64 x.k,nSlot] W fun e w'=>e = .returned (.bool true)∧W = w':=fun W=>by
  have h1:=useSlot_any x.k W
  rw [show uSlot x.k = true by rw [hk];rfl] at h1;exact h1
 have cUHas : ∀ W,Calls Tryz.prog 17 #[.int .i64 x.k,nHas] W fun e w'=>e = .returned (.bool true)∧W = w':=fun W=>by
  have h1:=useHas_any x.k W
  rw [show uHas x.k = true by rw [hk];rfl] at h1;exact h1
 have cUCmd : ∀ W,Calls Tryz.prog 17 #[.int .i64 x.k,nCmd] W fun e w'=>e = .returned (.bool false)∧W = w':=fun W=>by
  have h1:=useCmd_any x.k W
  rw [show uCmd x.k = false by rw [hk];rfl] at h1;exact h1
 have cUTxn : ∀ W,Calls Tryz.prog 17 #[.int .i64 x.k,nTxn] W fun e w'=>e = .returned (.bool false)∧W = w':=fun W=>by
  have h1:=useTxn_any x.k W
  rw [show uTxn x.k = false by rw [hk];rfl] at h1;exact h1
 have cUId : ∀ W,Calls Tryz.prog 17 #[.int .i64 x.k,nId] W fun e w'=>e = .returned (.bool false)∧W = w':=fun W=>by
  have h1:=useId_any x.k W
  rw [show uId x.k = false by rw [hk];rfl] at h1;exact h1
 have cUGrp : ∀ W,Calls Tryz.prog 17 #[.int .i64 x.k,nGrp] W fun e w'=>e = .returned (.bool false)∧W = w':=fun W=>by
  have h1:=useGrp_any x.k W
  rw [show uGrp x.k = false by rw [hk];rfl] at h1;exact h1
 have cUStp : ∀ W,Calls Tryz.prog 17 #[.int .i64 x.k,nStp] W fun e w'=>e = .returned (.bool false)∧W = w':=fun W=>by
  have h1:=useStp_any x.k W
  rw [show uStp x.k = false by rw [hk];rfl] at h1;exact h1
 have cUYes : ∀ W,Calls Tryz.prog 17 #[.int .i64 x.k,nYes] W fun e w'=>e = .returned (.bool false)∧W = w':=fun W=>by
  have h1:=useYes_any x.k W
  rw [show uYes x.k = false by rw [hk];rfl] at h1;exact h1
 have cUNum : ∀ W,Calls Tryz.prog 17 #[.int .i64 x.k,nNum] W fun e w'=>e = .returned (.bool false)∧W = w':=fun W=>by
  have h1:=useNum_any x.k W
  rw [show uNum x.k = false by rw [hk];rfl] at h1;exact h1
 have cUKey : ∀ W,Calls Tryz.prog 17 #[.int .i64 x.k,nKey] W fun e w'=>e = .returned (.bool false)∧W = w':=fun W=>by
  have h1:=useKey_any x.k W
  rw [show uKey x.k = false by rw [hk];rfl] at h1;exact h1
 have cUVal : ∀ W,Calls Tryz.prog 17 #[.int .i64 x.k,nVal] W fun e w'=>e = .returned (.bool false)∧W = w':=fun W=>by
  have h1:=useVal_any x.k W
  rw [show uVal x.k = false by rw [hk];rfl] at h1;exact h1
 have cUDat : ∀ W,Calls Tryz.prog 17 #[.int .i64 x.k,nDat] W fun e w'=>e = .returned (.bool false)∧W = w':=fun W=>by
  have h1:=useDat_any x.k W
  rw [show uDat x.k = false by rw [hk];rfl] at h1;exact h1
 have cB : ∀ a1 n1 c1 L1 W,Below w.heap.size w W→BAt W W.heap.size a1 n1 L1→n1≤1000000000→Calls Tryz.prog 48 #[.slice a1 n1 c1,.agg #[.int .u32 ((x.br : Nat) : Int),.int .i64 x.bn]] W (NewB W (L1 ++ balBytes (((x.br : Nat) : Int),x.bn))):=fun a1 n1 c1 L1 W hW h1 h2=>by
   have h3:=rPut_any a1 n1 c1 x.br x.bn L1 W h1 (by omega) h.nb.br
   rw [bal_put _ _ FB] at h3;exact h3
 have cS : ∀ a1 n1 c1 L1 W,Below w.heap.size w W→BAt W W.heap.size a1 n1 L1→n1≤1000000000→Calls Tryz.prog 49 #[.slice a1 n1 c1,.int .u64 x.sl,.int .i64 4] W (NewB W (L1 ++ putB x.sl.toNat 4)):=fun a1 n1 c1 L1 W hW h1 h2=>refPutM_any a1 n1 c1 x.sl 4 L1 W h1 (by omega) s0 (by omega) (by omega) (by omega)
 have cV : ∀ a1 n1 c1 L1 W,Below w.heap.size w W→BAt W W.heap.size a1 n1 L1→n1≤1000000000→Calls Tryz.prog 48 #[.slice a1 n1 c1,.agg #[.int .u32 ((x.vr : Nat) : Int),.int .i64 x.vn]] W (NewB W (L1 ++ balBytes (((x.vr : Nat) : Int),x.vn))):=fun a1 n1 c1 L1 W hW h1 h2=>by
   have h3:=rPut_any a1 n1 c1 x.vr x.vn L1 W h1 (by omega) h.nb.vr
   rw [bal_put _ _ FV] at h3;exact h3
 have cC : ∀ a1 n1 c1 L1 W,Below w.heap.size w W→BAt W W.heap.size a1 n1 L1→n1≤1000000000→Calls Tryz.prog 51 #[.slice a1 n1 c1,.agg (cmV x.cm)] W (NewB W (L1 ++ cmB (cmT x.cm L.rs L.ws))):=fun a1 n1 c1 L1 W hW h1 h2=>by
   have h3:=dPut_any a1 n1 c1 L1 x.cm L.rs L.ws W h1 (by omega) (h.cm.later hW) hf.n hf.m
   unfold putC at h3
   rw [if_pos FC] at h3;exact h3
 have E : Hid ((((((putB x.k.toNat 1 ++ balBytes (((x.br : Nat) : Int),x.bn)) ++ putB x.sl.toNat 4) ++ putB (yesN true) 1) ++ balBytes (((x.vr : Nat) : Int),x.vn)) ++ cmB (cmT x.cm L.rs L.ws)) = mgB (mgT x L)):=by
  unfold Hid
  rw [← hE,show lets (letters x.k) = [98,115,104] by rw [hk];rfl]
  unfold putFs
  simp only [List.flatMap_cons,List.flatMap_nil,List.append_nil]
  show _ = putB x.k.toNat 1 ++ (balBytes _ ++ (putB _ 4 ++ voteBytes x L))
  unfold voteBytes
  rw [hh]
  simp only [if_true,if_false,Bool.false_eq_true,List.append_nil,List.append_assoc]
 have QKB : Hid ((balBytes (((x.br : Nat) : Int),x.bn)).length≤5):=by unfold Hid;rw [balBytes_len];omega
 have QKS : Hid ((putB x.sl.toNat 4).length≤4):=by unfold Hid;rw [putB_len];omega
 have QKH : Hid ((putB (yesN true) 1).length≤1):=by unfold Hid;rw [putB_len];omega
 have QKV : Hid ((balBytes (((x.vr : Nat) : Int),x.vn)).length≤5):=by unfold Hid;rw [balBytes_len];omega
 have QKC : Hid ((cmB (cmT x.cm L.rs L.ws)).length≤1179728):=cmB_max _ FC
 have KK1 : Hid (((x.k.toNat : Nat) : Int) = x.k):=Int.toNat_of_nonneg (by omega)
 clear h hf hk F hE FB FV FC
 go_enter Tryz.func21,Tryz.ntmps21
 go_upto_region 3 with (go_at_call 47;((with_reducible refine (cF _ H0.out.bel).mono ?_);rintro e w1 ⟨rfl,hb1⟩;have H1:=hid (H0.out.below hb1)))
 clear xW cF
 have HS1 : Hid (w.heap.size + 1≤w1.heap.size):=by have:=hb1.size;rw [hz] at this;exact this
 clear hz
 have x0:=H1.c 0 0 rfl rfl
 go_upto_region 5 with (fail)
 have D0 : Hid (DW x w (w1.alloc (.cells #[.int .u8 x.k] 5)) (.slice (some ⟨w1.heap.size,0,none⟩) 1 1) 1 (putB x.k.toNat 1)):=by
  have o1:=own_first w1 x.k.toNat (by omega)
  rw [KK1.out] at o1
  have b1:=H1.out.bel
  exact ⟨⟨own_base o1 HS1.out,b1.alloc b1.size _⟩,(H1.g 0 rfl).alloc _,by have:=HS1.out;simp;omega⟩
 clear x0 H1 HS1 hb1 H0
 generalize w1.alloc (.cells #[.int .u8 x.k] 5) = v0 at *
 generalize some (⟨w1.heap.size,0,none⟩ : Addr) = a0 at *
 have hn0 : (1 : Nat)≤1:=Nat.le_refl _
 have x0:=D0.out.mx.cell 0 _ rfl;have x1:=D0.out.mx.cell 1 _ rfl;have x2:=D0.out.mx.cell 2 _ rfl;have x3:=D0.out.mx.cell 3 _ rfl;have x4:=D0.out.mx.cell 4 _ rfl;have x5:=D0.out.mx.cell 5 _ rfl;have x6:=D0.out.mx.cell 6 _ rfl;have x7:=D0.out.mx.cell 7 _ rfl;have x8:=D0.out.mx.cell 8 _ rfl;have x9:=D0.out.mx.cell 9 _ rfl;have x10:=D0.out.mx.cell 10 _ rfl;have x11:=D0.out.mx.cell 11 _ rfl;have x12:=D0.out.mx.cell 12 _ rfl;have x13:=D0.out.mx.cell 13 _ rfl;have x14:=D0.out.mx.cell 14 _ rfl;have x15:=D0.out.mx.cell 15 _ rfl;have x16:=D0.out.mx.cell 16 _ rfl
 go_wp2_with (first | (go_at_call 17;(with_reducible first | refine (cUBal _).mono ?_ | refine (cUSlot _).mono ?_ | refine (cUHas _).mono ?_ | refine (cUCmd _).mono ?_ | refine (cUTxn _).mono ?_ | refine (cUId _).mono ?_ | refine (cUGrp _).mono ?_ | refine (cUStp _).mono ?_ | refine (cUYes _).mono ?_ | refine (cUNum _).mono ?_ | refine (cUKey _).mono ?_ | refine (cUVal _).mono ?_ | refine (cUDat _).mono ?_);rintro e w0 ⟨rfl,rfl⟩) | (go_at_call 48;((with_reducible refine (cB a0 1 1 _ _ D0.out.bel D0.out.bat (by omega)).mono ?_);rintro e v1 ⟨a1,n1,c1,rfl,ho1,hb1⟩;have D1:=hid (D0.out.call ho1 hb1);clear ho1 hb1;have hn1 : n1≤6:=(by have e1:=D1.out.len;rw [List.length_append,D0.out.len] at e1;have e2:=QKB.out;omega);(clear x0 x1 x2 x3 x4 x5 x6 x7 x8 x9 x10 x11 x12 x13 x14 x15 x16);have x0:=D1.out.mx.cell 0 _ rfl;have x1:=D1.out.mx.cell 1 _ rfl;have x2:=D1.out.mx.cell 2 _ rfl;have x3:=D1.out.mx.cell 3 _ rfl;have x4:=D1.out.mx.cell 4 _ rfl;have x5:=D1.out.mx.cell 5 _ rfl;have x6:=D1.out.mx.cell 6 _ rfl;have x7:=D1.out.mx.cell 7 _ rfl;have x8:=D1.out.mx.cell 8 _ rfl;have x9:=D1.out.mx.cell 9 _ rfl;have x10:=D1.out.mx.cell 10 _ rfl;have x11:=D1.out.mx.cell 11 _ rfl;have x12:=D1.out.mx.cell 12 _ rfl;have x13:=D1.out.mx.cell 13 _ rfl;have x14:=D1.out.mx.cell 14 _ rfl;have x15:=D1.out.mx.cell 15 _ rfl;have x16:=D1.out.mx.cell 16 _ rfl)) | (go_at_call 49;((with_reducible refine (cS a1 n1 c1 _ _ D1.out.bel D1.out.bat (by omega)).mono ?_);rintro e v2 ⟨a2,n2,c2,rfl,ho2,hb2⟩;have D2:=hid (D1.out.call ho2 hb2);clear ho2 hb2;have hn2 : n2≤10:=(by have e1:=D2.out.len;rw [List.length_append,D1.out.len] at e1;have e2:=QKS.out;omega);(clear x0 x1 x2 x3 x4 x5 x6 x7 x8 x9 x10 x11 x12 x13 x14 x15 x16);have x0:=D2.out.mx.cell 0 _ rfl;have x1:=D2.out.mx.cell 1 _ rfl;have x2:=D2.out.mx.cell 2 _ rfl;have x3:=D2.out.mx.cell 3 _ rfl;have x4:=D2.out.mx.cell 4 _ rfl;have x5:=D2.out.mx.cell 5 _ rfl;have x6:=D2.out.mx.cell 6 _ rfl;have x7:=D2.out.mx.cell 7 _ rfl;have x8:=D2.out.mx.cell 8 _ rfl;have x9:=D2.out.mx.cell 9 _ rfl;have x10:=D2.out.mx.cell 10 _ rfl;have x11:=D2.out.mx.cell 11 _ rfl;have x12:=D2.out.mx.cell 12 _ rfl;have x13:=D2.out.mx.cell 13 _ rfl;have x14:=D2.out.mx.cell 14 _ rfl;have x15:=D2.out.mx.cell 15 _ rfl;have x16:=D2.out.mx.cell 16 _ rfl)) | (go_at_call 50;((with_reducible refine (rFlag_any (w.heap.size + 1) a2 n2 c2 _ true _ D2.out.own D2.out.size (by omega)).mono ?_);rintro e v3 ⟨u3,rfl,ho3,hg3⟩;obtain ⟨a3,c3,rfl,_,_,_⟩:=own_form ho3;obtain ⟨n3,hnn3⟩ : ∃ q,n2 + 1 = q:=⟨_,rfl⟩;rw [hnn3] at ho3 ⊢;have D3:=hid (D2.out.grow0 ho3 hg3);clear ho3 hg3 hnn3;have hn3 : n3≤11:=(by have e1:=D3.out.len;rw [List.length_append,D2.out.len] at e1;have e2:=QKH.out;omega);(clear x0 x1 x2 x3 x4 x5 x6 x7 x8 x9 x10 x11 x12 x13 x14 x15 x16);have x0:=D3.out.mx.cell 0 _ rfl;have x1:=D3.out.mx.cell 1 _ rfl;have x2:=D3.out.mx.cell 2 _ rfl;have x3:=D3.out.mx.cell 3 _ rfl;have x4:=D3.out.mx.cell 4 _ rfl;have x5:=D3.out.mx.cell 5 _ rfl;have x6:=D3.out.mx.cell 6 _ rfl;have x7:=D3.out.mx.cell 7 _ rfl;have x8:=D3.out.mx.cell 8 _ rfl;have x9:=D3.out.mx.cell 9 _ rfl;have x10:=D3.out.mx.cell 10 _ rfl;have x11:=D3.out.mx.cell 11 _ rfl;have x12:=D3.out.mx.cell 12 _ rfl;have x13:=D3.out.mx.cell 13 _ rfl;have x14:=D3.out.mx.cell 14 _ rfl;have x15:=D3.out.mx.cell 15 _ rfl;have x16:=D3.out.mx.cell 16 _ rfl)) | (go_at_call 48;((with_reducible refine (cV a3 n3 c3 _ _ D3.out.bel D3.out.bat (by omega)).mono ?_);rintro e v4 ⟨a4,n4,c4,rfl,ho4,hb4⟩;have D4:=hid (D3.out.call ho4 hb4);clear ho4 hb4;have hn4 : n4≤16:=(by have e1:=D4.out.len;rw [List.length_append,D3.out.len] at e1;have e2:=QKV.out;omega);(clear x0 x1 x2 x3 x4 x5 x6 x7 x8 x9 x10 x11 x12 x13 x14 x15 x16);have x0:=D4.out.mx.cell 0 _ rfl;have x1:=D4.out.mx.cell 1 _ rfl;have x2:=D4.out.mx.cell 2 _ rfl;have x3:=D4.out.mx.cell 3 _ rfl;have x4:=D4.out.mx.cell 4 _ rfl;have x5:=D4.out.mx.cell 5 _ rfl;have x6:=D4.out.mx.cell 6 _ rfl;have x7:=D4.out.mx.cell 7 _ rfl;have x8:=D4.out.mx.cell 8 _ rfl;have x9:=D4.out.mx.cell 9 _ rfl;have x10:=D4.out.mx.cell 10 _ rfl;have x11:=D4.out.mx.cell 11 _ rfl;have x12:=D4.out.mx.cell 12 _ rfl;have x13:=D4.out.mx.cell 13 _ rfl;have x14:=D4.out.mx.cell 14 _ rfl;have x15:=D4.out.mx.cell 15 _ rfl;have x16:=D4.out.mx.cell 16 _ rfl)) | (go_at_call 51;((with_reducible refine (cC a4 n4 c4 _ _ D4.out.bel D4.out.bat (by omega)).mono ?_);rintro e v5 ⟨a5,n5,c5,rfl,ho5,hb5⟩;have D5:=hid (D4.out.call ho5 hb5);clear ho5 hb5;have hn5 : n5≤1179744:=(by have e1:=D5.out.len;rw [List.length_append,D4.out.len] at e1;have e2:=QKC.out;omega);(clear x0 x1 x2 x3 x4 x5 x6 x7 x8 x9 x10 x11 x12 x13 x14 x15 x16);have x0:=D5.out.mx.cell 0 _ rfl;have x1:=D5.out.mx.cell 1 _ rfl;have x2:=D5.out.mx.cell 2 _ rfl;have x3:=D5.out.mx.cell 3 _ rfl;have x4:=D5.out.mx.cell 4 _ rfl;have x5:=D5.out.mx.cell 5 _ rfl;have x6:=D5.out.mx.cell 6 _ rfl;have x7:=D5.out.mx.cell 7 _ rfl;have x8:=D5.out.mx.cell 8 _ rfl;have x9:=D5.out.mx.cell 9 _ rfl;have x10:=D5.out.mx.cell 10 _ rfl;have x11:=D5.out.mx.cell 11 _ rfl;have x12:=D5.out.mx.cell 12 _ rfl;have x13:=D5.out.mx.cell 13 _ rfl;have x14:=D5.out.mx.cell 14 _ rfl;have x15:=D5.out.mx.cell 15 _ rfl;have x16:=D5.out.mx.cell 16 _ rfl)))
 go_ret2
 exact ⟨a5,n5,c5,rfl,by rw [if_pos rfl,← E.out];exact own_base D5.out.own (Nat.le_succ _),D5.out.bel⟩
theorem rWrite_3 (h : MgAt w x L) (hf : MgF x) (hk : x.k = 3) (F : FormMg (mgT x L)) :
  Calls Tryz.prog 21 #[.agg (mgV x)] w (WrB w true (mgB (mgT x L))):=by
 obtain ⟨i0,hi,hz0,hz1,hz2⟩:=info_parts Tryz.info5
 have H0:=hid ((Boxs.start w).more (mgV x) 46)
 have hz : (w.alloc (.cells (mgV x) 46)).heap.size = w.heap.size + 1:=by simp
 have xW:=(H0.g 0 rfl).ldD
 have cF : ∀ W,Below w.heap.size w W→Calls Tryz.prog 47 #[.agg (mgV x)] W (Says W true):=fun W hW=>by
  have h1:=rFormedG_any x L W (h.later hW) hf
  rw [(formMg_iff _).2 F] at h1;exact h1
 have hE:=bytes_3 hk F
 have hh : x.has = false:=F.has0 (show uHas (mgT x L).k = false by rw [show (mgT x L).k = 3 from hk];rfl)
 have FB : formB x.bn = true:=F.ba (show uBal (mgT x L).k = true by rw [show (mgT x L).k = 3 from hk];rfl)
 have k0 : 1≤x.k:=F.kind.1
 have k1 : x.k≤15:=F.kind.2
 have cUBal : ∀ W,Calls Tryz.prog 17 #[.int .i64 x.k,nBal] W fun e w'=>e = .returned (.bool true)∧W = w':=fun W=>by
  have h1:=useBal_any x.k W
  rw [show uBal x.k = true by rw [hk];rfl] at h1;exact h1
 have cUSlot : ∀ W,Calls Tryz.prog 17 #[.int .i64 x.k,nSlot] W fun e w'=>e = .returned (.bool false)∧W = w':=fun W=>by
  have h1:=useSlot_any x.k W
  rw [show uSlot x.k = false by rw [hk];rfl] at h1;exact h1
 have cUHas : ∀ W,Calls Tryz.prog 17 #[.int .i64 x.k,nHas] W fun e w'=>e = .returned (.bool false)∧W = w':=fun W=>by
  have h1:=useHas_any x.k W
  rw [show uHas x.k = false by rw [hk];rfl] at h1;exact h1
 have cUCmd : ∀ W,Calls Tryz.prog 17 #[.int .i64 x.k,nCmd] W fun e w'=>e = .returned (.bool false)∧W = w':=fun W=>by
  have h1:=useCmd_any x.k W
  rw [show uCmd x.k = false by rw [hk];rfl] at h1;exact h1
 have cUTxn : ∀ W,Calls Tryz.prog 17 #[.int .i64 x.k,nTxn] W fun e w'=>e = .returned (.bool false)∧W = w':=fun W=>by
  have h1:=useTxn_any x.k W
  rw [show uTxn x.k = false by rw [hk];rfl] at h1;exact h1
 have cUId : ∀ W,Calls Tryz.prog 17 #[.int .i64 x.k,nId] W fun e w'=>e = .returned (.bool false)∧W = w':=fun W=>by
  have h1:=useId_any x.k W
  rw [show uId x.k = false by rw [hk];rfl] at h1;exact h1
 have cUGrp : ∀ W,Calls Tryz.prog 17 #[.int .i64 x.k,nGrp] W fun e w'=>e = .returned (.bool false)∧W = w':=fun W=>by
  have h1:=useGrp_any x.k W
  rw [show uGrp x.k = false by rw [hk];rfl] at h1;exact h1
 have cUStp : ∀ W,Calls Tryz.prog 17 #[.int .i64 x.k,nStp] W fun e w'=>e = .returned (.bool false)∧W = w':=fun W=>by
  have h1:=useStp_any x.k W
  rw [show uStp x.k = false by rw [hk];rfl] at h1;exact h1
 have cUYes : ∀ W,Calls Tryz.prog 17 #[.int .i64 x.k,nYes] W fun e w'=>e = .returned (.bool false)∧W = w':=fun W=>by
  have h1:=useYes_any x.k W
  rw [show uYes x.k = false by rw [hk];rfl] at h1;exact h1
 have cUNum : ∀ W,Calls Tryz.prog 17 #[.int .i64 x.k,nNum] W fun e w'=>e = .returned (.bool false)∧W = w':=fun W=>by
  have h1:=useNum_any x.k W
  rw [show uNum x.k = false by rw [hk];rfl] at h1;exact h1
 have cUKey : ∀ W,Calls Tryz.prog 17 #[.int .i64 x.k,nKey] W fun e w'=>e = .returned (.bool false)∧W = w':=fun W=>by
  have h1:=useKey_any x.k W
  rw [show uKey x.k = false by rw [hk];rfl] at h1;exact h1
 have cUVal : ∀ W,Calls Tryz.prog 17 #[.int .i64 x.k,nVal] W fun e w'=>e = .returned (.bool false)∧W = w':=fun W=>by
  have h1:=useVal_any x.k W
  rw [show uVal x.k = false by rw [hk];rfl] at h1;exact h1
 have cUDat : ∀ W,Calls Tryz.prog 17 #[.int .i64 x.k,nDat] W fun e w'=>e = .returned (.bool false)∧W = w':=fun W=>by
  have h1:=useDat_any x.k W
  rw [show uDat x.k = false by rw [hk];rfl] at h1;exact h1
 have cB : ∀ a1 n1 c1 L1 W,Below w.heap.size w W→BAt W W.heap.size a1 n1 L1→n1≤1000000000→Calls Tryz.prog 48 #[.slice a1 n1 c1,.agg #[.int .u32 ((x.br : Nat) : Int),.int .i64 x.bn]] W (NewB W (L1 ++ balBytes (((x.br : Nat) : Int),x.bn))):=fun a1 n1 c1 L1 W hW h1 h2=>by
   have h3:=rPut_any a1 n1 c1 x.br x.bn L1 W h1 (by omega) h.nb.br
   rw [bal_put _ _ FB] at h3;exact h3
 have E : Hid ((putB x.k.toNat 1 ++ balBytes (((x.br : Nat) : Int),x.bn)) = mgB (mgT x L)):=by
  unfold Hid
  rw [← hE,show lets (letters x.k) = [98] by rw [hk];rfl]
  unfold putFs
  simp only [List.flatMap_cons,List.flatMap_nil,List.append_nil]
  rfl
 have QKB : Hid ((balBytes (((x.br : Nat) : Int),x.bn)).length≤5):=by unfold Hid;rw [balBytes_len];omega
 have KK1 : Hid (((x.k.toNat : Nat) : Int) = x.k):=Int.toNat_of_nonneg (by omega)
 clear h hf hk F hE FB
 go_enter Tryz.func21,Tryz.ntmps21
 go_upto_region 3 with (go_at_call 47;((with_reducible refine (cF _ H0.out.bel).mono ?_);rintro e w1 ⟨rfl,hb1⟩;have H1:=hid (H0.out.below hb1)))
 clear xW cF
 have HS1 : Hid (w.heap.size + 1≤w1.heap.size):=by have:=hb1.size;rw [hz] at this;exact this
 clear hz
 have x0:=H1.c 0 0 rfl rfl
 go_upto_region 5 with (fail)
 have D0 : Hid (DW x w (w1.alloc (.cells #[.int .u8 x.k] 5)) (.slice (some ⟨w1.heap.size,0,none⟩) 1 1) 1 (putB x.k.toNat 1)):=by
  have o1:=own_first w1 x.k.toNat (by omega)
  rw [KK1.out] at o1
  have b1:=H1.out.bel
  exact ⟨⟨own_base o1 HS1.out,b1.alloc b1.size _⟩,(H1.g 0 rfl).alloc _,by have:=HS1.out;simp;omega⟩
 clear x0 H1 HS1 hb1 H0
 generalize w1.alloc (.cells #[.int .u8 x.k] 5) = v0 at *
 generalize some (⟨w1.heap.size,0,none⟩ : Addr) = a0 at *
 have hn0 : (1 : Nat)≤1:=Nat.le_refl _
 have x0:=D0.out.mx.cell 0 _ rfl;have x1:=D0.out.mx.cell 1 _ rfl;have x2:=D0.out.mx.cell 2 _ rfl;have x4:=D0.out.mx.cell 4 _ rfl
 go_wp2_with (first | (go_at_call 17;(with_reducible first | refine (cUBal _).mono ?_ | refine (cUSlot _).mono ?_ | refine (cUHas _).mono ?_ | refine (cUCmd _).mono ?_ | refine (cUTxn _).mono ?_ | refine (cUId _).mono ?_ | refine (cUGrp _).mono ?_ | refine (cUStp _).mono ?_ | refine (cUYes _).mono ?_ | refine (cUNum _).mono ?_ | refine (cUKey _).mono ?_ | refine (cUVal _).mono ?_ | refine (cUDat _).mono ?_);rintro e w0 ⟨rfl,rfl⟩) | (go_at_call 48;((with_reducible refine (cB a0 1 1 _ _ D0.out.bel D0.out.bat (by omega)).mono ?_);rintro e v1 ⟨a1,n1,c1,rfl,ho1,hb1⟩;have D1:=hid (D0.out.call ho1 hb1);clear ho1 hb1;have hn1 : n1≤6:=(by have e1:=D1.out.len;rw [List.length_append,D0.out.len] at e1;have e2:=QKB.out;omega);(clear x0 x1 x2 x4);have x0:=D1.out.mx.cell 0 _ rfl;have x1:=D1.out.mx.cell 1 _ rfl;have x2:=D1.out.mx.cell 2 _ rfl;have x4:=D1.out.mx.cell 4 _ rfl)))
 go_ret2
 exact ⟨a1,n1,c1,rfl,by rw [if_pos rfl,← E.out];exact own_base D1.out.own (Nat.le_succ _),D1.out.bel⟩
theorem rWrite_4 (h : MgAt w x L) (hf : MgF x) (hk : x.k = 4) (F : FormMg (mgT x L)) :
  Calls Tryz.prog 21 #[.agg (mgV x)] w (WrB w true (mgB (mgT x L))):=by
 obtain ⟨i0,hi,hz0,hz1,hz2⟩:=info_parts Tryz.info5
 have H0:=hid ((Boxs.start w).more (mgV x) 46)
 have hz : (w.alloc (.cells (mgV x) 46)).heap.size = w.heap.size + 1:=by simp
 have xW:=(H0.g 0 rfl).ldD
 have cF : ∀ W,Below w.heap.size w W→Calls Tryz.prog 47 #[.agg (mgV x)] W (Says W true):=fun W hW=>by
  have h1:=rFormedG_any x L W (h.later hW) hf
  rw [(formMg_iff _).2 F] at h1;exact h1
 have hE:=bytes_4 hk F
 have hh : x.has = false:=F.has0 (show uHas (mgT x L).k = false by rw [show (mgT x L).k = 4 from hk];rfl)
 have FB : formB x.bn = true:=F.ba (show uBal (mgT x L).k = true by rw [show (mgT x L).k = 4 from hk];rfl)
 have FC : formCm (cmT x.cm L.rs L.ws) = true:=F.cm (by rw [(show uCmd (mgT x L).k = true by rw [show (mgT x L).k = 4 from hk];rfl),Bool.or_true])
 have s0 : 0≤x.sl:=F.sl.1
 have s1 : x.sl≤1000000:=F.sl.2.1
 have k0 : 1≤x.k:=F.kind.1
 have k1 : x.k≤15:=F.kind.2
 have cUBal : ∀ W,Calls Tryz.prog 17 #[.int .i64 x.k,nBal] W fun e w'=>e = .returned (.bool true)∧W = w':=fun W=>by
  have h1:=useBal_any x.k W
  rw [show uBal x.k = true by rw [hk];rfl] at h1;exact h1
 have cUSlot : ∀ W,Calls Tryz.prog 17 #[.int .i64 x.k,nSlot] W fun e w'=>e = .returned (.bool true)∧W = w':=fun W=>by
  have h1:=useSlot_any x.k W
  rw [show uSlot x.k = true by rw [hk];rfl] at h1;exact h1
 have cUHas : ∀ W,Calls Tryz.prog 17 #[.int .i64 x.k,nHas] W fun e w'=>e = .returned (.bool false)∧W = w':=fun W=>by
  have h1:=useHas_any x.k W
  rw [show uHas x.k = false by rw [hk];rfl] at h1;exact h1
 have cUCmd : ∀ W,Calls Tryz.prog 17 #[.int .i64 x.k,nCmd] W fun e w'=>e = .returned (.bool true)∧W = w':=fun W=>by
  have h1:=useCmd_any x.k W
  rw [show uCmd x.k = true by rw [hk];rfl] at h1;exact h1
 have cUTxn : ∀ W,Calls Tryz.prog 17 #[.int .i64 x.k,nTxn] W fun e w'=>e = .returned (.bool false)∧W = w':=fun W=>by
  have h1:=useTxn_any x.k W
  rw [show uTxn x.k = false by rw [hk];rfl] at h1;exact h1
 have cUId : ∀ W,Calls Tryz.prog 17 #[.int .i64 x.k,nId] W fun e w'=>e = .returned (.bool false)∧W = w':=fun W=>by
  have h1:=useId_any x.k W
  rw [show uId x.k = false by rw [hk];rfl] at h1;exact h1
 have cUGrp : ∀ W,Calls Tryz.prog 17 #[.int .i64 x.k,nGrp] W fun e w'=>e = .returned (.bool false)∧W = w':=fun W=>by
  have h1:=useGrp_any x.k W
  rw [show uGrp x.k = false by rw [hk];rfl] at h1;exact h1
 have cUStp : ∀ W,Calls Tryz.prog 17 #[.int .i64 x.k,nStp] W fun e w'=>e = .returned (.bool false)∧W = w':=fun W=>by
  have h1:=useStp_any x.k W
  rw [show uStp x.k = false by rw [hk];rfl] at h1;exact h1
 have cUYes : ∀ W,Calls Tryz.prog 17 #[.int .i64 x.k,nYes] W fun e w'=>e = .returned (.bool false)∧W = w':=fun W=>by
  have h1:=useYes_any x.k W
  rw [show uYes x.k = false by rw [hk];rfl] at h1;exact h1
 have cUNum : ∀ W,Calls Tryz.prog 17 #[.int .i64 x.k,nNum] W fun e w'=>e = .returned (.bool false)∧W = w':=fun W=>by
  have h1:=useNum_any x.k W
  rw [show uNum x.k = false by rw [hk];rfl] at h1;exact h1
 have cUKey : ∀ W,Calls Tryz.prog 17 #[.int .i64 x.k,nKey] W fun e w'=>e = .returned (.bool false)∧W = w':=fun W=>by
  have h1:=useKey_any x.k W
  rw [show uKey x.k = false by rw [hk];rfl] at h1;exact h1
 have cUVal : ∀ W,Calls Tryz.prog 17 #[.int .i64 x.k,nVal] W fun e w'=>e = .returned (.bool false)∧W = w':=fun W=>by
  have h1:=useVal_any x.k W
  rw [show uVal x.k = false by rw [hk];rfl] at h1;exact h1
 have cUDat : ∀ W,Calls Tryz.prog 17 #[.int .i64 x.k,nDat] W fun e w'=>e = .returned (.bool false)∧W = w':=fun W=>by
  have h1:=useDat_any x.k W
  rw [show uDat x.k = false by rw [hk];rfl] at h1;exact h1
 have cB : ∀ a1 n1 c1 L1 W,Below w.heap.size w W→BAt W W.heap.size a1 n1 L1→n1≤1000000000→Calls Tryz.prog 48 #[.slice a1 n1 c1,.agg #[.int .u32 ((x.br : Nat) : Int),.int .i64 x.bn]] W (NewB W (L1 ++ balBytes (((x.br : Nat) : Int),x.bn))):=fun a1 n1 c1 L1 W hW h1 h2=>by
   have h3:=rPut_any a1 n1 c1 x.br x.bn L1 W h1 (by omega) h.nb.br
   rw [bal_put _ _ FB] at h3;exact h3
 have cS : ∀ a1 n1 c1 L1 W,Below w.heap.size w W→BAt W W.heap.size a1 n1 L1→n1≤1000000000→Calls Tryz.prog 49 #[.slice a1 n1 c1,.int .u64 x.sl,.int .i64 4] W (NewB W (L1 ++ putB x.sl.toNat 4)):=fun a1 n1 c1 L1 W hW h1 h2=>refPutM_any a1 n1 c1 x.sl 4 L1 W h1 (by omega) s0 (by omega) (by omega) (by omega)
 have cC : ∀ a1 n1 c1 L1 W,Below w.heap.size w W→BAt W W.heap.size a1 n1 L1→n1≤1000000000→Calls Tryz.prog 51 #[.slice a1 n1 c1,.agg (cmV x.cm)] W (NewB W (L1 ++ cmB (cmT x.cm L.rs L.ws))):=fun a1 n1 c1 L1 W hW h1 h2=>by
   have h3:=dPut_any a1 n1 c1 L1 x.cm L.rs L.ws W h1 (by omega) (h.cm.later hW) hf.n hf.m
   unfold putC at h3
   rw [if_pos FC] at h3;exact h3
 have E : Hid ((((putB x.k.toNat 1 ++ balBytes (((x.br : Nat) : Int),x.bn)) ++ putB x.sl.toNat 4) ++ cmB (cmT x.cm L.rs L.ws)) = mgB (mgT x L)):=by
  unfold Hid
  rw [← hE,show lets (letters x.k) = [98,115,99] by rw [hk];rfl]
  unfold putFs
  simp only [List.flatMap_cons,List.flatMap_nil,List.append_nil]
  simp only [List.append_assoc]
  rfl
 have QKB : Hid ((balBytes (((x.br : Nat) : Int),x.bn)).length≤5):=by unfold Hid;rw [balBytes_len];omega
 have QKS : Hid ((putB x.sl.toNat 4).length≤4):=by unfold Hid;rw [putB_len];omega
 have QKC : Hid ((cmB (cmT x.cm L.rs L.ws)).length≤1179728):=cmB_max _ FC
 have KK1 : Hid (((x.k.toNat : Nat) : Int) = x.k):=Int.toNat_of_nonneg (by omega)
 clear h hf hk F hE FB FC
 go_enter Tryz.func21,Tryz.ntmps21
 go_upto_region 3 with (go_at_call 47;((with_reducible refine (cF _ H0.out.bel).mono ?_);rintro e w1 ⟨rfl,hb1⟩;have H1:=hid (H0.out.below hb1)))
 clear xW cF
 have HS1 : Hid (w.heap.size + 1≤w1.heap.size):=by have:=hb1.size;rw [hz] at this;exact this
 clear hz
 have x0:=H1.c 0 0 rfl rfl
 go_upto_region 5 with (fail)
 have D0 : Hid (DW x w (w1.alloc (.cells #[.int .u8 x.k] 5)) (.slice (some ⟨w1.heap.size,0,none⟩) 1 1) 1 (putB x.k.toNat 1)):=by
  have o1:=own_first w1 x.k.toNat (by omega)
  rw [KK1.out] at o1
  have b1:=H1.out.bel
  exact ⟨⟨own_base o1 HS1.out,b1.alloc b1.size _⟩,(H1.g 0 rfl).alloc _,by have:=HS1.out;simp;omega⟩
 clear x0 H1 HS1 hb1 H0
 generalize w1.alloc (.cells #[.int .u8 x.k] 5) = v0 at *
 generalize some (⟨w1.heap.size,0,none⟩ : Addr) = a0 at *
 have hn0 : (1 : Nat)≤1:=Nat.le_refl _
 have x0:=D0.out.mx.cell 0 _ rfl;have x1:=D0.out.mx.cell 1 _ rfl;have x2:=D0.out.mx.cell 2 _ rfl;have x3:=D0.out.mx.cell 3 _ rfl;have x4:=D0.out.mx.cell 4 _ rfl;have x7:=D0.out.mx.cell 7 _ rfl;have x8:=D0.out.mx.cell 8 _ rfl;have x9:=D0.out.mx.cell 9 _ rfl;have x10:=D0.out.mx.cell 10 _ rfl;have x11:=D0.out.mx.cell 11 _ rfl;have x12:=D0.out.mx.cell 12 _ rfl;have x13:=D0.out.mx.cell 13 _ rfl;have x14:=D0.out.mx.cell 14 _ rfl;have x15:=D0.out.mx.cell 15 _ rfl;have x16:=D0.out.mx.cell 16 _ rfl
 go_wp2_with (first | (go_at_call 17;(with_reducible first | refine (cUBal _).mono ?_ | refine (cUSlot _).mono ?_ | refine (cUHas _).mono ?_ | refine (cUCmd _).mono ?_ | refine (cUTxn _).mono ?_ | refine (cUId _).mono ?_ | refine (cUGrp _).mono ?_ | refine (cUStp _).mono ?_ | refine (cUYes _).mono ?_ | refine (cUNum _).mono ?_ | refine (cUKey _).mono ?_ | refine (cUVal _).mono ?_ | refine (cUDat _).mono ?_);rintro e w0 ⟨rfl,rfl⟩) | (go_at_call 48;((with_reducible refine (cB a0 1 1 _ _ D0.out.bel D0.out.bat (by omega)).mono ?_);rintro e v1 ⟨a1,n1,c1,rfl,ho1,hb1⟩;have D1:=hid (D0.out.call ho1 hb1);clear ho1 hb1;have hn1 : n1≤6:=(by have e1:=D1.out.len;rw [List.length_append,D0.out.len] at e1;have e2:=QKB.out;omega);(clear x0 x1 x2 x3 x4 x7 x8 x9 x10 x11 x12 x13 x14 x15 x16);have x0:=D1.out.mx.cell 0 _ rfl;have x1:=D1.out.mx.cell 1 _ rfl;have x2:=D1.out.mx.cell 2 _ rfl;have x3:=D1.out.mx.cell 3 _ rfl;have x4:=D1.out.mx.cell 4 _ rfl;have x7:=D1.out.mx.cell 7 _ rfl;have x8:=D1.out.mx.cell 8 _ rfl;have x9:=D1.out.mx.cell 9 _ rfl;have x10:=D1.out.mx.cell 10 _ rfl;have x11:=D1.out.mx.cell 11 _ rfl;have x12:=D1.out.mx.cell 12 _ rfl;have x13:=D1.out.mx.cell 13 _ rfl;have x14:=D1.out.mx.cell 14 _ rfl;have x15:=D1.out.mx.cell 15 _ rfl;have x16:=D1.out.mx.cell 16 _ rfl)) | (go_at_call 49;((with_reducible refine (cS a1 n1 c1 _ _ D1.out.bel D1.out.bat (by omega)).mono ?_);rintro e v2 ⟨a2,n2,c2,rfl,ho2,hb2⟩;have D2:=hid (D1.out.call ho2 hb2);clear ho2 hb2;have hn2 : n2≤10:=(by have e1:=D2.out.len;rw [List.length_append,D1.out.len] at e1;have e2:=QKS.out;omega);(clear x0 x1 x2 x3 x4 x7 x8 x9 x10 x11 x12 x13 x14 x15 x16);have x0:=D2.out.mx.cell 0 _ rfl;have x1:=D2.out.mx.cell 1 _ rfl;have x2:=D2.out.mx.cell 2 _ rfl;have x3:=D2.out.mx.cell 3 _ rfl;have x4:=D2.out.mx.cell 4 _ rfl;have x7:=D2.out.mx.cell 7 _ rfl;have x8:=D2.out.mx.cell 8 _ rfl;have x9:=D2.out.mx.cell 9 _ rfl;have x10:=D2.out.mx.cell 10 _ rfl;have x11:=D2.out.mx.cell 11 _ rfl;have x12:=D2.out.mx.cell 12 _ rfl;have x13:=D2.out.mx.cell 13 _ rfl;have x14:=D2.out.mx.cell 14 _ rfl;have x15:=D2.out.mx.cell 15 _ rfl;have x16:=D2.out.mx.cell 16 _ rfl)) | (go_at_call 51;((with_reducible refine (cC a2 n2 c2 _ _ D2.out.bel D2.out.bat (by omega)).mono ?_);rintro e v3 ⟨a3,n3,c3,rfl,ho3,hb3⟩;have D3:=hid (D2.out.call ho3 hb3);clear ho3 hb3;have hn3 : n3≤1179738:=(by have e1:=D3.out.len;rw [List.length_append,D2.out.len] at e1;have e2:=QKC.out;omega);(clear x0 x1 x2 x3 x4 x7 x8 x9 x10 x11 x12 x13 x14 x15 x16);have x0:=D3.out.mx.cell 0 _ rfl;have x1:=D3.out.mx.cell 1 _ rfl;have x2:=D3.out.mx.cell 2 _ rfl;have x3:=D3.out.mx.cell 3 _ rfl;have x4:=D3.out.mx.cell 4 _ rfl;have x7:=D3.out.mx.cell 7 _ rfl;have x8:=D3.out.mx.cell 8 _ rfl;have x9:=D3.out.mx.cell 9 _ rfl;have x10:=D3.out.mx.cell 10 _ rfl;have x11:=D3.out.mx.cell 11 _ rfl;have x12:=D3.out.mx.cell 12 _ rfl;have x13:=D3.out.mx.cell 13 _ rfl;have x14:=D3.out.mx.cell 14 _ rfl;have x15:=D3.out.mx.cell 15 _ rfl;have x16:=D3.out.mx.cell 16 _ rfl)))
 go_ret2
 exact ⟨a3,n3,c3,rfl,by rw [if_pos rfl,← E.out];exact own_base D3.out.own (Nat.le_succ _),D3.out.bel⟩
theorem rWrite_5 (h : MgAt w x L) (hf : MgF x) (hk : x.k = 5) (F : FormMg (mgT x L)) :
  Calls Tryz.prog 21 #[.agg (mgV x)] w (WrB w true (mgB (mgT x L))):=by
 obtain ⟨i0,hi,hz0,hz1,hz2⟩:=info_parts Tryz.info5
 have H0:=hid ((Boxs.start w).more (mgV x) 46)
 have hz : (w.alloc (.cells (mgV x) 46)).heap.size = w.heap.size + 1:=by simp
 have xW:=(H0.g 0 rfl).ldD
 have cF : ∀ W,Below w.heap.size w W→Calls Tryz.prog 47 #[.agg (mgV x)] W (Says W true):=fun W hW=>by
  have h1:=rFormedG_any x L W (h.later hW) hf
  rw [(formMg_iff _).2 F] at h1;exact h1
 have hE:=bytes_5 hk F
 have hh : x.has = false:=F.has0 (show uHas (mgT x L).k = false by rw [show (mgT x L).k = 5 from hk];rfl)
 have FB : formB x.bn = true:=F.ba (show uBal (mgT x L).k = true by rw [show (mgT x L).k = 5 from hk];rfl)
 have s0 : 0≤x.sl:=F.sl.1
 have s1 : x.sl≤1000000:=F.sl.2.1
 have k0 : 1≤x.k:=F.kind.1
 have k1 : x.k≤15:=F.kind.2
 have cUBal : ∀ W,Calls Tryz.prog 17 #[.int .i64 x.k,nBal] W fun e w'=>e = .returned (.bool true)∧W = w':=fun W=>by
  have h1:=useBal_any x.k W
  rw [show uBal x.k = true by rw [hk];rfl] at h1;exact h1
 have cUSlot : ∀ W,Calls Tryz.prog 17 #[.int .i64 x.k,nSlot] W fun e w'=>e = .returned (.bool true)∧W = w':=fun W=>by
  have h1:=useSlot_any x.k W
  rw [show uSlot x.k = true by rw [hk];rfl] at h1;exact h1
 have cUHas : ∀ W,Calls Tryz.prog 17 #[.int .i64 x.k,nHas] W fun e w'=>e = .returned (.bool false)∧W = w':=fun W=>by
  have h1:=useHas_any x.k W
  rw [show uHas x.k = false by rw [hk];rfl] at h1;exact h1
 have cUCmd : ∀ W,Calls Tryz.prog 17 #[.int .i64 x.k,nCmd] W fun e w'=>e = .returned (.bool false)∧W = w':=fun W=>by
  have h1:=useCmd_any x.k W
  rw [show uCmd x.k = false by rw [hk];rfl] at h1;exact h1
 have cUTxn : ∀ W,Calls Tryz.prog 17 #[.int .i64 x.k,nTxn] W fun e w'=>e = .returned (.bool false)∧W = w':=fun W=>by
  have h1:=useTxn_any x.k W
  rw [show uTxn x.k = false by rw [hk];rfl] at h1;exact h1
 have cUId : ∀ W,Calls Tryz.prog 17 #[.int .i64 x.k,nId] W fun e w'=>e = .returned (.bool false)∧W = w':=fun W=>by
  have h1:=useId_any x.k W
  rw [show uId x.k = false by rw [hk];rfl] at h1;exact h1
 have cUGrp : ∀ W,Calls Tryz.prog 17 #[.int .i64 x.k,nGrp] W fun e w'=>e = .returned (.bool false)∧W = w':=fun W=>by
  have h1:=useGrp_any x.k W
  rw [show uGrp x.k = false by rw [hk];rfl] at h1;exact h1
 have cUStp : ∀ W,Calls Tryz.prog 17 #[.int .i64 x.k,nStp] W fun e w'=>e = .returned (.bool false)∧W = w':=fun W=>by
  have h1:=useStp_any x.k W
  rw [show uStp x.k = false by rw [hk];rfl] at h1;exact h1
 have cUYes : ∀ W,Calls Tryz.prog 17 #[.int .i64 x.k,nYes] W fun e w'=>e = .returned (.bool false)∧W = w':=fun W=>by
  have h1:=useYes_any x.k W
  rw [show uYes x.k = false by rw [hk];rfl] at h1;exact h1
 have cUNum : ∀ W,Calls Tryz.prog 17 #[.int .i64 x.k,nNum] W fun e w'=>e = .returned (.bool false)∧W = w':=fun W=>by
  have h1:=useNum_any x.k W
  rw [show uNum x.k = false by rw [hk];rfl] at h1;exact h1
 have cUKey : ∀ W,Calls Tryz.prog 17 #[.int .i64 x.k,nKey] W fun e w'=>e = .returned (.bool false)∧W = w':=fun W=>by
  have h1:=useKey_any x.k W
  rw [show uKey x.k = false by rw [hk];rfl] at h1;exact h1
 have cUVal : ∀ W,Calls Tryz.prog 17 #[.int .i64 x.k,nVal] W fun e w'=>e = .returned (.bool false)∧W = w':=fun W=>by
  have h1:=useVal_any x.k W
  rw [show uVal x.k = false by rw [hk];rfl] at h1;exact h1
 have cUDat : ∀ W,Calls Tryz.prog 17 #[.int .i64 x.k,nDat] W fun e w'=>e = .returned (.bool false)∧W = w':=fun W=>by
  have h1:=useDat_any x.k W
  rw [show uDat x.k = false by rw [hk];rfl] at h1;exact h1
 have cB : ∀ a1 n1 c1 L1 W,Below w.heap.size w W→BAt W W.heap.size a1 n1 L1→n1≤1000000000→Calls Tryz.prog 48 #[.slice a1 n1 c1,.agg #[.int .u32 ((x.br : Nat) : Int),.int .i64 x.bn]] W (NewB W (L1 ++ balBytes (((x.br : Nat) : Int),x.bn))):=fun a1 n1 c1 L1 W hW h1 h2=>by
   have h3:=rPut_any a1 n1 c1 x.br x.bn L1 W h1 (by omega) h.nb.br
   rw [bal_put _ _ FB] at h3;exact h3
 have cS : ∀ a1 n1 c1 L1 W,Below w.heap.size w W→BAt W W.heap.size a1 n1 L1→n1≤1000000000→Calls Tryz.prog 49 #[.slice a1 n1 c1,.int .u64 x.sl,.int .i64 4] W (NewB W (L1 ++ putB x.sl.toNat 4)):=fun a1 n1 c1 L1 W hW h1 h2=>refPutM_any a1 n1 c1 x.sl 4 L1 W h1 (by omega) s0 (by omega) (by omega) (by omega)
 have E : Hid (((putB x.k.toNat 1 ++ balBytes (((x.br : Nat) : Int),x.bn)) ++ putB x.sl.toNat 4) = mgB (mgT x L)):=by
  unfold Hid
  rw [← hE,show lets (letters x.k) = [98,115] by rw [hk];rfl]
  unfold putFs
  simp only [List.flatMap_cons,List.flatMap_nil,List.append_nil]
  simp only [List.append_assoc]
  rfl
 have QKB : Hid ((balBytes (((x.br : Nat) : Int),x.bn)).length≤5):=by unfold Hid;rw [balBytes_len];omega
 have QKS : Hid ((putB x.sl.toNat 4).length≤4):=by unfold Hid;rw [putB_len];omega
 have KK1 : Hid (((x.k.toNat : Nat) : Int) = x.k):=Int.toNat_of_nonneg (by omega)
 clear h hf hk F hE FB
 go_enter Tryz.func21,Tryz.ntmps21
 go_upto_region 3 with (go_at_call 47;((with_reducible refine (cF _ H0.out.bel).mono ?_);rintro e w1 ⟨rfl,hb1⟩;have H1:=hid (H0.out.below hb1)))
 clear xW cF
 have HS1 : Hid (w.heap.size + 1≤w1.heap.size):=by have:=hb1.size;rw [hz] at this;exact this
 clear hz
 have x0:=H1.c 0 0 rfl rfl
 go_upto_region 5 with (fail)
 have D0 : Hid (DW x w (w1.alloc (.cells #[.int .u8 x.k] 5)) (.slice (some ⟨w1.heap.size,0,none⟩) 1 1) 1 (putB x.k.toNat 1)):=by
  have o1:=own_first w1 x.k.toNat (by omega)
  rw [KK1.out] at o1
  have b1:=H1.out.bel
  exact ⟨⟨own_base o1 HS1.out,b1.alloc b1.size _⟩,(H1.g 0 rfl).alloc _,by have:=HS1.out;simp;omega⟩
 clear x0 H1 HS1 hb1 H0
 generalize w1.alloc (.cells #[.int .u8 x.k] 5) = v0 at *
 generalize some (⟨w1.heap.size,0,none⟩ : Addr) = a0 at *
 have hn0 : (1 : Nat)≤1:=Nat.le_refl _
 have x0:=D0.out.mx.cell 0 _ rfl;have x1:=D0.out.mx.cell 1 _ rfl;have x2:=D0.out.mx.cell 2 _ rfl;have x3:=D0.out.mx.cell 3 _ rfl;have x4:=D0.out.mx.cell 4 _ rfl
 go_wp2_with (first | (go_at_call 17;(with_reducible first | refine (cUBal _).mono ?_ | refine (cUSlot _).mono ?_ | refine (cUHas _).mono ?_ | refine (cUCmd _).mono ?_ | refine (cUTxn _).mono ?_ | refine (cUId _).mono ?_ | refine (cUGrp _).mono ?_ | refine (cUStp _).mono ?_ | refine (cUYes _).mono ?_ | refine (cUNum _).mono ?_ | refine (cUKey _).mono ?_ | refine (cUVal _).mono ?_ | refine (cUDat _).mono ?_);rintro e w0 ⟨rfl,rfl⟩) | (go_at_call 48;((with_reducible refine (cB a0 1 1 _ _ D0.out.bel D0.out.bat (by omega)).mono ?_);rintro e v1 ⟨a1,n1,c1,rfl,ho1,hb1⟩;have D1:=hid (D0.out.call ho1 hb1);clear ho1 hb1;have hn1 : n1≤6:=(by have e1:=D1.out.len;rw [List.length_append,D0.out.len] at e1;have e2:=QKB.out;omega);(clear x0 x1 x2 x3 x4);have x0:=D1.out.mx.cell 0 _ rfl;have x1:=D1.out.mx.cell 1 _ rfl;have x2:=D1.out.mx.cell 2 _ rfl;have x3:=D1.out.mx.cell 3 _ rfl;have x4:=D1.out.mx.cell 4 _ rfl)) | (go_at_call 49;((with_reducible refine (cS a1 n1 c1 _ _ D1.out.bel D1.out.bat (by omega)).mono ?_);rintro e v2 ⟨a2,n2,c2,rfl,ho2,hb2⟩;have D2:=hid (D1.out.call ho2 hb2);clear ho2 hb2;have hn2 : n2≤10:=(by have e1:=D2.out.len;rw [List.length_append,D1.out.len] at e1;have e2:=QKS.out;omega);(clear x0 x1 x2 x3 x4);have x0:=D2.out.mx.cell 0 _ rfl;have x1:=D2.out.mx.cell 1 _ rfl;have x2:=D2.out.mx.cell 2 _ rfl;have x3:=D2.out.mx.cell 3 _ rfl;have x4:=D2.out.mx.cell 4 _ rfl)))
 go_ret2
 exact ⟨a2,n2,c2,rfl,by rw [if_pos rfl,← E.out];exact own_base D2.out.own (Nat.le_succ _),D2.out.bel⟩
theorem rWrite_6 (h : MgAt w x L) (hf : MgF x) (hk : x.k = 6) (F : FormMg (mgT x L)) :
  Calls Tryz.prog 21 #[.agg (mgV x)] w (WrB w true (mgB (mgT x L))):=by
 obtain ⟨i0,hi,hz0,hz1,hz2⟩:=info_parts Tryz.info5
 have H0:=hid ((Boxs.start w).more (mgV x) 46)
 have hz : (w.alloc (.cells (mgV x) 46)).heap.size = w.heap.size + 1:=by simp
 have xW:=(H0.g 0 rfl).ldD
 have cF : ∀ W,Below w.heap.size w W→Calls Tryz.prog 47 #[.agg (mgV x)] W (Says W true):=fun W hW=>by
  have h1:=rFormedG_any x L W (h.later hW) hf
  rw [(formMg_iff _).2 F] at h1;exact h1
 have hE:=bytes_6 hk F
 have hh : x.has = false:=F.has0 (show uHas (mgT x L).k = false by rw [show (mgT x L).k = 6 from hk];rfl)
 have FC : formCm (cmT x.cm L.rs L.ws) = true:=F.cm (by rw [(show uCmd (mgT x L).k = true by rw [show (mgT x L).k = 6 from hk];rfl),Bool.or_true])
 have s0 : 0≤x.sl:=F.sl.1
 have s1 : x.sl≤1000000:=F.sl.2.1
 have k0 : 1≤x.k:=F.kind.1
 have k1 : x.k≤15:=F.kind.2
 have cUBal : ∀ W,Calls Tryz.prog 17 #[.int .i64 x.k,nBal] W fun e w'=>e = .returned (.bool false)∧W = w':=fun W=>by
  have h1:=useBal_any x.k W
  rw [show uBal x.k = false by rw [hk];rfl] at h1;exact h1
 have cUSlot : ∀ W,Calls Tryz.prog 17 #[.int .i64 x.k,nSlot] W fun e w'=>e = .returned (.bool true)∧W = w':=fun W=>by
  have h1:=useSlot_any x.k W
  rw [show uSlot x.k = true by rw [hk];rfl] at h1;exact h1
 have cUHas : ∀ W,Calls Tryz.prog 17 #[.int .i64 x.k,nHas] W fun e w'=>e = .returned (.bool false)∧W = w':=fun W=>by
  have h1:=useHas_any x.k W
  rw [show uHas x.k = false by rw [hk];rfl] at h1;exact h1
 have cUCmd : ∀ W,Calls Tryz.prog 17 #[.int .i64 x.k,nCmd] W fun e w'=>e = .returned (.bool true)∧W = w':=fun W=>by
  have h1:=useCmd_any x.k W
  rw [show uCmd x.k = true by rw [hk];rfl] at h1;exact h1
 have cUTxn : ∀ W,Calls Tryz.prog 17 #[.int .i64 x.k,nTxn] W fun e w'=>e = .returned (.bool false)∧W = w':=fun W=>by
  have h1:=useTxn_any x.k W
  rw [show uTxn x.k = false by rw [hk];rfl] at h1;exact h1
 have cUId : ∀ W,Calls Tryz.prog 17 #[.int .i64 x.k,nId] W fun e w'=>e = .returned (.bool false)∧W = w':=fun W=>by
  have h1:=useId_any x.k W
  rw [show uId x.k = false by rw [hk];rfl] at h1;exact h1
 have cUGrp : ∀ W,Calls Tryz.prog 17 #[.int .i64 x.k,nGrp] W fun e w'=>e = .returned (.bool false)∧W = w':=fun W=>by
  have h1:=useGrp_any x.k W
  rw [show uGrp x.k = false by rw [hk];rfl] at h1;exact h1
 have cUStp : ∀ W,Calls Tryz.prog 17 #[.int .i64 x.k,nStp] W fun e w'=>e = .returned (.bool false)∧W = w':=fun W=>by
  have h1:=useStp_any x.k W
  rw [show uStp x.k = false by rw [hk];rfl] at h1;exact h1
 have cUYes : ∀ W,Calls Tryz.prog 17 #[.int .i64 x.k,nYes] W fun e w'=>e = .returned (.bool false)∧W = w':=fun W=>by
  have h1:=useYes_any x.k W
  rw [show uYes x.k = false by rw [hk];rfl] at h1;exact h1
 have cUNum : ∀ W,Calls Tryz.prog 17 #[.int .i64 x.k,nNum] W fun e w'=>e = .returned (.bool false)∧W = w':=fun W=>by
  have h1:=useNum_any x.k W
  rw [show uNum x.k = false by rw [hk];rfl] at h1;exact h1
 have cUKey : ∀ W,Calls Tryz.prog 17 #[.int .i64 x.k,nKey] W fun e w'=>e = .returned (.bool false)∧W = w':=fun W=>by
  have h1:=useKey_any x.k W
  rw [show uKey x.k = false by rw [hk];rfl] at h1;exact h1
 have cUVal : ∀ W,Calls Tryz.prog 17 #[.int .i64 x.k,nVal] W fun e w'=>e = .returned (.bool false)∧W = w':=fun W=>by
  have h1:=useVal_any x.k W
  rw [show uVal x.k = false by rw [hk];rfl] at h1;exact h1
 have cUDat : ∀ W,Calls Tryz.prog 17 #[.int .i64 x.k,nDat] W fun e w'=>e = .returned (.bool false)∧W = w':=fun W=>by
  have h1:=useDat_any x.k W
  rw [show uDat x.k = false by rw [hk];rfl] at h1;exact h1
 have cS : ∀ a1 n1 c1 L1 W,Below w.heap.size w W→BAt W W.heap.size a1 n1 L1→n1≤1000000000→Calls Tryz.prog 49 #[.slice a1 n1 c1,.int .u64 x.sl,.int .i64 4] W (NewB W (L1 ++ putB x.sl.toNat 4)):=fun a1 n1 c1 L1 W hW h1 h2=>refPutM_any a1 n1 c1 x.sl 4 L1 W h1 (by omega) s0 (by omega) (by omega) (by omega)
 have cC : ∀ a1 n1 c1 L1 W,Below w.heap.size w W→BAt W W.heap.size a1 n1 L1→n1≤1000000000→Calls Tryz.prog 51 #[.slice a1 n1 c1,.agg (cmV x.cm)] W (NewB W (L1 ++ cmB (cmT x.cm L.rs L.ws))):=fun a1 n1 c1 L1 W hW h1 h2=>by
   have h3:=dPut_any a1 n1 c1 L1 x.cm L.rs L.ws W h1 (by omega) (h.cm.later hW) hf.n hf.m
   unfold putC at h3
   rw [if_pos FC] at h3;exact h3
 have E : Hid (((putB x.k.toNat 1 ++ putB x.sl.toNat 4) ++ cmB (cmT x.cm L.rs L.ws)) = mgB (mgT x L)):=by
  unfold Hid
  rw [← hE,show lets (letters x.k) = [115,99] by rw [hk];rfl]
  unfold putFs
  simp only [List.flatMap_cons,List.flatMap_nil,List.append_nil]
  simp only [List.append_assoc]
  rfl
 have QKS : Hid ((putB x.sl.toNat 4).length≤4):=by unfold Hid;rw [putB_len];omega
 have QKC : Hid ((cmB (cmT x.cm L.rs L.ws)).length≤1179728):=cmB_max _ FC
 have KK1 : Hid (((x.k.toNat : Nat) : Int) = x.k):=Int.toNat_of_nonneg (by omega)
 clear h hf hk F hE FC
 go_enter Tryz.func21,Tryz.ntmps21
 go_upto_region 3 with (go_at_call 47;((with_reducible refine (cF _ H0.out.bel).mono ?_);rintro e w1 ⟨rfl,hb1⟩;have H1:=hid (H0.out.below hb1)))
 clear xW cF
 have HS1 : Hid (w.heap.size + 1≤w1.heap.size):=by have:=hb1.size;rw [hz] at this;exact this
 clear hz
 have x0:=H1.c 0 0 rfl rfl
 go_upto_region 5 with (fail)
 have D0 : Hid (DW x w (w1.alloc (.cells #[.int .u8 x.k] 5)) (.slice (some ⟨w1.heap.size,0,none⟩) 1 1) 1 (putB x.k.toNat 1)):=by
  have o1:=own_first w1 x.k.toNat (by omega)
  rw [KK1.out] at o1
  have b1:=H1.out.bel
  exact ⟨⟨own_base o1 HS1.out,b1.alloc b1.size _⟩,(H1.g 0 rfl).alloc _,by have:=HS1.out;simp;omega⟩
 clear x0 H1 HS1 hb1 H0
 generalize w1.alloc (.cells #[.int .u8 x.k] 5) = v0 at *
 generalize some (⟨w1.heap.size,0,none⟩ : Addr) = a0 at *
 have hn0 : (1 : Nat)≤1:=Nat.le_refl _
 have x0:=D0.out.mx.cell 0 _ rfl;have x3:=D0.out.mx.cell 3 _ rfl;have x4:=D0.out.mx.cell 4 _ rfl;have x7:=D0.out.mx.cell 7 _ rfl;have x8:=D0.out.mx.cell 8 _ rfl;have x9:=D0.out.mx.cell 9 _ rfl;have x10:=D0.out.mx.cell 10 _ rfl;have x11:=D0.out.mx.cell 11 _ rfl;have x12:=D0.out.mx.cell 12 _ rfl;have x13:=D0.out.mx.cell 13 _ rfl;have x14:=D0.out.mx.cell 14 _ rfl;have x15:=D0.out.mx.cell 15 _ rfl;have x16:=D0.out.mx.cell 16 _ rfl
 go_wp2_with (first | (go_at_call 17;(with_reducible first | refine (cUBal _).mono ?_ | refine (cUSlot _).mono ?_ | refine (cUHas _).mono ?_ | refine (cUCmd _).mono ?_ | refine (cUTxn _).mono ?_ | refine (cUId _).mono ?_ | refine (cUGrp _).mono ?_ | refine (cUStp _).mono ?_ | refine (cUYes _).mono ?_ | refine (cUNum _).mono ?_ | refine (cUKey _).mono ?_ | refine (cUVal _).mono ?_ | refine (cUDat _).mono ?_);rintro e w0 ⟨rfl,rfl⟩) | (go_at_call 49;((with_reducible refine (cS a0 1 1 _ _ D0.out.bel D0.out.bat (by omega)).mono ?_);rintro e v1 ⟨a1,n1,c1,rfl,ho1,hb1⟩;have D1:=hid (D0.out.call ho1 hb1);clear ho1 hb1;have hn1 : n1≤5:=(by have e1:=D1.out.len;rw [List.length_append,D0.out.len] at e1;have e2:=QKS.out;omega);(clear x0 x3 x4 x7 x8 x9 x10 x11 x12 x13 x14 x15 x16);have x0:=D1.out.mx.cell 0 _ rfl;have x3:=D1.out.mx.cell 3 _ rfl;have x4:=D1.out.mx.cell 4 _ rfl;have x7:=D1.out.mx.cell 7 _ rfl;have x8:=D1.out.mx.cell 8 _ rfl;have x9:=D1.out.mx.cell 9 _ rfl;have x10:=D1.out.mx.cell 10 _ rfl;have x11:=D1.out.mx.cell 11 _ rfl;have x12:=D1.out.mx.cell 12 _ rfl;have x13:=D1.out.mx.cell 13 _ rfl;have x14:=D1.out.mx.cell 14 _ rfl;have x15:=D1.out.mx.cell 15 _ rfl;have x16:=D1.out.mx.cell 16 _ rfl)) | (go_at_call 51;((with_reducible refine (cC a1 n1 c1 _ _ D1.out.bel D1.out.bat (by omega)).mono ?_);rintro e v2 ⟨a2,n2,c2,rfl,ho2,hb2⟩;have D2:=hid (D1.out.call ho2 hb2);clear ho2 hb2;have hn2 : n2≤1179733:=(by have e1:=D2.out.len;rw [List.length_append,D1.out.len] at e1;have e2:=QKC.out;omega);(clear x0 x3 x4 x7 x8 x9 x10 x11 x12 x13 x14 x15 x16);have x0:=D2.out.mx.cell 0 _ rfl;have x3:=D2.out.mx.cell 3 _ rfl;have x4:=D2.out.mx.cell 4 _ rfl;have x7:=D2.out.mx.cell 7 _ rfl;have x8:=D2.out.mx.cell 8 _ rfl;have x9:=D2.out.mx.cell 9 _ rfl;have x10:=D2.out.mx.cell 10 _ rfl;have x11:=D2.out.mx.cell 11 _ rfl;have x12:=D2.out.mx.cell 12 _ rfl;have x13:=D2.out.mx.cell 13 _ rfl;have x14:=D2.out.mx.cell 14 _ rfl;have x15:=D2.out.mx.cell 15 _ rfl;have x16:=D2.out.mx.cell 16 _ rfl)))
 go_ret2
 exact ⟨a2,n2,c2,rfl,by rw [if_pos rfl,← E.out];exact own_base D2.out.own (Nat.le_succ _),D2.out.bel⟩
theorem rWrite_7 (h : MgAt w x L) (hf : MgF x) (hk : x.k = 7) (F : FormMg (mgT x L)) :
  Calls Tryz.prog 21 #[.agg (mgV x)] w (WrB w true (mgB (mgT x L))):=by
 obtain ⟨i0,hi,hz0,hz1,hz2⟩:=info_parts Tryz.info5
 have H0:=hid ((Boxs.start w).more (mgV x) 46)
 have hz : (w.alloc (.cells (mgV x) 46)).heap.size = w.heap.size + 1:=by simp
 have xW:=(H0.g 0 rfl).ldD
 have cF : ∀ W,Below w.heap.size w W→Calls Tryz.prog 47 #[.agg (mgV x)] W (Says W true):=fun W hW=>by
  have h1:=rFormedG_any x L W (h.later hW) hf
  rw [(formMg_iff _).2 F] at h1;exact h1
 have hE:=bytes_7 hk F
 have hh : x.has = false:=F.has0 (show uHas (mgT x L).k = false by rw [show (mgT x L).k = 7 from hk];rfl)
 have s0 : 0≤x.sl:=F.sl.1
 have s1 : x.sl≤1000000:=F.sl.2.1
 have k0 : 1≤x.k:=F.kind.1
 have k1 : x.k≤15:=F.kind.2
 have cUBal : ∀ W,Calls Tryz.prog 17 #[.int .i64 x.k,nBal] W fun e w'=>e = .returned (.bool false)∧W = w':=fun W=>by
  have h1:=useBal_any x.k W
  rw [show uBal x.k = false by rw [hk];rfl] at h1;exact h1
 have cUSlot : ∀ W,Calls Tryz.prog 17 #[.int .i64 x.k,nSlot] W fun e w'=>e = .returned (.bool true)∧W = w':=fun W=>by
  have h1:=useSlot_any x.k W
  rw [show uSlot x.k = true by rw [hk];rfl] at h1;exact h1
 have cUHas : ∀ W,Calls Tryz.prog 17 #[.int .i64 x.k,nHas] W fun e w'=>e = .returned (.bool false)∧W = w':=fun W=>by
  have h1:=useHas_any x.k W
  rw [show uHas x.k = false by rw [hk];rfl] at h1;exact h1
 have cUCmd : ∀ W,Calls Tryz.prog 17 #[.int .i64 x.k,nCmd] W fun e w'=>e = .returned (.bool false)∧W = w':=fun W=>by
  have h1:=useCmd_any x.k W
  rw [show uCmd x.k = false by rw [hk];rfl] at h1;exact h1
 have cUTxn : ∀ W,Calls Tryz.prog 17 #[.int .i64 x.k,nTxn] W fun e w'=>e = .returned (.bool false)∧W = w':=fun W=>by
  have h1:=useTxn_any x.k W
  rw [show uTxn x.k = false by rw [hk];rfl] at h1;exact h1
 have cUId : ∀ W,Calls Tryz.prog 17 #[.int .i64 x.k,nId] W fun e w'=>e = .returned (.bool false)∧W = w':=fun W=>by
  have h1:=useId_any x.k W
  rw [show uId x.k = false by rw [hk];rfl] at h1;exact h1
 have cUGrp : ∀ W,Calls Tryz.prog 17 #[.int .i64 x.k,nGrp] W fun e w'=>e = .returned (.bool false)∧W = w':=fun W=>by
  have h1:=useGrp_any x.k W
  rw [show uGrp x.k = false by rw [hk];rfl] at h1;exact h1
 have cUStp : ∀ W,Calls Tryz.prog 17 #[.int .i64 x.k,nStp] W fun e w'=>e = .returned (.bool false)∧W = w':=fun W=>by
  have h1:=useStp_any x.k W
  rw [show uStp x.k = false by rw [hk];rfl] at h1;exact h1
 have cUYes : ∀ W,Calls Tryz.prog 17 #[.int .i64 x.k,nYes] W fun e w'=>e = .returned (.bool false)∧W = w':=fun W=>by
  have h1:=useYes_any x.k W
  rw [show uYes x.k = false by rw [hk];rfl] at h1;exact h1
 have cUNum : ∀ W,Calls Tryz.prog 17 #[.int .i64 x.k,nNum] W fun e w'=>e = .returned (.bool false)∧W = w':=fun W=>by
  have h1:=useNum_any x.k W
  rw [show uNum x.k = false by rw [hk];rfl] at h1;exact h1
 have cUKey : ∀ W,Calls Tryz.prog 17 #[.int .i64 x.k,nKey] W fun e w'=>e = .returned (.bool false)∧W = w':=fun W=>by
  have h1:=useKey_any x.k W
  rw [show uKey x.k = false by rw [hk];rfl] at h1;exact h1
 have cUVal : ∀ W,Calls Tryz.prog 17 #[.int .i64 x.k,nVal] W fun e w'=>e = .returned (.bool false)∧W = w':=fun W=>by
  have h1:=useVal_any x.k W
  rw [show uVal x.k = false by rw [hk];rfl] at h1;exact h1
 have cUDat : ∀ W,Calls Tryz.prog 17 #[.int .i64 x.k,nDat] W fun e w'=>e = .returned (.bool false)∧W = w':=fun W=>by
  have h1:=useDat_any x.k W
  rw [show uDat x.k = false by rw [hk];rfl] at h1;exact h1
 have cS : ∀ a1 n1 c1 L1 W,Below w.heap.size w W→BAt W W.heap.size a1 n1 L1→n1≤1000000000→Calls Tryz.prog 49 #[.slice a1 n1 c1,.int .u64 x.sl,.int .i64 4] W (NewB W (L1 ++ putB x.sl.toNat 4)):=fun a1 n1 c1 L1 W hW h1 h2=>refPutM_any a1 n1 c1 x.sl 4 L1 W h1 (by omega) s0 (by omega) (by omega) (by omega)
 have E : Hid ((putB x.k.toNat 1 ++ putB x.sl.toNat 4) = mgB (mgT x L)):=by
  unfold Hid
  rw [← hE,show lets (letters x.k) = [115] by rw [hk];rfl]
  unfold putFs
  simp only [List.flatMap_cons,List.flatMap_nil,List.append_nil]
  rfl
 have QKS : Hid ((putB x.sl.toNat 4).length≤4):=by unfold Hid;rw [putB_len];omega
 have KK1 : Hid (((x.k.toNat : Nat) : Int) = x.k):=Int.toNat_of_nonneg (by omega)
 clear h hf hk F hE
 go_enter Tryz.func21,Tryz.ntmps21
 go_upto_region 3 with (go_at_call 47;((with_reducible refine (cF _ H0.out.bel).mono ?_);rintro e w1 ⟨rfl,hb1⟩;have H1:=hid (H0.out.below hb1)))
 clear xW cF
 have HS1 : Hid (w.heap.size + 1≤w1.heap.size):=by have:=hb1.size;rw [hz] at this;exact this
 clear hz
 have x0:=H1.c 0 0 rfl rfl
 go_upto_region 5 with (fail)
 have D0 : Hid (DW x w (w1.alloc (.cells #[.int .u8 x.k] 5)) (.slice (some ⟨w1.heap.size,0,none⟩) 1 1) 1 (putB x.k.toNat 1)):=by
  have o1:=own_first w1 x.k.toNat (by omega)
  rw [KK1.out] at o1
  have b1:=H1.out.bel
  exact ⟨⟨own_base o1 HS1.out,b1.alloc b1.size _⟩,(H1.g 0 rfl).alloc _,by have:=HS1.out;simp;omega⟩
 clear x0 H1 HS1 hb1 H0
 generalize w1.alloc (.cells #[.int .u8 x.k] 5) = v0 at *
 generalize some (⟨w1.heap.size,0,none⟩ : Addr) = a0 at *
 have hn0 : (1 : Nat)≤1:=Nat.le_refl _
 have x0:=D0.out.mx.cell 0 _ rfl;have x3:=D0.out.mx.cell 3 _ rfl;have x4:=D0.out.mx.cell 4 _ rfl
 go_wp2_with (first | (go_at_call 17;(with_reducible first | refine (cUBal _).mono ?_ | refine (cUSlot _).mono ?_ | refine (cUHas _).mono ?_ | refine (cUCmd _).mono ?_ | refine (cUTxn _).mono ?_ | refine (cUId _).mono ?_ | refine (cUGrp _).mono ?_ | refine (cUStp _).mono ?_ | refine (cUYes _).mono ?_ | refine (cUNum _).mono ?_ | refine (cUKey _).mono ?_ | refine (cUVal _).mono ?_ | refine (cUDat _).mono ?_);rintro e w0 ⟨rfl,rfl⟩) | (go_at_call 49;((with_reducible refine (cS a0 1 1 _ _ D0.out.bel D0.out.bat (by omega)).mono ?_);rintro e v1 ⟨a1,n1,c1,rfl,ho1,hb1⟩;have D1:=hid (D0.out.call ho1 hb1);clear ho1 hb1;have hn1 : n1≤5:=(by have e1:=D1.out.len;rw [List.length_append,D0.out.len] at e1;have e2:=QKS.out;omega);(clear x0 x3 x4);have x0:=D1.out.mx.cell 0 _ rfl;have x3:=D1.out.mx.cell 3 _ rfl;have x4:=D1.out.mx.cell 4 _ rfl)))
 go_ret2
 exact ⟨a1,n1,c1,rfl,by rw [if_pos rfl,← E.out];exact own_base D1.out.own (Nat.le_succ _),D1.out.bel⟩
theorem rWrite_8 (h : MgAt w x L) (hf : MgF x) (hk : x.k = 8) (F : FormMg (mgT x L)) :
  Calls Tryz.prog 21 #[.agg (mgV x)] w (WrB w true (mgB (mgT x L))):=by
 obtain ⟨i0,hi,hz0,hz1,hz2⟩:=info_parts Tryz.info5
 have H0:=hid ((Boxs.start w).more (mgV x) 46)
 have hz : (w.alloc (.cells (mgV x) 46)).heap.size = w.heap.size + 1:=by simp
 have xW:=(H0.g 0 rfl).ldD
 have cF : ∀ W,Below w.heap.size w W→Calls Tryz.prog 47 #[.agg (mgV x)] W (Says W true):=fun W hW=>by
  have h1:=rFormedG_any x L W (h.later hW) hf
  rw [(formMg_iff _).2 F] at h1;exact h1
 have hE:=bytes_8 hk F
 have hh : x.has = false:=F.has0 (show uHas (mgT x L).k = false by rw [show (mgT x L).k = 8 from hk];rfl)
 have FT : formT formedB (txT (x.s,x.q) L.rt L.wt) = true:=F.tx (show uTxn (mgT x L).k = true by rw [show (mgT x L).k = 8 from hk];rfl)
 have k0 : 1≤x.k:=F.kind.1
 have k1 : x.k≤15:=F.kind.2
 have cUBal : ∀ W,Calls Tryz.prog 17 #[.int .i64 x.k,nBal] W fun e w'=>e = .returned (.bool false)∧W = w':=fun W=>by
  have h1:=useBal_any x.k W
  rw [show uBal x.k = false by rw [hk];rfl] at h1;exact h1
 have cUSlot : ∀ W,Calls Tryz.prog 17 #[.int .i64 x.k,nSlot] W fun e w'=>e = .returned (.bool false)∧W = w':=fun W=>by
  have h1:=useSlot_any x.k W
  rw [show uSlot x.k = false by rw [hk];rfl] at h1;exact h1
 have cUHas : ∀ W,Calls Tryz.prog 17 #[.int .i64 x.k,nHas] W fun e w'=>e = .returned (.bool false)∧W = w':=fun W=>by
  have h1:=useHas_any x.k W
  rw [show uHas x.k = false by rw [hk];rfl] at h1;exact h1
 have cUCmd : ∀ W,Calls Tryz.prog 17 #[.int .i64 x.k,nCmd] W fun e w'=>e = .returned (.bool false)∧W = w':=fun W=>by
  have h1:=useCmd_any x.k W
  rw [show uCmd x.k = false by rw [hk];rfl] at h1;exact h1
 have cUTxn : ∀ W,Calls Tryz.prog 17 #[.int .i64 x.k,nTxn] W fun e w'=>e = .returned (.bool true)∧W = w':=fun W=>by
  have h1:=useTxn_any x.k W
  rw [show uTxn x.k = true by rw [hk];rfl] at h1;exact h1
 have cUId : ∀ W,Calls Tryz.prog 17 #[.int .i64 x.k,nId] W fun e w'=>e = .returned (.bool false)∧W = w':=fun W=>by
  have h1:=useId_any x.k W
  rw [show uId x.k = false by rw [hk];rfl] at h1;exact h1
 have cUGrp : ∀ W,Calls Tryz.prog 17 #[.int .i64 x.k,nGrp] W fun e w'=>e = .returned (.bool false)∧W = w':=fun W=>by
  have h1:=useGrp_any x.k W
  rw [show uGrp x.k = false by rw [hk];rfl] at h1;exact h1
 have cUStp : ∀ W,Calls Tryz.prog 17 #[.int .i64 x.k,nStp] W fun e w'=>e = .returned (.bool false)∧W = w':=fun W=>by
  have h1:=useStp_any x.k W
  rw [show uStp x.k = false by rw [hk];rfl] at h1;exact h1
 have cUYes : ∀ W,Calls Tryz.prog 17 #[.int .i64 x.k,nYes] W fun e w'=>e = .returned (.bool false)∧W = w':=fun W=>by
  have h1:=useYes_any x.k W
  rw [show uYes x.k = false by rw [hk];rfl] at h1;exact h1
 have cUNum : ∀ W,Calls Tryz.prog 17 #[.int .i64 x.k,nNum] W fun e w'=>e = .returned (.bool false)∧W = w':=fun W=>by
  have h1:=useNum_any x.k W
  rw [show uNum x.k = false by rw [hk];rfl] at h1;exact h1
 have cUKey : ∀ W,Calls Tryz.prog 17 #[.int .i64 x.k,nKey] W fun e w'=>e = .returned (.bool false)∧W = w':=fun W=>by
  have h1:=useKey_any x.k W
  rw [show uKey x.k = false by rw [hk];rfl] at h1;exact h1
 have cUVal : ∀ W,Calls Tryz.prog 17 #[.int .i64 x.k,nVal] W fun e w'=>e = .returned (.bool false)∧W = w':=fun W=>by
  have h1:=useVal_any x.k W
  rw [show uVal x.k = false by rw [hk];rfl] at h1;exact h1
 have cUDat : ∀ W,Calls Tryz.prog 17 #[.int .i64 x.k,nDat] W fun e w'=>e = .returned (.bool false)∧W = w':=fun W=>by
  have h1:=useDat_any x.k W
  rw [show uDat x.k = false by rw [hk];rfl] at h1;exact h1
 have cT : ∀ a1 n1 c1 L1 W,Below w.heap.size w W→BAt W W.heap.size a1 n1 L1→n1≤1000000000→Calls Tryz.prog 52 #[.slice a1 n1 c1,.agg (txV x.s x.q x.a x.n x.c x.b x.m x.d)] W (NewB W (L1 ++ txnB bytesV (txT (x.s,x.q) L.rt L.wt))):=fun a1 n1 c1 L1 W hW h1 h2=>by
   have h3:=rPutT_any a1 n1 c1 L1 x.s x.q x.a x.n x.c x.b x.m x.d L.rt L.wt W h1 (by omega) (h.tx.later hW)
   unfold putT at h3
   rw [if_pos FT] at h3;exact h3
 have E : Hid ((putB x.k.toNat 1 ++ txnB bytesV (txT (x.s,x.q) L.rt L.wt)) = mgB (mgT x L)):=by
  unfold Hid
  rw [← hE,show lets (letters x.k) = [116] by rw [hk];rfl]
  unfold putFs
  simp only [List.flatMap_cons,List.flatMap_nil,List.append_nil]
  rfl
 have QKT : Hid ((txnB bytesV (txT (x.s,x.q) L.rt L.wt)).length≤1179727):=txnB_max _ FT
 have KK1 : Hid (((x.k.toNat : Nat) : Int) = x.k):=Int.toNat_of_nonneg (by omega)
 clear h hf hk F hE FT
 go_enter Tryz.func21,Tryz.ntmps21
 go_upto_region 3 with (go_at_call 47;((with_reducible refine (cF _ H0.out.bel).mono ?_);rintro e w1 ⟨rfl,hb1⟩;have H1:=hid (H0.out.below hb1)))
 clear xW cF
 have HS1 : Hid (w.heap.size + 1≤w1.heap.size):=by have:=hb1.size;rw [hz] at this;exact this
 clear hz
 have x0:=H1.c 0 0 rfl rfl
 go_upto_region 5 with (fail)
 have D0 : Hid (DW x w (w1.alloc (.cells #[.int .u8 x.k] 5)) (.slice (some ⟨w1.heap.size,0,none⟩) 1 1) 1 (putB x.k.toNat 1)):=by
  have o1:=own_first w1 x.k.toNat (by omega)
  rw [KK1.out] at o1
  have b1:=H1.out.bel
  exact ⟨⟨own_base o1 HS1.out,b1.alloc b1.size _⟩,(H1.g 0 rfl).alloc _,by have:=HS1.out;simp;omega⟩
 clear x0 H1 HS1 hb1 H0
 generalize w1.alloc (.cells #[.int .u8 x.k] 5) = v0 at *
 generalize some (⟨w1.heap.size,0,none⟩ : Addr) = a0 at *
 have hn0 : (1 : Nat)≤1:=Nat.le_refl _
 have x0:=D0.out.mx.cell 0 _ rfl;have x4:=D0.out.mx.cell 4 _ rfl;have x17:=D0.out.mx.cell 17 _ rfl;have x18:=D0.out.mx.cell 18 _ rfl;have x19:=D0.out.mx.cell 19 _ rfl;have x20:=D0.out.mx.cell 20 _ rfl
 go_wp2_with (first | (go_at_call 17;(with_reducible first | refine (cUBal _).mono ?_ | refine (cUSlot _).mono ?_ | refine (cUHas _).mono ?_ | refine (cUCmd _).mono ?_ | refine (cUTxn _).mono ?_ | refine (cUId _).mono ?_ | refine (cUGrp _).mono ?_ | refine (cUStp _).mono ?_ | refine (cUYes _).mono ?_ | refine (cUNum _).mono ?_ | refine (cUKey _).mono ?_ | refine (cUVal _).mono ?_ | refine (cUDat _).mono ?_);rintro e w0 ⟨rfl,rfl⟩) | (go_at_call 52;((with_reducible refine (cT a0 1 1 _ _ D0.out.bel D0.out.bat (by omega)).mono ?_);rintro e v1 ⟨a1,n1,c1,rfl,ho1,hb1⟩;have D1:=hid (D0.out.call ho1 hb1);clear ho1 hb1;have hn1 : n1≤1179728:=(by have e1:=D1.out.len;rw [List.length_append,D0.out.len] at e1;have e2:=QKT.out;omega);(clear x0 x4 x17 x18 x19 x20);have x0:=D1.out.mx.cell 0 _ rfl;have x4:=D1.out.mx.cell 4 _ rfl;have x17:=D1.out.mx.cell 17 _ rfl;have x18:=D1.out.mx.cell 18 _ rfl;have x19:=D1.out.mx.cell 19 _ rfl;have x20:=D1.out.mx.cell 20 _ rfl)))
 go_ret2
 exact ⟨a1,n1,c1,rfl,by rw [if_pos rfl,← E.out];exact own_base D1.out.own (Nat.le_succ _),D1.out.bel⟩
theorem rWrite_9 (h : MgAt w x L) (hf : MgF x) (hk : x.k = 9) (F : FormMg (mgT x L)) :
  Calls Tryz.prog 21 #[.agg (mgV x)] w (WrB w true (mgB (mgT x L))):=by
 obtain ⟨i0,hi,hz0,hz1,hz2⟩:=info_parts Tryz.info5
 have H0:=hid ((Boxs.start w).more (mgV x) 46)
 have hz : (w.alloc (.cells (mgV x) 46)).heap.size = w.heap.size + 1:=by simp
 have xW:=(H0.g 0 rfl).ldD
 have cF : ∀ W,Below w.heap.size w W→Calls Tryz.prog 47 #[.agg (mgV x)] W (Says W true):=fun W hW=>by
  have h1:=rFormedG_any x L W (h.later hW) hf
  rw [(formMg_iff _).2 F] at h1;exact h1
 have hE:=bytes_9 hk F
 have hh : x.has = false:=F.has0 (show uHas (mgT x L).k = false by rw [show (mgT x L).k = 9 from hk];rfl)
 have FI : idB (x.i,x.j) = true:=F.id (show uId (mgT x L).k = true by rw [show (mgT x L).k = 9 from hk];rfl)
 have g0 : 0≤x.g:=F.g.1
 have g1 : x.g < 4:=F.g.2.1
 have k0 : 1≤x.k:=F.kind.1
 have k1 : x.k≤15:=F.kind.2
 have cUBal : ∀ W,Calls Tryz.prog 17 #[.int .i64 x.k,nBal] W fun e w'=>e = .returned (.bool false)∧W = w':=fun W=>by
  have h1:=useBal_any x.k W
  rw [show uBal x.k = false by rw [hk];rfl] at h1;exact h1
 have cUSlot : ∀ W,Calls Tryz.prog 17 #[.int .i64 x.k,nSlot] W fun e w'=>e = .returned (.bool false)∧W = w':=fun W=>by
  have h1:=useSlot_any x.k W
  rw [show uSlot x.k = false by rw [hk];rfl] at h1;exact h1
 have cUHas : ∀ W,Calls Tryz.prog 17 #[.int .i64 x.k,nHas] W fun e w'=>e = .returned (.bool false)∧W = w':=fun W=>by
  have h1:=useHas_any x.k W
  rw [show uHas x.k = false by rw [hk];rfl] at h1;exact h1
 have cUCmd : ∀ W,Calls Tryz.prog 17 #[.int .i64 x.k,nCmd] W fun e w'=>e = .returned (.bool false)∧W = w':=fun W=>by
  have h1:=useCmd_any x.k W
  rw [show uCmd x.k = false by rw [hk];rfl] at h1;exact h1
 have cUTxn : ∀ W,Calls Tryz.prog 17 #[.int .i64 x.k,nTxn] W fun e w'=>e = .returned (.bool false)∧W = w':=fun W=>by
  have h1:=useTxn_any x.k W
  rw [show uTxn x.k = false by rw [hk];rfl] at h1;exact h1
 have cUId : ∀ W,Calls Tryz.prog 17 #[.int .i64 x.k,nId] W fun e w'=>e = .returned (.bool true)∧W = w':=fun W=>by
  have h1:=useId_any x.k W
  rw [show uId x.k = true by rw [hk];rfl] at h1;exact h1
 have cUGrp : ∀ W,Calls Tryz.prog 17 #[.int .i64 x.k,nGrp] W fun e w'=>e = .returned (.bool true)∧W = w':=fun W=>by
  have h1:=useGrp_any x.k W
  rw [show uGrp x.k = true by rw [hk];rfl] at h1;exact h1
 have cUStp : ∀ W,Calls Tryz.prog 17 #[.int .i64 x.k,nStp] W fun e w'=>e = .returned (.bool true)∧W = w':=fun W=>by
  have h1:=useStp_any x.k W
  rw [show uStp x.k = true by rw [hk];rfl] at h1;exact h1
 have cUYes : ∀ W,Calls Tryz.prog 17 #[.int .i64 x.k,nYes] W fun e w'=>e = .returned (.bool false)∧W = w':=fun W=>by
  have h1:=useYes_any x.k W
  rw [show uYes x.k = false by rw [hk];rfl] at h1;exact h1
 have cUNum : ∀ W,Calls Tryz.prog 17 #[.int .i64 x.k,nNum] W fun e w'=>e = .returned (.bool false)∧W = w':=fun W=>by
  have h1:=useNum_any x.k W
  rw [show uNum x.k = false by rw [hk];rfl] at h1;exact h1
 have cUKey : ∀ W,Calls Tryz.prog 17 #[.int .i64 x.k,nKey] W fun e w'=>e = .returned (.bool false)∧W = w':=fun W=>by
  have h1:=useKey_any x.k W
  rw [show uKey x.k = false by rw [hk];rfl] at h1;exact h1
 have cUVal : ∀ W,Calls Tryz.prog 17 #[.int .i64 x.k,nVal] W fun e w'=>e = .returned (.bool false)∧W = w':=fun W=>by
  have h1:=useVal_any x.k W
  rw [show uVal x.k = false by rw [hk];rfl] at h1;exact h1
 have cUDat : ∀ W,Calls Tryz.prog 17 #[.int .i64 x.k,nDat] W fun e w'=>e = .returned (.bool false)∧W = w':=fun W=>by
  have h1:=useDat_any x.k W
  rw [show uDat x.k = false by rw [hk];rfl] at h1;exact h1
 have cI : ∀ a1 n1 c1 L1 W,Below w.heap.size w W→BAt W W.heap.size a1 n1 L1→n1≤1000000000→Calls Tryz.prog 53 #[.slice a1 n1 c1,.agg #[.int .i64 x.i,.int .i64 x.j]] W (NewB W (L1 ++ idBytes (x.i,x.j))):=fun a1 n1 c1 L1 W hW h1 h2=>by
   have h3:=rPutId_any a1 n1 c1 x.i x.j L1 W h1 (by omega)
   unfold putId at h3
   rw [if_pos FI] at h3;exact h3
 have cP : ∀ a1 n1 c1 L1 W,Below w.heap.size w W→BAt W W.heap.size a1 n1 L1→n1≤1000000000→Calls Tryz.prog 49 #[.slice a1 n1 c1,.int .u64 ((x.st : Nat) : Int),.int .i64 8] W (NewB W (L1 ++ putB x.st 8)):=fun a1 n1 c1 L1 W hW h1 h2=>refPut_any a1 n1 c1 x.st 8 L1 W h1 (by omega) h.nb.st (by omega) (by omega)
 have E : Hid ((((putB x.k.toNat 1 ++ idBytes (x.i,x.j)) ++ putB x.g.toNat 1) ++ putB x.st 8) = mgB (mgT x L)):=by
  unfold Hid
  rw [← hE,show lets (letters x.k) = [105,103,112] by rw [hk];rfl]
  unfold putFs
  simp only [List.flatMap_cons,List.flatMap_nil,List.append_nil]
  simp only [List.append_assoc]
  rfl
 have QKI : Hid ((idBytes (x.i,x.j)).length≤5):=by unfold Hid;rw [idBytes_len];omega
 have QKG : Hid ((putB x.g.toNat 1).length≤1):=by unfold Hid;rw [putB_len];omega
 have QKP : Hid ((putB x.st 8).length≤8):=by unfold Hid;rw [putB_len];omega
 have eg:=hid (byte_int x.g g0 (by omega))
 have pg : Hid (putB x.g.toNat 1 = [UInt8.ofNat x.g.toNat]):=put_one _
 have KK1 : Hid (((x.k.toNat : Nat) : Int) = x.k):=Int.toNat_of_nonneg (by omega)
 clear h hf hk F hE FI
 go_enter Tryz.func21,Tryz.ntmps21
 go_upto_region 3 with (go_at_call 47;((with_reducible refine (cF _ H0.out.bel).mono ?_);rintro e w1 ⟨rfl,hb1⟩;have H1:=hid (H0.out.below hb1)))
 clear xW cF
 have HS1 : Hid (w.heap.size + 1≤w1.heap.size):=by have:=hb1.size;rw [hz] at this;exact this
 clear hz
 have x0:=H1.c 0 0 rfl rfl
 go_upto_region 5 with (fail)
 have D0 : Hid (DW x w (w1.alloc (.cells #[.int .u8 x.k] 5)) (.slice (some ⟨w1.heap.size,0,none⟩) 1 1) 1 (putB x.k.toNat 1)):=by
  have o1:=own_first w1 x.k.toNat (by omega)
  rw [KK1.out] at o1
  have b1:=H1.out.bel
  exact ⟨⟨own_base o1 HS1.out,b1.alloc b1.size _⟩,(H1.g 0 rfl).alloc _,by have:=HS1.out;simp;omega⟩
 clear x0 H1 HS1 hb1 H0
 generalize w1.alloc (.cells #[.int .u8 x.k] 5) = v0 at *
 generalize some (⟨w1.heap.size,0,none⟩ : Addr) = a0 at *
 have hn0 : (1 : Nat)≤1:=Nat.le_refl _
 have x0:=D0.out.mx.cell 0 _ rfl;have x4:=D0.out.mx.cell 4 _ rfl;have x21:=D0.out.mx.cell 21 _ rfl;have x22:=D0.out.mx.cell 22 _ rfl;have x23:=D0.out.mx.cell 23 _ rfl;have x24:=D0.out.mx.cell 24 _ rfl
 go_wp2_with (first | (go_at_call 17;(with_reducible first | refine (cUBal _).mono ?_ | refine (cUSlot _).mono ?_ | refine (cUHas _).mono ?_ | refine (cUCmd _).mono ?_ | refine (cUTxn _).mono ?_ | refine (cUId _).mono ?_ | refine (cUGrp _).mono ?_ | refine (cUStp _).mono ?_ | refine (cUYes _).mono ?_ | refine (cUNum _).mono ?_ | refine (cUKey _).mono ?_ | refine (cUVal _).mono ?_ | refine (cUDat _).mono ?_);rintro e w0 ⟨rfl,rfl⟩) | (go_at_call 53;((with_reducible refine (cI a0 1 1 _ _ D0.out.bel D0.out.bat (by omega)).mono ?_);rintro e v1 ⟨a1,n1,c1,rfl,ho1,hb1⟩;have D1:=hid (D0.out.call ho1 hb1);clear ho1 hb1;have hn1 : n1≤6:=(by have e1:=D1.out.len;rw [List.length_append,D0.out.len] at e1;have e2:=QKI.out;omega);(clear x0 x4 x21 x22 x23 x24);have x0:=D1.out.mx.cell 0 _ rfl;have x4:=D1.out.mx.cell 4 _ rfl;have x21:=D1.out.mx.cell 21 _ rfl;have x22:=D1.out.mx.cell 22 _ rfl;have x23:=D1.out.mx.cell 23 _ rfl;have x24:=D1.out.mx.cell 24 _ rfl)) | (at_builtin;(refine wpList_append_bytes _ rfl _ _ 22 rfl (w.heap.size + 1) 5 i0 Tryz.underlying22 hi hz0 hz1 hz2 _ n1 _ rfl (D1.out.own.alloc _) (v1.heap.size + 1) (some ⟨v1.heap.size,0,none⟩) 1 [UInt8.ofNat (x.g).toNat] 1 rfl (BAt.one _ _ _ _ eg.out) (by omega) (by have:=D1.out.size;simp;omega) ?_;intro u2 v2 ho2 hg2;rw [← pg.out] at ho2;obtain ⟨a2,c2,rfl,_,_,_⟩:=own_form ho2;obtain ⟨n2,hnn2⟩ : ∃ q,n1 + 1 = q:=⟨_,rfl⟩;rw [hnn2] at ho2 ⊢;have D2:=hid (D1.out.grow ho2 hg2);clear ho2 hg2 hnn2;have hn2 : n2≤7:=(by have e1:=D2.out.len;rw [List.length_append,D1.out.len] at e1;have e2:=QKG.out;omega);(clear x0 x4 x21 x22 x23 x24);have x0:=D2.out.mx.cell 0 _ rfl;have x4:=D2.out.mx.cell 4 _ rfl;have x21:=D2.out.mx.cell 21 _ rfl;have x22:=D2.out.mx.cell 22 _ rfl;have x23:=D2.out.mx.cell 23 _ rfl;have x24:=D2.out.mx.cell 24 _ rfl)) | (go_at_call 49;((with_reducible refine (cP a2 n2 c2 _ _ D2.out.bel D2.out.bat (by omega)).mono ?_);rintro e v3 ⟨a3,n3,c3,rfl,ho3,hb3⟩;have D3:=hid (D2.out.call ho3 hb3);clear ho3 hb3;have hn3 : n3≤15:=(by have e1:=D3.out.len;rw [List.length_append,D2.out.len] at e1;have e2:=QKP.out;omega);(clear x0 x4 x21 x22 x23 x24);have x0:=D3.out.mx.cell 0 _ rfl;have x4:=D3.out.mx.cell 4 _ rfl;have x21:=D3.out.mx.cell 21 _ rfl;have x22:=D3.out.mx.cell 22 _ rfl;have x23:=D3.out.mx.cell 23 _ rfl;have x24:=D3.out.mx.cell 24 _ rfl)))
 go_ret2
 exact ⟨a3,n3,c3,rfl,by rw [if_pos rfl,← E.out];exact own_base D3.out.own (Nat.le_succ _),D3.out.bel⟩
theorem rWrite_10 (h : MgAt w x L) (hf : MgF x) (hk : x.k = 10) (F : FormMg (mgT x L)) :
  Calls Tryz.prog 21 #[.agg (mgV x)] w (WrB w true (mgB (mgT x L))):=by
 obtain ⟨i0,hi,hz0,hz1,hz2⟩:=info_parts Tryz.info5
 have H0:=hid ((Boxs.start w).more (mgV x) 46)
 have hz : (w.alloc (.cells (mgV x) 46)).heap.size = w.heap.size + 1:=by simp
 have xW:=(H0.g 0 rfl).ldD
 have cF : ∀ W,Below w.heap.size w W→Calls Tryz.prog 47 #[.agg (mgV x)] W (Says W true):=fun W hW=>by
  have h1:=rFormedG_any x L W (h.later hW) hf
  rw [(formMg_iff _).2 F] at h1;exact h1
 have hE:=bytes_10 hk F
 have hh : x.has = false:=F.has0 (show uHas (mgT x L).k = false by rw [show (mgT x L).k = 10 from hk];rfl)
 have FI : idB (x.i,x.j) = true:=F.id (show uId (mgT x L).k = true by rw [show (mgT x L).k = 10 from hk];rfl)
 have g0 : 0≤x.g:=F.g.1
 have g1 : x.g < 4:=F.g.2.1
 have k0 : 1≤x.k:=F.kind.1
 have k1 : x.k≤15:=F.kind.2
 have cUBal : ∀ W,Calls Tryz.prog 17 #[.int .i64 x.k,nBal] W fun e w'=>e = .returned (.bool false)∧W = w':=fun W=>by
  have h1:=useBal_any x.k W
  rw [show uBal x.k = false by rw [hk];rfl] at h1;exact h1
 have cUSlot : ∀ W,Calls Tryz.prog 17 #[.int .i64 x.k,nSlot] W fun e w'=>e = .returned (.bool false)∧W = w':=fun W=>by
  have h1:=useSlot_any x.k W
  rw [show uSlot x.k = false by rw [hk];rfl] at h1;exact h1
 have cUHas : ∀ W,Calls Tryz.prog 17 #[.int .i64 x.k,nHas] W fun e w'=>e = .returned (.bool false)∧W = w':=fun W=>by
  have h1:=useHas_any x.k W
  rw [show uHas x.k = false by rw [hk];rfl] at h1;exact h1
 have cUCmd : ∀ W,Calls Tryz.prog 17 #[.int .i64 x.k,nCmd] W fun e w'=>e = .returned (.bool false)∧W = w':=fun W=>by
  have h1:=useCmd_any x.k W
  rw [show uCmd x.k = false by rw [hk];rfl] at h1;exact h1
 have cUTxn : ∀ W,Calls Tryz.prog 17 #[.int .i64 x.k,nTxn] W fun e w'=>e = .returned (.bool false)∧W = w':=fun W=>by
  have h1:=useTxn_any x.k W
  rw [show uTxn x.k = false by rw [hk];rfl] at h1;exact h1
 have cUId : ∀ W,Calls Tryz.prog 17 #[.int .i64 x.k,nId] W fun e w'=>e = .returned (.bool true)∧W = w':=fun W=>by
  have h1:=useId_any x.k W
  rw [show uId x.k = true by rw [hk];rfl] at h1;exact h1
 have cUGrp : ∀ W,Calls Tryz.prog 17 #[.int .i64 x.k,nGrp] W fun e w'=>e = .returned (.bool true)∧W = w':=fun W=>by
  have h1:=useGrp_any x.k W
  rw [show uGrp x.k = true by rw [hk];rfl] at h1;exact h1
 have cUStp : ∀ W,Calls Tryz.prog 17 #[.int .i64 x.k,nStp] W fun e w'=>e = .returned (.bool false)∧W = w':=fun W=>by
  have h1:=useStp_any x.k W
  rw [show uStp x.k = false by rw [hk];rfl] at h1;exact h1
 have cUYes : ∀ W,Calls Tryz.prog 17 #[.int .i64 x.k,nYes] W fun e w'=>e = .returned (.bool true)∧W = w':=fun W=>by
  have h1:=useYes_any x.k W
  rw [show uYes x.k = true by rw [hk];rfl] at h1;exact h1
 have cUNum : ∀ W,Calls Tryz.prog 17 #[.int .i64 x.k,nNum] W fun e w'=>e = .returned (.bool false)∧W = w':=fun W=>by
  have h1:=useNum_any x.k W
  rw [show uNum x.k = false by rw [hk];rfl] at h1;exact h1
 have cUKey : ∀ W,Calls Tryz.prog 17 #[.int .i64 x.k,nKey] W fun e w'=>e = .returned (.bool false)∧W = w':=fun W=>by
  have h1:=useKey_any x.k W
  rw [show uKey x.k = false by rw [hk];rfl] at h1;exact h1
 have cUVal : ∀ W,Calls Tryz.prog 17 #[.int .i64 x.k,nVal] W fun e w'=>e = .returned (.bool false)∧W = w':=fun W=>by
  have h1:=useVal_any x.k W
  rw [show uVal x.k = false by rw [hk];rfl] at h1;exact h1
 have cUDat : ∀ W,Calls Tryz.prog 17 #[.int .i64 x.k,nDat] W fun e w'=>e = .returned (.bool false)∧W = w':=fun W=>by
  have h1:=useDat_any x.k W
  rw [show uDat x.k = false by rw [hk];rfl] at h1;exact h1
 have cI : ∀ a1 n1 c1 L1 W,Below w.heap.size w W→BAt W W.heap.size a1 n1 L1→n1≤1000000000→Calls Tryz.prog 53 #[.slice a1 n1 c1,.agg #[.int .i64 x.i,.int .i64 x.j]] W (NewB W (L1 ++ idBytes (x.i,x.j))):=fun a1 n1 c1 L1 W hW h1 h2=>by
   have h3:=rPutId_any a1 n1 c1 x.i x.j L1 W h1 (by omega)
   unfold putId at h3
   rw [if_pos FI] at h3;exact h3
 have E : Hid ((((putB x.k.toNat 1 ++ idBytes (x.i,x.j)) ++ putB x.g.toNat 1) ++ putB (yesN x.y) 1) = mgB (mgT x L)):=by
  unfold Hid
  rw [← hE,show lets (letters x.k) = [105,103,121] by rw [hk];rfl]
  unfold putFs
  simp only [List.flatMap_cons,List.flatMap_nil,List.append_nil]
  simp only [List.append_assoc]
  rfl
 have QKI : Hid ((idBytes (x.i,x.j)).length≤5):=by unfold Hid;rw [idBytes_len];omega
 have QKG : Hid ((putB x.g.toNat 1).length≤1):=by unfold Hid;rw [putB_len];omega
 have QKY : Hid ((putB (yesN x.y) 1).length≤1):=by unfold Hid;rw [putB_len];omega
 have eg:=hid (byte_int x.g g0 (by omega))
 have pg : Hid (putB x.g.toNat 1 = [UInt8.ofNat x.g.toNat]):=put_one _
 have KK1 : Hid (((x.k.toNat : Nat) : Int) = x.k):=Int.toNat_of_nonneg (by omega)
 clear h hf hk F hE FI
 go_enter Tryz.func21,Tryz.ntmps21
 go_upto_region 3 with (go_at_call 47;((with_reducible refine (cF _ H0.out.bel).mono ?_);rintro e w1 ⟨rfl,hb1⟩;have H1:=hid (H0.out.below hb1)))
 clear xW cF
 have HS1 : Hid (w.heap.size + 1≤w1.heap.size):=by have:=hb1.size;rw [hz] at this;exact this
 clear hz
 have x0:=H1.c 0 0 rfl rfl
 go_upto_region 5 with (fail)
 have D0 : Hid (DW x w (w1.alloc (.cells #[.int .u8 x.k] 5)) (.slice (some ⟨w1.heap.size,0,none⟩) 1 1) 1 (putB x.k.toNat 1)):=by
  have o1:=own_first w1 x.k.toNat (by omega)
  rw [KK1.out] at o1
  have b1:=H1.out.bel
  exact ⟨⟨own_base o1 HS1.out,b1.alloc b1.size _⟩,(H1.g 0 rfl).alloc _,by have:=HS1.out;simp;omega⟩
 clear x0 H1 HS1 hb1 H0
 generalize w1.alloc (.cells #[.int .u8 x.k] 5) = v0 at *
 generalize some (⟨w1.heap.size,0,none⟩ : Addr) = a0 at *
 have hn0 : (1 : Nat)≤1:=Nat.le_refl _
 have x0:=D0.out.mx.cell 0 _ rfl;have x4:=D0.out.mx.cell 4 _ rfl;have x21:=D0.out.mx.cell 21 _ rfl;have x22:=D0.out.mx.cell 22 _ rfl;have x23:=D0.out.mx.cell 23 _ rfl;have x25:=D0.out.mx.cell 25 _ rfl
 go_wp2_with (first | (go_at_call 17;(with_reducible first | refine (cUBal _).mono ?_ | refine (cUSlot _).mono ?_ | refine (cUHas _).mono ?_ | refine (cUCmd _).mono ?_ | refine (cUTxn _).mono ?_ | refine (cUId _).mono ?_ | refine (cUGrp _).mono ?_ | refine (cUStp _).mono ?_ | refine (cUYes _).mono ?_ | refine (cUNum _).mono ?_ | refine (cUKey _).mono ?_ | refine (cUVal _).mono ?_ | refine (cUDat _).mono ?_);rintro e w0 ⟨rfl,rfl⟩) | (go_at_call 53;((with_reducible refine (cI a0 1 1 _ _ D0.out.bel D0.out.bat (by omega)).mono ?_);rintro e v1 ⟨a1,n1,c1,rfl,ho1,hb1⟩;have D1:=hid (D0.out.call ho1 hb1);clear ho1 hb1;have hn1 : n1≤6:=(by have e1:=D1.out.len;rw [List.length_append,D0.out.len] at e1;have e2:=QKI.out;omega);(clear x0 x4 x21 x22 x23 x25);have x0:=D1.out.mx.cell 0 _ rfl;have x4:=D1.out.mx.cell 4 _ rfl;have x21:=D1.out.mx.cell 21 _ rfl;have x22:=D1.out.mx.cell 22 _ rfl;have x23:=D1.out.mx.cell 23 _ rfl;have x25:=D1.out.mx.cell 25 _ rfl)) | (at_builtin;(refine wpList_append_bytes _ rfl _ _ 22 rfl (w.heap.size + 1) 5 i0 Tryz.underlying22 hi hz0 hz1 hz2 _ n1 _ rfl (D1.out.own.alloc _) (v1.heap.size + 1) (some ⟨v1.heap.size,0,none⟩) 1 [UInt8.ofNat (x.g).toNat] 1 rfl (BAt.one _ _ _ _ eg.out) (by omega) (by have:=D1.out.size;simp;omega) ?_;intro u2 v2 ho2 hg2;rw [← pg.out] at ho2;obtain ⟨a2,c2,rfl,_,_,_⟩:=own_form ho2;obtain ⟨n2,hnn2⟩ : ∃ q,n1 + 1 = q:=⟨_,rfl⟩;rw [hnn2] at ho2 ⊢;have D2:=hid (D1.out.grow ho2 hg2);clear ho2 hg2 hnn2;have hn2 : n2≤7:=(by have e1:=D2.out.len;rw [List.length_append,D1.out.len] at e1;have e2:=QKG.out;omega);(clear x0 x4 x21 x22 x23 x25);have x0:=D2.out.mx.cell 0 _ rfl;have x4:=D2.out.mx.cell 4 _ rfl;have x21:=D2.out.mx.cell 21 _ rfl;have x22:=D2.out.mx.cell 22 _ rfl;have x23:=D2.out.mx.cell 23 _ rfl;have x25:=D2.out.mx.cell 25 _ rfl)) | (go_at_call 50;((with_reducible refine (rFlag_any (w.heap.size + 1) a2 n2 c2 _ x.y _ D2.out.own D2.out.size (by omega)).mono ?_);rintro e v3 ⟨u3,rfl,ho3,hg3⟩;obtain ⟨a3,c3,rfl,_,_,_⟩:=own_form ho3;obtain ⟨n3,hnn3⟩ : ∃ q,n2 + 1 = q:=⟨_,rfl⟩;rw [hnn3] at ho3 ⊢;have D3:=hid (D2.out.grow0 ho3 hg3);clear ho3 hg3 hnn3;have hn3 : n3≤8:=(by have e1:=D3.out.len;rw [List.length_append,D2.out.len] at e1;have e2:=QKY.out;omega);(clear x0 x4 x21 x22 x23 x25);have x0:=D3.out.mx.cell 0 _ rfl;have x4:=D3.out.mx.cell 4 _ rfl;have x21:=D3.out.mx.cell 21 _ rfl;have x22:=D3.out.mx.cell 22 _ rfl;have x23:=D3.out.mx.cell 23 _ rfl;have x25:=D3.out.mx.cell 25 _ rfl)))
 go_ret2
 exact ⟨a3,n3,c3,rfl,by rw [if_pos rfl,← E.out];exact own_base D3.out.own (Nat.le_succ _),D3.out.bel⟩
theorem rWrite_11 (h : MgAt w x L) (hf : MgF x) (hk : x.k = 11) (F : FormMg (mgT x L)) :
  Calls Tryz.prog 21 #[.agg (mgV x)] w (WrB w true (mgB (mgT x L))):=by
 obtain ⟨i0,hi,hz0,hz1,hz2⟩:=info_parts Tryz.info5
 have H0:=hid ((Boxs.start w).more (mgV x) 46)
 have hz : (w.alloc (.cells (mgV x) 46)).heap.size = w.heap.size + 1:=by simp
 have xW:=(H0.g 0 rfl).ldD
 have cF : ∀ W,Below w.heap.size w W→Calls Tryz.prog 47 #[.agg (mgV x)] W (Says W true):=fun W hW=>by
  have h1:=rFormedG_any x L W (h.later hW) hf
  rw [(formMg_iff _).2 F] at h1;exact h1
 have hE:=bytes_11 hk F
 have hh : x.has = false:=F.has0 (show uHas (mgT x L).k = false by rw [show (mgT x L).k = 11 from hk];rfl)
 have FI : idB (x.i,x.j) = true:=F.id (show uId (mgT x L).k = true by rw [show (mgT x L).k = 11 from hk];rfl)
 have g0 : 0≤x.g:=F.g.1
 have g1 : x.g < 4:=F.g.2.1
 have k0 : 1≤x.k:=F.kind.1
 have k1 : x.k≤15:=F.kind.2
 have cUBal : ∀ W,Calls Tryz.prog 17 #[.int .i64 x.k,nBal] W fun e w'=>e = .returned (.bool false)∧W = w':=fun W=>by
  have h1:=useBal_any x.k W
  rw [show uBal x.k = false by rw [hk];rfl] at h1;exact h1
 have cUSlot : ∀ W,Calls Tryz.prog 17 #[.int .i64 x.k,nSlot] W fun e w'=>e = .returned (.bool false)∧W = w':=fun W=>by
  have h1:=useSlot_any x.k W
  rw [show uSlot x.k = false by rw [hk];rfl] at h1;exact h1
 have cUHas : ∀ W,Calls Tryz.prog 17 #[.int .i64 x.k,nHas] W fun e w'=>e = .returned (.bool false)∧W = w':=fun W=>by
  have h1:=useHas_any x.k W
  rw [show uHas x.k = false by rw [hk];rfl] at h1;exact h1
 have cUCmd : ∀ W,Calls Tryz.prog 17 #[.int .i64 x.k,nCmd] W fun e w'=>e = .returned (.bool false)∧W = w':=fun W=>by
  have h1:=useCmd_any x.k W
  rw [show uCmd x.k = false by rw [hk];rfl] at h1;exact h1
 have cUTxn : ∀ W,Calls Tryz.prog 17 #[.int .i64 x.k,nTxn] W fun e w'=>e = .returned (.bool false)∧W = w':=fun W=>by
  have h1:=useTxn_any x.k W
  rw [show uTxn x.k = false by rw [hk];rfl] at h1;exact h1
 have cUId : ∀ W,Calls Tryz.prog 17 #[.int .i64 x.k,nId] W fun e w'=>e = .returned (.bool true)∧W = w':=fun W=>by
  have h1:=useId_any x.k W
  rw [show uId x.k = true by rw [hk];rfl] at h1;exact h1
 have cUGrp : ∀ W,Calls Tryz.prog 17 #[.int .i64 x.k,nGrp] W fun e w'=>e = .returned (.bool true)∧W = w':=fun W=>by
  have h1:=useGrp_any x.k W
  rw [show uGrp x.k = true by rw [hk];rfl] at h1;exact h1
 have cUStp : ∀ W,Calls Tryz.prog 17 #[.int .i64 x.k,nStp] W fun e w'=>e = .returned (.bool true)∧W = w':=fun W=>by
  have h1:=useStp_any x.k W
  rw [show uStp x.k = true by rw [hk];rfl] at h1;exact h1
 have cUYes : ∀ W,Calls Tryz.prog 17 #[.int .i64 x.k,nYes] W fun e w'=>e = .returned (.bool true)∧W = w':=fun W=>by
  have h1:=useYes_any x.k W
  rw [show uYes x.k = true by rw [hk];rfl] at h1;exact h1
 have cUNum : ∀ W,Calls Tryz.prog 17 #[.int .i64 x.k,nNum] W fun e w'=>e = .returned (.bool false)∧W = w':=fun W=>by
  have h1:=useNum_any x.k W
  rw [show uNum x.k = false by rw [hk];rfl] at h1;exact h1
 have cUKey : ∀ W,Calls Tryz.prog 17 #[.int .i64 x.k,nKey] W fun e w'=>e = .returned (.bool false)∧W = w':=fun W=>by
  have h1:=useKey_any x.k W
  rw [show uKey x.k = false by rw [hk];rfl] at h1;exact h1
 have cUVal : ∀ W,Calls Tryz.prog 17 #[.int .i64 x.k,nVal] W fun e w'=>e = .returned (.bool false)∧W = w':=fun W=>by
  have h1:=useVal_any x.k W
  rw [show uVal x.k = false by rw [hk];rfl] at h1;exact h1
 have cUDat : ∀ W,Calls Tryz.prog 17 #[.int .i64 x.k,nDat] W fun e w'=>e = .returned (.bool false)∧W = w':=fun W=>by
  have h1:=useDat_any x.k W
  rw [show uDat x.k = false by rw [hk];rfl] at h1;exact h1
 have cI : ∀ a1 n1 c1 L1 W,Below w.heap.size w W→BAt W W.heap.size a1 n1 L1→n1≤1000000000→Calls Tryz.prog 53 #[.slice a1 n1 c1,.agg #[.int .i64 x.i,.int .i64 x.j]] W (NewB W (L1 ++ idBytes (x.i,x.j))):=fun a1 n1 c1 L1 W hW h1 h2=>by
   have h3:=rPutId_any a1 n1 c1 x.i x.j L1 W h1 (by omega)
   unfold putId at h3
   rw [if_pos FI] at h3;exact h3
 have cP : ∀ a1 n1 c1 L1 W,Below w.heap.size w W→BAt W W.heap.size a1 n1 L1→n1≤1000000000→Calls Tryz.prog 49 #[.slice a1 n1 c1,.int .u64 ((x.st : Nat) : Int),.int .i64 8] W (NewB W (L1 ++ putB x.st 8)):=fun a1 n1 c1 L1 W hW h1 h2=>refPut_any a1 n1 c1 x.st 8 L1 W h1 (by omega) h.nb.st (by omega) (by omega)
 have E : Hid (((((putB x.k.toNat 1 ++ idBytes (x.i,x.j)) ++ putB x.g.toNat 1) ++ putB x.st 8) ++ putB (yesN x.y) 1) = mgB (mgT x L)):=by
  unfold Hid
  rw [← hE,show lets (letters x.k) = [105,103,112,121] by rw [hk];rfl]
  unfold putFs
  simp only [List.flatMap_cons,List.flatMap_nil,List.append_nil]
  simp only [List.append_assoc]
  rfl
 have QKI : Hid ((idBytes (x.i,x.j)).length≤5):=by unfold Hid;rw [idBytes_len];omega
 have QKG : Hid ((putB x.g.toNat 1).length≤1):=by unfold Hid;rw [putB_len];omega
 have QKP : Hid ((putB x.st 8).length≤8):=by unfold Hid;rw [putB_len];omega
 have QKY : Hid ((putB (yesN x.y) 1).length≤1):=by unfold Hid;rw [putB_len];omega
 have eg:=hid (byte_int x.g g0 (by omega))
 have pg : Hid (putB x.g.toNat 1 = [UInt8.ofNat x.g.toNat]):=put_one _
 have KK1 : Hid (((x.k.toNat : Nat) : Int) = x.k):=Int.toNat_of_nonneg (by omega)
 clear h hf hk F hE FI
 go_enter Tryz.func21,Tryz.ntmps21
 go_upto_region 3 with (go_at_call 47;((with_reducible refine (cF _ H0.out.bel).mono ?_);rintro e w1 ⟨rfl,hb1⟩;have H1:=hid (H0.out.below hb1)))
 clear xW cF
 have HS1 : Hid (w.heap.size + 1≤w1.heap.size):=by have:=hb1.size;rw [hz] at this;exact this
 clear hz
 have x0:=H1.c 0 0 rfl rfl
 go_upto_region 5 with (fail)
 have D0 : Hid (DW x w (w1.alloc (.cells #[.int .u8 x.k] 5)) (.slice (some ⟨w1.heap.size,0,none⟩) 1 1) 1 (putB x.k.toNat 1)):=by
  have o1:=own_first w1 x.k.toNat (by omega)
  rw [KK1.out] at o1
  have b1:=H1.out.bel
  exact ⟨⟨own_base o1 HS1.out,b1.alloc b1.size _⟩,(H1.g 0 rfl).alloc _,by have:=HS1.out;simp;omega⟩
 clear x0 H1 HS1 hb1 H0
 generalize w1.alloc (.cells #[.int .u8 x.k] 5) = v0 at *
 generalize some (⟨w1.heap.size,0,none⟩ : Addr) = a0 at *
 have hn0 : (1 : Nat)≤1:=Nat.le_refl _
 have x0:=D0.out.mx.cell 0 _ rfl;have x4:=D0.out.mx.cell 4 _ rfl;have x21:=D0.out.mx.cell 21 _ rfl;have x22:=D0.out.mx.cell 22 _ rfl;have x23:=D0.out.mx.cell 23 _ rfl;have x24:=D0.out.mx.cell 24 _ rfl;have x25:=D0.out.mx.cell 25 _ rfl
 go_wp2_with (first | (go_at_call 17;(with_reducible first | refine (cUBal _).mono ?_ | refine (cUSlot _).mono ?_ | refine (cUHas _).mono ?_ | refine (cUCmd _).mono ?_ | refine (cUTxn _).mono ?_ | refine (cUId _).mono ?_ | refine (cUGrp _).mono ?_ | refine (cUStp _).mono ?_ | refine (cUYes _).mono ?_ | refine (cUNum _).mono ?_ | refine (cUKey _).mono ?_ | refine (cUVal _).mono ?_ | refine (cUDat _).mono ?_);rintro e w0 ⟨rfl,rfl⟩) | (go_at_call 53;((with_reducible refine (cI a0 1 1 _ _ D0.out.bel D0.out.bat (by omega)).mono ?_);rintro e v1 ⟨a1,n1,c1,rfl,ho1,hb1⟩;have D1:=hid (D0.out.call ho1 hb1);clear ho1 hb1;have hn1 : n1≤6:=(by have e1:=D1.out.len;rw [List.length_append,D0.out.len] at e1;have e2:=QKI.out;omega);(clear x0 x4 x21 x22 x23 x24 x25);have x0:=D1.out.mx.cell 0 _ rfl;have x4:=D1.out.mx.cell 4 _ rfl;have x21:=D1.out.mx.cell 21 _ rfl;have x22:=D1.out.mx.cell 22 _ rfl;have x23:=D1.out.mx.cell 23 _ rfl;have x24:=D1.out.mx.cell 24 _ rfl;have x25:=D1.out.mx.cell 25 _ rfl)) | (at_builtin;(refine wpList_append_bytes _ rfl _ _ 22 rfl (w.heap.size + 1) 5 i0 Tryz.underlying22 hi hz0 hz1 hz2 _ n1 _ rfl (D1.out.own.alloc _) (v1.heap.size + 1) (some ⟨v1.heap.size,0,none⟩) 1 [UInt8.ofNat (x.g).toNat] 1 rfl (BAt.one _ _ _ _ eg.out) (by omega) (by have:=D1.out.size;simp;omega) ?_;intro u2 v2 ho2 hg2;rw [← pg.out] at ho2;obtain ⟨a2,c2,rfl,_,_,_⟩:=own_form ho2;obtain ⟨n2,hnn2⟩ : ∃ q,n1 + 1 = q:=⟨_,rfl⟩;rw [hnn2] at ho2 ⊢;have D2:=hid (D1.out.grow ho2 hg2);clear ho2 hg2 hnn2;have hn2 : n2≤7:=(by have e1:=D2.out.len;rw [List.length_append,D1.out.len] at e1;have e2:=QKG.out;omega);(clear x0 x4 x21 x22 x23 x24 x25);have x0:=D2.out.mx.cell 0 _ rfl;have x4:=D2.out.mx.cell 4 _ rfl;have x21:=D2.out.mx.cell 21 _ rfl;have x22:=D2.out.mx.cell 22 _ rfl;have x23:=D2.out.mx.cell 23 _ rfl;have x24:=D2.out.mx.cell 24 _ rfl;have x25:=D2.out.mx.cell 25 _ rfl)) | (go_at_call 49;((with_reducible refine (cP a2 n2 c2 _ _ D2.out.bel D2.out.bat (by omega)).mono ?_);rintro e v3 ⟨a3,n3,c3,rfl,ho3,hb3⟩;have D3:=hid (D2.out.call ho3 hb3);clear ho3 hb3;have hn3 : n3≤15:=(by have e1:=D3.out.len;rw [List.length_append,D2.out.len] at e1;have e2:=QKP.out;omega);(clear x0 x4 x21 x22 x23 x24 x25);have x0:=D3.out.mx.cell 0 _ rfl;have x4:=D3.out.mx.cell 4 _ rfl;have x21:=D3.out.mx.cell 21 _ rfl;have x22:=D3.out.mx.cell 22 _ rfl;have x23:=D3.out.mx.cell 23 _ rfl;have x24:=D3.out.mx.cell 24 _ rfl;have x25:=D3.out.mx.cell 25 _ rfl)) | (go_at_call 50;((with_reducible refine (rFlag_any (w.heap.size + 1) a3 n3 c3 _ x.y _ D3.out.own D3.out.size (by omega)).mono ?_);rintro e v4 ⟨u4,rfl,ho4,hg4⟩;obtain ⟨a4,c4,rfl,_,_,_⟩:=own_form ho4;obtain ⟨n4,hnn4⟩ : ∃ q,n3 + 1 = q:=⟨_,rfl⟩;rw [hnn4] at ho4 ⊢;have D4:=hid (D3.out.grow0 ho4 hg4);clear ho4 hg4 hnn4;have hn4 : n4≤16:=(by have e1:=D4.out.len;rw [List.length_append,D3.out.len] at e1;have e2:=QKY.out;omega);(clear x0 x4 x21 x22 x23 x24 x25);have x0:=D4.out.mx.cell 0 _ rfl;have x4:=D4.out.mx.cell 4 _ rfl;have x21:=D4.out.mx.cell 21 _ rfl;have x22:=D4.out.mx.cell 22 _ rfl;have x23:=D4.out.mx.cell 23 _ rfl;have x24:=D4.out.mx.cell 24 _ rfl;have x25:=D4.out.mx.cell 25 _ rfl)))
 go_ret2
 exact ⟨a4,n4,c4,rfl,by rw [if_pos rfl,← E.out];exact own_base D4.out.own (Nat.le_succ _),D4.out.bel⟩
theorem rWrite_12 (h : MgAt w x L) (hf : MgF x) (hk : x.k = 12) (F : FormMg (mgT x L)) :
  Calls Tryz.prog 21 #[.agg (mgV x)] w (WrB w true (mgB (mgT x L))):=by
 obtain ⟨i0,hi,hz0,hz1,hz2⟩:=info_parts Tryz.info5
 have H0:=hid ((Boxs.start w).more (mgV x) 46)
 have hz : (w.alloc (.cells (mgV x) 46)).heap.size = w.heap.size + 1:=by simp
 have xW:=(H0.g 0 rfl).ldD
 have cF : ∀ W,Below w.heap.size w W→Calls Tryz.prog 47 #[.agg (mgV x)] W (Says W true):=fun W hW=>by
  have h1:=rFormedG_any x L W (h.later hW) hf
  rw [(formMg_iff _).2 F] at h1;exact h1
 have hE:=bytes_12 hk F
 have hh : x.has = false:=F.has0 (show uHas (mgT x L).k = false by rw [show (mgT x L).k = 12 from hk];rfl)
 have m0 : 0≤x.nu:=F.nu.1
 have m1 : x.nu≤2147483647:=F.nu.2.1
 have k0 : 1≤x.k:=F.kind.1
 have k1 : x.k≤15:=F.kind.2
 have cUBal : ∀ W,Calls Tryz.prog 17 #[.int .i64 x.k,nBal] W fun e w'=>e = .returned (.bool false)∧W = w':=fun W=>by
  have h1:=useBal_any x.k W
  rw [show uBal x.k = false by rw [hk];rfl] at h1;exact h1
 have cUSlot : ∀ W,Calls Tryz.prog 17 #[.int .i64 x.k,nSlot] W fun e w'=>e = .returned (.bool false)∧W = w':=fun W=>by
  have h1:=useSlot_any x.k W
  rw [show uSlot x.k = false by rw [hk];rfl] at h1;exact h1
 have cUHas : ∀ W,Calls Tryz.prog 17 #[.int .i64 x.k,nHas] W fun e w'=>e = .returned (.bool false)∧W = w':=fun W=>by
  have h1:=useHas_any x.k W
  rw [show uHas x.k = false by rw [hk];rfl] at h1;exact h1
 have cUCmd : ∀ W,Calls Tryz.prog 17 #[.int .i64 x.k,nCmd] W fun e w'=>e = .returned (.bool false)∧W = w':=fun W=>by
  have h1:=useCmd_any x.k W
  rw [show uCmd x.k = false by rw [hk];rfl] at h1;exact h1
 have cUTxn : ∀ W,Calls Tryz.prog 17 #[.int .i64 x.k,nTxn] W fun e w'=>e = .returned (.bool false)∧W = w':=fun W=>by
  have h1:=useTxn_any x.k W
  rw [show uTxn x.k = false by rw [hk];rfl] at h1;exact h1
 have cUId : ∀ W,Calls Tryz.prog 17 #[.int .i64 x.k,nId] W fun e w'=>e = .returned (.bool false)∧W = w':=fun W=>by
  have h1:=useId_any x.k W
  rw [show uId x.k = false by rw [hk];rfl] at h1;exact h1
 have cUGrp : ∀ W,Calls Tryz.prog 17 #[.int .i64 x.k,nGrp] W fun e w'=>e = .returned (.bool false)∧W = w':=fun W=>by
  have h1:=useGrp_any x.k W
  rw [show uGrp x.k = false by rw [hk];rfl] at h1;exact h1
 have cUStp : ∀ W,Calls Tryz.prog 17 #[.int .i64 x.k,nStp] W fun e w'=>e = .returned (.bool true)∧W = w':=fun W=>by
  have h1:=useStp_any x.k W
  rw [show uStp x.k = true by rw [hk];rfl] at h1;exact h1
 have cUYes : ∀ W,Calls Tryz.prog 17 #[.int .i64 x.k,nYes] W fun e w'=>e = .returned (.bool false)∧W = w':=fun W=>by
  have h1:=useYes_any x.k W
  rw [show uYes x.k = false by rw [hk];rfl] at h1;exact h1
 have cUNum : ∀ W,Calls Tryz.prog 17 #[.int .i64 x.k,nNum] W fun e w'=>e = .returned (.bool true)∧W = w':=fun W=>by
  have h1:=useNum_any x.k W
  rw [show uNum x.k = true by rw [hk];rfl] at h1;exact h1
 have cUKey : ∀ W,Calls Tryz.prog 17 #[.int .i64 x.k,nKey] W fun e w'=>e = .returned (.bool true)∧W = w':=fun W=>by
  have h1:=useKey_any x.k W
  rw [show uKey x.k = true by rw [hk];rfl] at h1;exact h1
 have cUVal : ∀ W,Calls Tryz.prog 17 #[.int .i64 x.k,nVal] W fun e w'=>e = .returned (.bool false)∧W = w':=fun W=>by
  have h1:=useVal_any x.k W
  rw [show uVal x.k = false by rw [hk];rfl] at h1;exact h1
 have cUDat : ∀ W,Calls Tryz.prog 17 #[.int .i64 x.k,nDat] W fun e w'=>e = .returned (.bool false)∧W = w':=fun W=>by
  have h1:=useDat_any x.k W
  rw [show uDat x.k = false by rw [hk];rfl] at h1;exact h1
 have cP : ∀ a1 n1 c1 L1 W,Below w.heap.size w W→BAt W W.heap.size a1 n1 L1→n1≤1000000000→Calls Tryz.prog 49 #[.slice a1 n1 c1,.int .u64 ((x.st : Nat) : Int),.int .i64 8] W (NewB W (L1 ++ putB x.st 8)):=fun a1 n1 c1 L1 W hW h1 h2=>refPut_any a1 n1 c1 x.st 8 L1 W h1 (by omega) h.nb.st (by omega) (by omega)
 have cN : ∀ a1 n1 c1 L1 W,Below w.heap.size w W→BAt W W.heap.size a1 n1 L1→n1≤1000000000→Calls Tryz.prog 49 #[.slice a1 n1 c1,.int .u64 x.nu,.int .i64 4] W (NewB W (L1 ++ putB x.nu.toNat 4)):=fun a1 n1 c1 L1 W hW h1 h2=>refPutM_any a1 n1 c1 x.nu 4 L1 W h1 (by omega) m0 (by omega) (by omega) (by omega)
 have cK : ∀ a1 n1 c1 L1 W,Below w.heap.size w W→BAt W W.heap.size a1 n1 L1→n1≤1000000000→Calls Tryz.prog 54 #[.slice a1 n1 c1,.string x.key] W (NewB W (L1 ++ textB x.key.data.toList)):=fun a1 n1 c1 L1 W hW h1 h2=>refPutText_any a1 n1 c1 x.key L1 W h1 (by omega) h.nb.key
 have E : Hid ((((putB x.k.toNat 1 ++ putB x.st 8) ++ putB x.nu.toNat 4) ++ textB x.key.data.toList) = mgB (mgT x L)):=by
  unfold Hid
  rw [← hE,show lets (letters x.k) = [112,110,107] by rw [hk];rfl]
  unfold putFs
  simp only [List.flatMap_cons,List.flatMap_nil,List.append_nil]
  simp only [List.append_assoc]
  rfl
 have QKP : Hid ((putB x.st 8).length≤8):=by unfold Hid;rw [putB_len];omega
 have QKN : Hid ((putB x.nu.toNat 4).length≤4):=by unfold Hid;rw [putB_len];omega
 have QKK : Hid ((textB x.key.data.toList).length≤65537):=textB_le _
 have KK1 : Hid (((x.k.toNat : Nat) : Int) = x.k):=Int.toNat_of_nonneg (by omega)
 clear h hf hk F hE
 go_enter Tryz.func21,Tryz.ntmps21
 go_upto_region 3 with (go_at_call 47;((with_reducible refine (cF _ H0.out.bel).mono ?_);rintro e w1 ⟨rfl,hb1⟩;have H1:=hid (H0.out.below hb1)))
 clear xW cF
 have HS1 : Hid (w.heap.size + 1≤w1.heap.size):=by have:=hb1.size;rw [hz] at this;exact this
 clear hz
 have x0:=H1.c 0 0 rfl rfl
 go_upto_region 5 with (fail)
 have D0 : Hid (DW x w (w1.alloc (.cells #[.int .u8 x.k] 5)) (.slice (some ⟨w1.heap.size,0,none⟩) 1 1) 1 (putB x.k.toNat 1)):=by
  have o1:=own_first w1 x.k.toNat (by omega)
  rw [KK1.out] at o1
  have b1:=H1.out.bel
  exact ⟨⟨own_base o1 HS1.out,b1.alloc b1.size _⟩,(H1.g 0 rfl).alloc _,by have:=HS1.out;simp;omega⟩
 clear x0 H1 HS1 hb1 H0
 generalize w1.alloc (.cells #[.int .u8 x.k] 5) = v0 at *
 generalize some (⟨w1.heap.size,0,none⟩ : Addr) = a0 at *
 have hn0 : (1 : Nat)≤1:=Nat.le_refl _
 have x0:=D0.out.mx.cell 0 _ rfl;have x4:=D0.out.mx.cell 4 _ rfl;have x24:=D0.out.mx.cell 24 _ rfl;have x26:=D0.out.mx.cell 26 _ rfl;have x27:=D0.out.mx.cell 27 _ rfl
 go_wp2_with (first | (go_at_call 17;(with_reducible first | refine (cUBal _).mono ?_ | refine (cUSlot _).mono ?_ | refine (cUHas _).mono ?_ | refine (cUCmd _).mono ?_ | refine (cUTxn _).mono ?_ | refine (cUId _).mono ?_ | refine (cUGrp _).mono ?_ | refine (cUStp _).mono ?_ | refine (cUYes _).mono ?_ | refine (cUNum _).mono ?_ | refine (cUKey _).mono ?_ | refine (cUVal _).mono ?_ | refine (cUDat _).mono ?_);rintro e w0 ⟨rfl,rfl⟩) | (go_at_call 49;((with_reducible refine (cP a0 1 1 _ _ D0.out.bel D0.out.bat (by omega)).mono ?_);rintro e v1 ⟨a1,n1,c1,rfl,ho1,hb1⟩;have D1:=hid (D0.out.call ho1 hb1);clear ho1 hb1;have hn1 : n1≤9:=(by have e1:=D1.out.len;rw [List.length_append,D0.out.len] at e1;have e2:=QKP.out;omega);(clear x0 x4 x24 x26 x27);have x0:=D1.out.mx.cell 0 _ rfl;have x4:=D1.out.mx.cell 4 _ rfl;have x24:=D1.out.mx.cell 24 _ rfl;have x26:=D1.out.mx.cell 26 _ rfl;have x27:=D1.out.mx.cell 27 _ rfl)) | (go_at_call 49;((with_reducible refine (cN a1 n1 c1 _ _ D1.out.bel D1.out.bat (by omega)).mono ?_);rintro e v2 ⟨a2,n2,c2,rfl,ho2,hb2⟩;have D2:=hid (D1.out.call ho2 hb2);clear ho2 hb2;have hn2 : n2≤13:=(by have e1:=D2.out.len;rw [List.length_append,D1.out.len] at e1;have e2:=QKN.out;omega);(clear x0 x4 x24 x26 x27);have x0:=D2.out.mx.cell 0 _ rfl;have x4:=D2.out.mx.cell 4 _ rfl;have x24:=D2.out.mx.cell 24 _ rfl;have x26:=D2.out.mx.cell 26 _ rfl;have x27:=D2.out.mx.cell 27 _ rfl)) | (go_at_call 54;((with_reducible refine (cK a2 n2 c2 _ _ D2.out.bel D2.out.bat (by omega)).mono ?_);rintro e v3 ⟨a3,n3,c3,rfl,ho3,hb3⟩;have D3:=hid (D2.out.call ho3 hb3);clear ho3 hb3;have hn3 : n3≤65550:=(by have e1:=D3.out.len;rw [List.length_append,D2.out.len] at e1;have e2:=QKK.out;omega);(clear x0 x4 x24 x26 x27);have x0:=D3.out.mx.cell 0 _ rfl;have x4:=D3.out.mx.cell 4 _ rfl;have x24:=D3.out.mx.cell 24 _ rfl;have x26:=D3.out.mx.cell 26 _ rfl;have x27:=D3.out.mx.cell 27 _ rfl)))
 go_ret2
 exact ⟨a3,n3,c3,rfl,by rw [if_pos rfl,← E.out];exact own_base D3.out.own (Nat.le_succ _),D3.out.bel⟩
theorem rWrite_13 (h : MgAt w x L) (hf : MgF x) (hk : x.k = 13) (F : FormMg (mgT x L)) :
  Calls Tryz.prog 21 #[.agg (mgV x)] w (WrB w true (mgB (mgT x L))):=by
 obtain ⟨i0,hi,hz0,hz1,hz2⟩:=info_parts Tryz.info5
 have H0:=hid ((Boxs.start w).more (mgV x) 46)
 have hz : (w.alloc (.cells (mgV x) 46)).heap.size = w.heap.size + 1:=by simp
 have xW:=(H0.g 0 rfl).ldD
 have cF : ∀ W,Below w.heap.size w W→Calls Tryz.prog 47 #[.agg (mgV x)] W (Says W true):=fun W hW=>by
  have h1:=rFormedG_any x L W (h.later hW) hf
  rw [(formMg_iff _).2 F] at h1;exact h1
 have hE:=bytes_13 hk F
 have hh : x.has = false:=F.has0 (show uHas (mgT x L).k = false by rw [show (mgT x L).k = 13 from hk];rfl)
 have FX : formedB ⟨x.vk,x.vb,x.vt.data.toList⟩ = true:=F.val.2.1
 have g0 : 0≤x.g:=F.g.1
 have g1 : x.g < 4:=F.g.2.1
 have m0 : 0≤x.nu:=F.nu.1
 have m1 : x.nu≤2147483647:=F.nu.2.1
 have e0 : 0≤x.er:=F.val.2.2.1
 have e1 : x.er≤11:=F.val.2.2.2
 have k0 : 1≤x.k:=F.kind.1
 have k1 : x.k≤15:=F.kind.2
 have cUBal : ∀ W,Calls Tryz.prog 17 #[.int .i64 x.k,nBal] W fun e w'=>e = .returned (.bool false)∧W = w':=fun W=>by
  have h1:=useBal_any x.k W
  rw [show uBal x.k = false by rw [hk];rfl] at h1;exact h1
 have cUSlot : ∀ W,Calls Tryz.prog 17 #[.int .i64 x.k,nSlot] W fun e w'=>e = .returned (.bool false)∧W = w':=fun W=>by
  have h1:=useSlot_any x.k W
  rw [show uSlot x.k = false by rw [hk];rfl] at h1;exact h1
 have cUHas : ∀ W,Calls Tryz.prog 17 #[.int .i64 x.k,nHas] W fun e w'=>e = .returned (.bool false)∧W = w':=fun W=>by
  have h1:=useHas_any x.k W
  rw [show uHas x.k = false by rw [hk];rfl] at h1;exact h1
 have cUCmd : ∀ W,Calls Tryz.prog 17 #[.int .i64 x.k,nCmd] W fun e w'=>e = .returned (.bool false)∧W = w':=fun W=>by
  have h1:=useCmd_any x.k W
  rw [show uCmd x.k = false by rw [hk];rfl] at h1;exact h1
 have cUTxn : ∀ W,Calls Tryz.prog 17 #[.int .i64 x.k,nTxn] W fun e w'=>e = .returned (.bool false)∧W = w':=fun W=>by
  have h1:=useTxn_any x.k W
  rw [show uTxn x.k = false by rw [hk];rfl] at h1;exact h1
 have cUId : ∀ W,Calls Tryz.prog 17 #[.int .i64 x.k,nId] W fun e w'=>e = .returned (.bool false)∧W = w':=fun W=>by
  have h1:=useId_any x.k W
  rw [show uId x.k = false by rw [hk];rfl] at h1;exact h1
 have cUGrp : ∀ W,Calls Tryz.prog 17 #[.int .i64 x.k,nGrp] W fun e w'=>e = .returned (.bool true)∧W = w':=fun W=>by
  have h1:=useGrp_any x.k W
  rw [show uGrp x.k = true by rw [hk];rfl] at h1;exact h1
 have cUStp : ∀ W,Calls Tryz.prog 17 #[.int .i64 x.k,nStp] W fun e w'=>e = .returned (.bool true)∧W = w':=fun W=>by
  have h1:=useStp_any x.k W
  rw [show uStp x.k = true by rw [hk];rfl] at h1;exact h1
 have cUYes : ∀ W,Calls Tryz.prog 17 #[.int .i64 x.k,nYes] W fun e w'=>e = .returned (.bool false)∧W = w':=fun W=>by
  have h1:=useYes_any x.k W
  rw [show uYes x.k = false by rw [hk];rfl] at h1;exact h1
 have cUNum : ∀ W,Calls Tryz.prog 17 #[.int .i64 x.k,nNum] W fun e w'=>e = .returned (.bool true)∧W = w':=fun W=>by
  have h1:=useNum_any x.k W
  rw [show uNum x.k = true by rw [hk];rfl] at h1;exact h1
 have cUKey : ∀ W,Calls Tryz.prog 17 #[.int .i64 x.k,nKey] W fun e w'=>e = .returned (.bool true)∧W = w':=fun W=>by
  have h1:=useKey_any x.k W
  rw [show uKey x.k = true by rw [hk];rfl] at h1;exact h1
 have cUVal : ∀ W,Calls Tryz.prog 17 #[.int .i64 x.k,nVal] W fun e w'=>e = .returned (.bool true)∧W = w':=fun W=>by
  have h1:=useVal_any x.k W
  rw [show uVal x.k = true by rw [hk];rfl] at h1;exact h1
 have cUDat : ∀ W,Calls Tryz.prog 17 #[.int .i64 x.k,nDat] W fun e w'=>e = .returned (.bool false)∧W = w':=fun W=>by
  have h1:=useDat_any x.k W
  rw [show uDat x.k = false by rw [hk];rfl] at h1;exact h1
 have cP : ∀ a1 n1 c1 L1 W,Below w.heap.size w W→BAt W W.heap.size a1 n1 L1→n1≤1000000000→Calls Tryz.prog 49 #[.slice a1 n1 c1,.int .u64 ((x.st : Nat) : Int),.int .i64 8] W (NewB W (L1 ++ putB x.st 8)):=fun a1 n1 c1 L1 W hW h1 h2=>refPut_any a1 n1 c1 x.st 8 L1 W h1 (by omega) h.nb.st (by omega) (by omega)
 have cN : ∀ a1 n1 c1 L1 W,Below w.heap.size w W→BAt W W.heap.size a1 n1 L1→n1≤1000000000→Calls Tryz.prog 49 #[.slice a1 n1 c1,.int .u64 x.nu,.int .i64 4] W (NewB W (L1 ++ putB x.nu.toNat 4)):=fun a1 n1 c1 L1 W hW h1 h2=>refPutM_any a1 n1 c1 x.nu 4 L1 W h1 (by omega) m0 (by omega) (by omega) (by omega)
 have cK : ∀ a1 n1 c1 L1 W,Below w.heap.size w W→BAt W W.heap.size a1 n1 L1→n1≤1000000000→Calls Tryz.prog 54 #[.slice a1 n1 c1,.string x.key] W (NewB W (L1 ++ textB x.key.data.toList)):=fun a1 n1 c1 L1 W hW h1 h2=>refPutText_any a1 n1 c1 x.key L1 W h1 (by omega) h.nb.key
 have cVe : ∀ a1 n1 c1 L1 W,Below w.heap.size w W→BAt W W.heap.size a1 n1 L1→n1≤1000000000→Calls Tryz.prog 49 #[.slice a1 n1 c1,.int .u64 ((x.ver : Nat) : Int),.int .i64 8] W (NewB W (L1 ++ putB x.ver 8)):=fun a1 n1 c1 L1 W hW h1 h2=>refPut_any a1 n1 c1 x.ver 8 L1 W h1 (by omega) h.nb.ver (by omega) (by omega)
 have cX : ∀ a1 n1 c1 L1 W,Below w.heap.size w W→BAt W W.heap.size a1 n1 L1→n1≤1000000000→Calls Tryz.prog 55 #[.slice a1 n1 c1,.agg #[.int .i64 x.vk,.int .u64 ((x.vb : Nat) : Int),.string x.vt]] W (NewB W (L1 ++ bytesV ⟨x.vk,x.vb,x.vt.data.toList⟩)):=fun a1 n1 c1 L1 W hW h1 h2=>by
   have h3:=refPutV_any a1 n1 c1 L1 x.vk x.vb x.vt W h1 (by omega) h.nb.vb h.nb.vt
   unfold putV at h3
   rw [if_pos FX] at h3;exact h3
 have E : Hid ((((((((putB x.k.toNat 1 ++ putB x.g.toNat 1) ++ putB x.st 8) ++ putB x.nu.toNat 4) ++ textB x.key.data.toList) ++ putB x.ver 8) ++ bytesV ⟨x.vk,x.vb,x.vt.data.toList⟩) ++ putB x.er.toNat 1) = mgB (mgT x L)):=by
  unfold Hid
  rw [← hE,show lets (letters x.k) = [103,112,110,107,118,120,101] by rw [hk];rfl]
  unfold putFs
  simp only [List.flatMap_cons,List.flatMap_nil,List.append_nil]
  simp only [List.append_assoc]
  rfl
 have QKG : Hid ((putB x.g.toNat 1).length≤1):=by unfold Hid;rw [putB_len];omega
 have QKP : Hid ((putB x.st 8).length≤8):=by unfold Hid;rw [putB_len];omega
 have QKN : Hid ((putB x.nu.toNat 4).length≤4):=by unfold Hid;rw [putB_len];omega
 have QKK : Hid ((textB x.key.data.toList).length≤65537):=textB_le _
 have QKVe : Hid ((putB x.ver 8).length≤8):=by unfold Hid;rw [putB_len];omega
 have QKX : Hid ((bytesV ⟨x.vk,x.vb,x.vt.data.toList⟩).length≤65538):=bytesV_len _
 have QKE : Hid ((putB x.er.toNat 1).length≤1):=by unfold Hid;rw [putB_len];omega
 have eg:=hid (byte_int x.g g0 (by omega))
 have pg : Hid (putB x.g.toNat 1 = [UInt8.ofNat x.g.toNat]):=put_one _
 have ee:=hid (byte_int x.er e0 (by omega))
 have pe : Hid (putB x.er.toNat 1 = [UInt8.ofNat x.er.toNat]):=put_one _
 have KK1 : Hid (((x.k.toNat : Nat) : Int) = x.k):=Int.toNat_of_nonneg (by omega)
 clear h hf hk F hE FX
 go_enter Tryz.func21,Tryz.ntmps21
 go_upto_region 3 with (go_at_call 47;((with_reducible refine (cF _ H0.out.bel).mono ?_);rintro e w1 ⟨rfl,hb1⟩;have H1:=hid (H0.out.below hb1)))
 clear xW cF
 have HS1 : Hid (w.heap.size + 1≤w1.heap.size):=by have:=hb1.size;rw [hz] at this;exact this
 clear hz
 have x0:=H1.c 0 0 rfl rfl
 go_upto_region 5 with (fail)
 have D0 : Hid (DW x w (w1.alloc (.cells #[.int .u8 x.k] 5)) (.slice (some ⟨w1.heap.size,0,none⟩) 1 1) 1 (putB x.k.toNat 1)):=by
  have o1:=own_first w1 x.k.toNat (by omega)
  rw [KK1.out] at o1
  have b1:=H1.out.bel
  exact ⟨⟨own_base o1 HS1.out,b1.alloc b1.size _⟩,(H1.g 0 rfl).alloc _,by have:=HS1.out;simp;omega⟩
 clear x0 H1 HS1 hb1 H0
 generalize w1.alloc (.cells #[.int .u8 x.k] 5) = v0 at *
 generalize some (⟨w1.heap.size,0,none⟩ : Addr) = a0 at *
 have hn0 : (1 : Nat)≤1:=Nat.le_refl _
 have x0:=D0.out.mx.cell 0 _ rfl;have x4:=D0.out.mx.cell 4 _ rfl;have x23:=D0.out.mx.cell 23 _ rfl;have x24:=D0.out.mx.cell 24 _ rfl;have x26:=D0.out.mx.cell 26 _ rfl;have x27:=D0.out.mx.cell 27 _ rfl;have x28:=D0.out.mx.cell 28 _ rfl;have x29:=D0.out.mx.cell 29 _ rfl;have x30:=D0.out.mx.cell 30 _ rfl;have x31:=D0.out.mx.cell 31 _ rfl;have x32:=D0.out.mx.cell 32 _ rfl
 go_wp2_with (first | (go_at_call 17;(with_reducible first | refine (cUBal _).mono ?_ | refine (cUSlot _).mono ?_ | refine (cUHas _).mono ?_ | refine (cUCmd _).mono ?_ | refine (cUTxn _).mono ?_ | refine (cUId _).mono ?_ | refine (cUGrp _).mono ?_ | refine (cUStp _).mono ?_ | refine (cUYes _).mono ?_ | refine (cUNum _).mono ?_ | refine (cUKey _).mono ?_ | refine (cUVal _).mono ?_ | refine (cUDat _).mono ?_);rintro e w0 ⟨rfl,rfl⟩) | (at_builtin;(refine wpList_append_bytes _ rfl _ _ 22 rfl (w.heap.size + 1) 5 i0 Tryz.underlying22 hi hz0 hz1 hz2 _ 1 _ rfl (D0.out.own.alloc _) (v0.heap.size + 1) (some ⟨v0.heap.size,0,none⟩) 1 [UInt8.ofNat (x.g).toNat] 1 rfl (BAt.one _ _ _ _ eg.out) (by omega) (by have:=D0.out.size;simp;omega) ?_;intro u1 v1 ho1 hg1;rw [← pg.out] at ho1;obtain ⟨a1,c1,rfl,_,_,_⟩:=own_form ho1;obtain ⟨n1,hnn1⟩ : ∃ q,1 + 1 = q:=⟨_,rfl⟩;rw [hnn1] at ho1 ⊢;have D1:=hid (D0.out.grow ho1 hg1);clear ho1 hg1 hnn1;have hn1 : n1≤2:=(by have e1:=D1.out.len;rw [List.length_append,D0.out.len] at e1;have e2:=QKG.out;omega);(clear x0 x4 x23 x24 x26 x27 x28 x29 x30 x31 x32);have x0:=D1.out.mx.cell 0 _ rfl;have x4:=D1.out.mx.cell 4 _ rfl;have x23:=D1.out.mx.cell 23 _ rfl;have x24:=D1.out.mx.cell 24 _ rfl;have x26:=D1.out.mx.cell 26 _ rfl;have x27:=D1.out.mx.cell 27 _ rfl;have x28:=D1.out.mx.cell 28 _ rfl;have x29:=D1.out.mx.cell 29 _ rfl;have x30:=D1.out.mx.cell 30 _ rfl;have x31:=D1.out.mx.cell 31 _ rfl;have x32:=D1.out.mx.cell 32 _ rfl)) | (go_at_call 49;((with_reducible refine (cP a1 n1 c1 _ _ D1.out.bel D1.out.bat (by omega)).mono ?_);rintro e v2 ⟨a2,n2,c2,rfl,ho2,hb2⟩;have D2:=hid (D1.out.call ho2 hb2);clear ho2 hb2;have hn2 : n2≤10:=(by have e1:=D2.out.len;rw [List.length_append,D1.out.len] at e1;have e2:=QKP.out;omega);(clear x0 x4 x23 x24 x26 x27 x28 x29 x30 x31 x32);have x0:=D2.out.mx.cell 0 _ rfl;have x4:=D2.out.mx.cell 4 _ rfl;have x23:=D2.out.mx.cell 23 _ rfl;have x24:=D2.out.mx.cell 24 _ rfl;have x26:=D2.out.mx.cell 26 _ rfl;have x27:=D2.out.mx.cell 27 _ rfl;have x28:=D2.out.mx.cell 28 _ rfl;have x29:=D2.out.mx.cell 29 _ rfl;have x30:=D2.out.mx.cell 30 _ rfl;have x31:=D2.out.mx.cell 31 _ rfl;have x32:=D2.out.mx.cell 32 _ rfl)) | (go_at_call 49;((with_reducible refine (cN a2 n2 c2 _ _ D2.out.bel D2.out.bat (by omega)).mono ?_);rintro e v3 ⟨a3,n3,c3,rfl,ho3,hb3⟩;have D3:=hid (D2.out.call ho3 hb3);clear ho3 hb3;have hn3 : n3≤14:=(by have e1:=D3.out.len;rw [List.length_append,D2.out.len] at e1;have e2:=QKN.out;omega);(clear x0 x4 x23 x24 x26 x27 x28 x29 x30 x31 x32);have x0:=D3.out.mx.cell 0 _ rfl;have x4:=D3.out.mx.cell 4 _ rfl;have x23:=D3.out.mx.cell 23 _ rfl;have x24:=D3.out.mx.cell 24 _ rfl;have x26:=D3.out.mx.cell 26 _ rfl;have x27:=D3.out.mx.cell 27 _ rfl;have x28:=D3.out.mx.cell 28 _ rfl;have x29:=D3.out.mx.cell 29 _ rfl;have x30:=D3.out.mx.cell 30 _ rfl;have x31:=D3.out.mx.cell 31 _ rfl;have x32:=D3.out.mx.cell 32 _ rfl)) | (go_at_call 54;((with_reducible refine (cK a3 n3 c3 _ _ D3.out.bel D3.out.bat (by omega)).mono ?_);rintro e v4 ⟨a4,n4,c4,rfl,ho4,hb4⟩;have D4:=hid (D3.out.call ho4 hb4);clear ho4 hb4;have hn4 : n4≤65551:=(by have e1:=D4.out.len;rw [List.length_append,D3.out.len] at e1;have e2:=QKK.out;omega);(clear x0 x4 x23 x24 x26 x27 x28 x29 x30 x31 x32);have x0:=D4.out.mx.cell 0 _ rfl;have x4:=D4.out.mx.cell 4 _ rfl;have x23:=D4.out.mx.cell 23 _ rfl;have x24:=D4.out.mx.cell 24 _ rfl;have x26:=D4.out.mx.cell 26 _ rfl;have x27:=D4.out.mx.cell 27 _ rfl;have x28:=D4.out.mx.cell 28 _ rfl;have x29:=D4.out.mx.cell 29 _ rfl;have x30:=D4.out.mx.cell 30 _ rfl;have x31:=D4.out.mx.cell 31 _ rfl;have x32:=D4.out.mx.cell 32 _ rfl)) | (go_at_call 49;((with_reducible refine (cVe a4 n4 c4 _ _ D4.out.bel D4.out.bat (by omega)).mono ?_);rintro e v5 ⟨a5,n5,c5,rfl,ho5,hb5⟩;have D5:=hid (D4.out.call ho5 hb5);clear ho5 hb5;have hn5 : n5≤65559:=(by have e1:=D5.out.len;rw [List.length_append,D4.out.len] at e1;have e2:=QKVe.out;omega);(clear x0 x4 x23 x24 x26 x27 x28 x29 x30 x31 x32);have x0:=D5.out.mx.cell 0 _ rfl;have x4:=D5.out.mx.cell 4 _ rfl;have x23:=D5.out.mx.cell 23 _ rfl;have x24:=D5.out.mx.cell 24 _ rfl;have x26:=D5.out.mx.cell 26 _ rfl;have x27:=D5.out.mx.cell 27 _ rfl;have x28:=D5.out.mx.cell 28 _ rfl;have x29:=D5.out.mx.cell 29 _ rfl;have x30:=D5.out.mx.cell 30 _ rfl;have x31:=D5.out.mx.cell 31 _ rfl;have x32:=D5.out.mx.cell 32 _ rfl)) | (go_at_call 55;((with_reducible refine (cX a5 n5 c5 _ _ D5.out.bel D5.out.bat (by omega)).mono ?_);rintro e v6 ⟨a6,n6,c6,rfl,ho6,hb6⟩;have D6:=hid (D5.out.call ho6 hb6);clear ho6 hb6;have hn6 : n6≤131097:=(by have e1:=D6.out.len;rw [List.length_append,D5.out.len] at e1;have e2:=QKX.out;omega);(clear x0 x4 x23 x24 x26 x27 x28 x29 x30 x31 x32);have x0:=D6.out.mx.cell 0 _ rfl;have x4:=D6.out.mx.cell 4 _ rfl;have x23:=D6.out.mx.cell 23 _ rfl;have x24:=D6.out.mx.cell 24 _ rfl;have x26:=D6.out.mx.cell 26 _ rfl;have x27:=D6.out.mx.cell 27 _ rfl;have x28:=D6.out.mx.cell 28 _ rfl;have x29:=D6.out.mx.cell 29 _ rfl;have x30:=D6.out.mx.cell 30 _ rfl;have x31:=D6.out.mx.cell 31 _ rfl;have x32:=D6.out.mx.cell 32 _ rfl)) | (at_builtin;(refine wpList_append_bytes _ rfl _ _ 22 rfl (w.heap.size + 1) 5 i0 Tryz.underlying22 hi hz0 hz1 hz2 _ n6 _ rfl (D6.out.own.alloc _) (v6.heap.size + 1) (some ⟨v6.heap.size,0,none⟩) 1 [UInt8.ofNat (x.er).toNat] 1 rfl (BAt.one _ _ _ _ ee.out) (by omega) (by have:=D6.out.size;simp;omega) ?_;intro u7 v7 ho7 hg7;rw [← pe.out] at ho7;obtain ⟨a7,c7,rfl,_,_,_⟩:=own_form ho7;obtain ⟨n7,hnn7⟩ : ∃ q,n6 + 1 = q:=⟨_,rfl⟩;rw [hnn7] at ho7 ⊢;have D7:=hid (D6.out.grow ho7 hg7);clear ho7 hg7 hnn7;have hn7 : n7≤131098:=(by have e1:=D7.out.len;rw [List.length_append,D6.out.len] at e1;have e2:=QKE.out;omega);(clear x0 x4 x23 x24 x26 x27 x28 x29 x30 x31 x32);have x0:=D7.out.mx.cell 0 _ rfl;have x4:=D7.out.mx.cell 4 _ rfl;have x23:=D7.out.mx.cell 23 _ rfl;have x24:=D7.out.mx.cell 24 _ rfl;have x26:=D7.out.mx.cell 26 _ rfl;have x27:=D7.out.mx.cell 27 _ rfl;have x28:=D7.out.mx.cell 28 _ rfl;have x29:=D7.out.mx.cell 29 _ rfl;have x30:=D7.out.mx.cell 30 _ rfl;have x31:=D7.out.mx.cell 31 _ rfl;have x32:=D7.out.mx.cell 32 _ rfl)))
 go_ret2
 exact ⟨a7,n7,c7,rfl,by rw [if_pos rfl,← E.out];exact own_base D7.out.own (Nat.le_succ _),D7.out.bel⟩
theorem rWrite_14 (h : MgAt w x L) (hf : MgF x) (hk : x.k = 14) (F : FormMg (mgT x L)) :
  Calls Tryz.prog 21 #[.agg (mgV x)] w (WrB w true (mgB (mgT x L))):=by
 obtain ⟨i0,hi,hz0,hz1,hz2⟩:=info_parts Tryz.info5
 have H0:=hid ((Boxs.start w).more (mgV x) 46)
 have hz : (w.alloc (.cells (mgV x) 46)).heap.size = w.heap.size + 1:=by simp
 have xW:=(H0.g 0 rfl).ldD
 have cF : ∀ W,Below w.heap.size w W→Calls Tryz.prog 47 #[.agg (mgV x)] W (Says W true):=fun W hW=>by
  have h1:=rFormedG_any x L W (h.later hW) hf
  rw [(formMg_iff _).2 F] at h1;exact h1
 have hE:=bytes_14 hk F
 have hh : x.has = false:=F.has0 (show uHas (mgT x L).k = false by rw [show (mgT x L).k = 14 from hk];rfl)
 have m0 : 0≤x.nu:=F.nu.1
 have m1 : x.nu≤2147483647:=F.nu.2.1
 have k0 : 1≤x.k:=F.kind.1
 have k1 : x.k≤15:=F.kind.2
 have cUBal : ∀ W,Calls Tryz.prog 17 #[.int .i64 x.k,nBal] W fun e w'=>e = .returned (.bool false)∧W = w':=fun W=>by
  have h1:=useBal_any x.k W
  rw [show uBal x.k = false by rw [hk];rfl] at h1;exact h1
 have cUSlot : ∀ W,Calls Tryz.prog 17 #[.int .i64 x.k,nSlot] W fun e w'=>e = .returned (.bool false)∧W = w':=fun W=>by
  have h1:=useSlot_any x.k W
  rw [show uSlot x.k = false by rw [hk];rfl] at h1;exact h1
 have cUHas : ∀ W,Calls Tryz.prog 17 #[.int .i64 x.k,nHas] W fun e w'=>e = .returned (.bool false)∧W = w':=fun W=>by
  have h1:=useHas_any x.k W
  rw [show uHas x.k = false by rw [hk];rfl] at h1;exact h1
 have cUCmd : ∀ W,Calls Tryz.prog 17 #[.int .i64 x.k,nCmd] W fun e w'=>e = .returned (.bool false)∧W = w':=fun W=>by
  have h1:=useCmd_any x.k W
  rw [show uCmd x.k = false by rw [hk];rfl] at h1;exact h1
 have cUTxn : ∀ W,Calls Tryz.prog 17 #[.int .i64 x.k,nTxn] W fun e w'=>e = .returned (.bool false)∧W = w':=fun W=>by
  have h1:=useTxn_any x.k W
  rw [show uTxn x.k = false by rw [hk];rfl] at h1;exact h1
 have cUId : ∀ W,Calls Tryz.prog 17 #[.int .i64 x.k,nId] W fun e w'=>e = .returned (.bool false)∧W = w':=fun W=>by
  have h1:=useId_any x.k W
  rw [show uId x.k = false by rw [hk];rfl] at h1;exact h1
 have cUGrp : ∀ W,Calls Tryz.prog 17 #[.int .i64 x.k,nGrp] W fun e w'=>e = .returned (.bool false)∧W = w':=fun W=>by
  have h1:=useGrp_any x.k W
  rw [show uGrp x.k = false by rw [hk];rfl] at h1;exact h1
 have cUStp : ∀ W,Calls Tryz.prog 17 #[.int .i64 x.k,nStp] W fun e w'=>e = .returned (.bool false)∧W = w':=fun W=>by
  have h1:=useStp_any x.k W
  rw [show uStp x.k = false by rw [hk];rfl] at h1;exact h1
 have cUYes : ∀ W,Calls Tryz.prog 17 #[.int .i64 x.k,nYes] W fun e w'=>e = .returned (.bool false)∧W = w':=fun W=>by
  have h1:=useYes_any x.k W
  rw [show uYes x.k = false by rw [hk];rfl] at h1;exact h1
 have cUNum : ∀ W,Calls Tryz.prog 17 #[.int .i64 x.k,nNum] W fun e w'=>e = .returned (.bool true)∧W = w':=fun W=>by
  have h1:=useNum_any x.k W
  rw [show uNum x.k = true by rw [hk];rfl] at h1;exact h1
 have cUKey : ∀ W,Calls Tryz.prog 17 #[.int .i64 x.k,nKey] W fun e w'=>e = .returned (.bool false)∧W = w':=fun W=>by
  have h1:=useKey_any x.k W
  rw [show uKey x.k = false by rw [hk];rfl] at h1;exact h1
 have cUVal : ∀ W,Calls Tryz.prog 17 #[.int .i64 x.k,nVal] W fun e w'=>e = .returned (.bool false)∧W = w':=fun W=>by
  have h1:=useVal_any x.k W
  rw [show uVal x.k = false by rw [hk];rfl] at h1;exact h1
 have cUDat : ∀ W,Calls Tryz.prog 17 #[.int .i64 x.k,nDat] W fun e w'=>e = .returned (.bool false)∧W = w':=fun W=>by
  have h1:=useDat_any x.k W
  rw [show uDat x.k = false by rw [hk];rfl] at h1;exact h1
 have cN : ∀ a1 n1 c1 L1 W,Below w.heap.size w W→BAt W W.heap.size a1 n1 L1→n1≤1000000000→Calls Tryz.prog 49 #[.slice a1 n1 c1,.int .u64 x.nu,.int .i64 4] W (NewB W (L1 ++ putB x.nu.toNat 4)):=fun a1 n1 c1 L1 W hW h1 h2=>refPutM_any a1 n1 c1 x.nu 4 L1 W h1 (by omega) m0 (by omega) (by omega) (by omega)
 have E : Hid ((putB x.k.toNat 1 ++ putB x.nu.toNat 4) = mgB (mgT x L)):=by
  unfold Hid
  rw [← hE,show lets (letters x.k) = [110] by rw [hk];rfl]
  unfold putFs
  simp only [List.flatMap_cons,List.flatMap_nil,List.append_nil]
  rfl
 have QKN : Hid ((putB x.nu.toNat 4).length≤4):=by unfold Hid;rw [putB_len];omega
 have KK1 : Hid (((x.k.toNat : Nat) : Int) = x.k):=Int.toNat_of_nonneg (by omega)
 clear h hf hk F hE
 go_enter Tryz.func21,Tryz.ntmps21
 go_upto_region 3 with (go_at_call 47;((with_reducible refine (cF _ H0.out.bel).mono ?_);rintro e w1 ⟨rfl,hb1⟩;have H1:=hid (H0.out.below hb1)))
 clear xW cF
 have HS1 : Hid (w.heap.size + 1≤w1.heap.size):=by have:=hb1.size;rw [hz] at this;exact this
 clear hz
 have x0:=H1.c 0 0 rfl rfl
 go_upto_region 5 with (fail)
 have D0 : Hid (DW x w (w1.alloc (.cells #[.int .u8 x.k] 5)) (.slice (some ⟨w1.heap.size,0,none⟩) 1 1) 1 (putB x.k.toNat 1)):=by
  have o1:=own_first w1 x.k.toNat (by omega)
  rw [KK1.out] at o1
  have b1:=H1.out.bel
  exact ⟨⟨own_base o1 HS1.out,b1.alloc b1.size _⟩,(H1.g 0 rfl).alloc _,by have:=HS1.out;simp;omega⟩
 clear x0 H1 HS1 hb1 H0
 generalize w1.alloc (.cells #[.int .u8 x.k] 5) = v0 at *
 generalize some (⟨w1.heap.size,0,none⟩ : Addr) = a0 at *
 have hn0 : (1 : Nat)≤1:=Nat.le_refl _
 have x0:=D0.out.mx.cell 0 _ rfl;have x4:=D0.out.mx.cell 4 _ rfl;have x26:=D0.out.mx.cell 26 _ rfl
 go_wp2_with (first | (go_at_call 17;(with_reducible first | refine (cUBal _).mono ?_ | refine (cUSlot _).mono ?_ | refine (cUHas _).mono ?_ | refine (cUCmd _).mono ?_ | refine (cUTxn _).mono ?_ | refine (cUId _).mono ?_ | refine (cUGrp _).mono ?_ | refine (cUStp _).mono ?_ | refine (cUYes _).mono ?_ | refine (cUNum _).mono ?_ | refine (cUKey _).mono ?_ | refine (cUVal _).mono ?_ | refine (cUDat _).mono ?_);rintro e w0 ⟨rfl,rfl⟩) | (go_at_call 49;((with_reducible refine (cN a0 1 1 _ _ D0.out.bel D0.out.bat (by omega)).mono ?_);rintro e v1 ⟨a1,n1,c1,rfl,ho1,hb1⟩;have D1:=hid (D0.out.call ho1 hb1);clear ho1 hb1;have hn1 : n1≤5:=(by have e1:=D1.out.len;rw [List.length_append,D0.out.len] at e1;have e2:=QKN.out;omega);(clear x0 x4 x26);have x0:=D1.out.mx.cell 0 _ rfl;have x4:=D1.out.mx.cell 4 _ rfl;have x26:=D1.out.mx.cell 26 _ rfl)))
 go_ret2
 exact ⟨a1,n1,c1,rfl,by rw [if_pos rfl,← E.out];exact own_base D1.out.own (Nat.le_succ _),D1.out.bel⟩
theorem rWrite_15 (h : MgAt w x L) (hf : MgF x) (hk : x.k = 15) (F : FormMg (mgT x L)) :
  Calls Tryz.prog 21 #[.agg (mgV x)] w (WrB w true (mgB (mgT x L))):=by
 obtain ⟨i0,hi,hz0,hz1,hz2⟩:=info_parts Tryz.info5
 have H0:=hid ((Boxs.start w).more (mgV x) 46)
 have hz : (w.alloc (.cells (mgV x) 46)).heap.size = w.heap.size + 1:=by simp
 have xW:=(H0.g 0 rfl).ldD
 have cF : ∀ W,Below w.heap.size w W→Calls Tryz.prog 47 #[.agg (mgV x)] W (Says W true):=fun W hW=>by
  have h1:=rFormedG_any x L W (h.later hW) hf
  rw [(formMg_iff _).2 F] at h1;exact h1
 have hE:=bytes_15 hk F
 have hh : x.has = false:=F.has0 (show uHas (mgT x L).k = false by rw [show (mgT x L).k = 15 from hk];rfl)
 have s0 : 0≤x.sl:=F.sl.1
 have s1 : x.sl≤1000000:=F.sl.2.1
 have d0 : x.dn≤59900:=by have:=F.data.1;have e : L.dl.length = x.dn:=h.da.len;rw [← e];exact this
 have k0 : 1≤x.k:=F.kind.1
 have k1 : x.k≤15:=F.kind.2
 have cUBal : ∀ W,Calls Tryz.prog 17 #[.int .i64 x.k,nBal] W fun e w'=>e = .returned (.bool false)∧W = w':=fun W=>by
  have h1:=useBal_any x.k W
  rw [show uBal x.k = false by rw [hk];rfl] at h1;exact h1
 have cUSlot : ∀ W,Calls Tryz.prog 17 #[.int .i64 x.k,nSlot] W fun e w'=>e = .returned (.bool true)∧W = w':=fun W=>by
  have h1:=useSlot_any x.k W
  rw [show uSlot x.k = true by rw [hk];rfl] at h1;exact h1
 have cUHas : ∀ W,Calls Tryz.prog 17 #[.int .i64 x.k,nHas] W fun e w'=>e = .returned (.bool false)∧W = w':=fun W=>by
  have h1:=useHas_any x.k W
  rw [show uHas x.k = false by rw [hk];rfl] at h1;exact h1
 have cUCmd : ∀ W,Calls Tryz.prog 17 #[.int .i64 x.k,nCmd] W fun e w'=>e = .returned (.bool false)∧W = w':=fun W=>by
  have h1:=useCmd_any x.k W
  rw [show uCmd x.k = false by rw [hk];rfl] at h1;exact h1
 have cUTxn : ∀ W,Calls Tryz.prog 17 #[.int .i64 x.k,nTxn] W fun e w'=>e = .returned (.bool false)∧W = w':=fun W=>by
  have h1:=useTxn_any x.k W
  rw [show uTxn x.k = false by rw [hk];rfl] at h1;exact h1
 have cUId : ∀ W,Calls Tryz.prog 17 #[.int .i64 x.k,nId] W fun e w'=>e = .returned (.bool false)∧W = w':=fun W=>by
  have h1:=useId_any x.k W
  rw [show uId x.k = false by rw [hk];rfl] at h1;exact h1
 have cUGrp : ∀ W,Calls Tryz.prog 17 #[.int .i64 x.k,nGrp] W fun e w'=>e = .returned (.bool false)∧W = w':=fun W=>by
  have h1:=useGrp_any x.k W
  rw [show uGrp x.k = false by rw [hk];rfl] at h1;exact h1
 have cUStp : ∀ W,Calls Tryz.prog 17 #[.int .i64 x.k,nStp] W fun e w'=>e = .returned (.bool false)∧W = w':=fun W=>by
  have h1:=useStp_any x.k W
  rw [show uStp x.k = false by rw [hk];rfl] at h1;exact h1
 have cUYes : ∀ W,Calls Tryz.prog 17 #[.int .i64 x.k,nYes] W fun e w'=>e = .returned (.bool false)∧W = w':=fun W=>by
  have h1:=useYes_any x.k W
  rw [show uYes x.k = false by rw [hk];rfl] at h1;exact h1
 have cUNum : ∀ W,Calls Tryz.prog 17 #[.int .i64 x.k,nNum] W fun e w'=>e = .returned (.bool false)∧W = w':=fun W=>by
  have h1:=useNum_any x.k W
  rw [show uNum x.k = false by rw [hk];rfl] at h1;exact h1
 have cUKey : ∀ W,Calls Tryz.prog 17 #[.int .i64 x.k,nKey] W fun e w'=>e = .returned (.bool false)∧W = w':=fun W=>by
  have h1:=useKey_any x.k W
  rw [show uKey x.k = false by rw [hk];rfl] at h1;exact h1
 have cUVal : ∀ W,Calls Tryz.prog 17 #[.int .i64 x.k,nVal] W fun e w'=>e = .returned (.bool false)∧W = w':=fun W=>by
  have h1:=useVal_any x.k W
  rw [show uVal x.k = false by rw [hk];rfl] at h1;exact h1
 have cUDat : ∀ W,Calls Tryz.prog 17 #[.int .i64 x.k,nDat] W fun e w'=>e = .returned (.bool true)∧W = w':=fun W=>by
  have h1:=useDat_any x.k W
  rw [show uDat x.k = true by rw [hk];rfl] at h1;exact h1
 have cS : ∀ a1 n1 c1 L1 W,Below w.heap.size w W→BAt W W.heap.size a1 n1 L1→n1≤1000000000→Calls Tryz.prog 49 #[.slice a1 n1 c1,.int .u64 x.sl,.int .i64 4] W (NewB W (L1 ++ putB x.sl.toNat 4)):=fun a1 n1 c1 L1 W hW h1 h2=>refPutM_any a1 n1 c1 x.sl 4 L1 W h1 (by omega) s0 (by omega) (by omega) (by omega)
 have cD : ∀ a1 n1 c1 L1 W,Below w.heap.size w W→BAt W W.heap.size a1 n1 L1→n1≤1000000000→Calls Tryz.prog 49 #[.slice a1 n1 c1,.int .u64 ((x.dn : Nat) : Int),.int .i64 4] W (NewB W (L1 ++ putB x.dn 4)):=fun a1 n1 c1 L1 W hW h1 h2=>refPut_any a1 n1 c1 x.dn 4 L1 W h1 (by omega) (by omega) (by omega) (by omega)
 have E : Hid ((((putB x.k.toNat 1 ++ putB x.sl.toNat 4) ++ putB x.dn 4) ++ L.dl) = mgB (mgT x L)):=by
  unfold Hid
  rw [← hE,show lets (letters x.k) = [115,100] by rw [hk];rfl]
  unfold putFs
  simp only [List.flatMap_cons,List.flatMap_nil,List.append_nil]
  show _ = putB x.k.toNat 1 ++ (putB _ 4 ++ dataB L.dl)
  unfold dataB
  rw [h.da.len]
  simp only [List.append_assoc]
 have QKS : Hid ((putB x.sl.toNat 4).length≤4):=by unfold Hid;rw [putB_len];omega
 have QKD : Hid ((putB x.dn 4).length≤4):=by unfold Hid;rw [putB_len];omega
 have QKL : Hid ((L.dl).length≤59900):=by unfold Hid;rw [h.da.len];exact d0
 have HD : Hid (∀ W,Below w.heap.size w W→BAt W w.heap.size x.da x.dn L.dl):=fun W hW=>h.da.below hW (Nat.le_refl _)
 have KK1 : Hid (((x.k.toNat : Nat) : Int) = x.k):=Int.toNat_of_nonneg (by omega)
 clear h hf hk F hE
 go_enter Tryz.func21,Tryz.ntmps21
 go_upto_region 3 with (go_at_call 47;((with_reducible refine (cF _ H0.out.bel).mono ?_);rintro e w1 ⟨rfl,hb1⟩;have H1:=hid (H0.out.below hb1)))
 clear xW cF
 have HS1 : Hid (w.heap.size + 1≤w1.heap.size):=by have:=hb1.size;rw [hz] at this;exact this
 clear hz
 have x0:=H1.c 0 0 rfl rfl
 go_upto_region 5 with (fail)
 have D0 : Hid (DW x w (w1.alloc (.cells #[.int .u8 x.k] 5)) (.slice (some ⟨w1.heap.size,0,none⟩) 1 1) 1 (putB x.k.toNat 1)):=by
  have o1:=own_first w1 x.k.toNat (by omega)
  rw [KK1.out] at o1
  have b1:=H1.out.bel
  exact ⟨⟨own_base o1 HS1.out,b1.alloc b1.size _⟩,(H1.g 0 rfl).alloc _,by have:=HS1.out;simp;omega⟩
 clear x0 H1 HS1 hb1 H0
 generalize w1.alloc (.cells #[.int .u8 x.k] 5) = v0 at *
 generalize some (⟨w1.heap.size,0,none⟩ : Addr) = a0 at *
 have hn0 : (1 : Nat)≤1:=Nat.le_refl _
 have x0:=D0.out.mx.cell 0 _ rfl;have x3:=D0.out.mx.cell 3 _ rfl;have x4:=D0.out.mx.cell 4 _ rfl;have x33:=D0.out.mx.cell 33 _ rfl
 go_wp2_with (first | (go_at_call 17;(with_reducible first | refine (cUBal _).mono ?_ | refine (cUSlot _).mono ?_ | refine (cUHas _).mono ?_ | refine (cUCmd _).mono ?_ | refine (cUTxn _).mono ?_ | refine (cUId _).mono ?_ | refine (cUGrp _).mono ?_ | refine (cUStp _).mono ?_ | refine (cUYes _).mono ?_ | refine (cUNum _).mono ?_ | refine (cUKey _).mono ?_ | refine (cUVal _).mono ?_ | refine (cUDat _).mono ?_);rintro e w0 ⟨rfl,rfl⟩) | (go_at_call 49;((with_reducible refine (cS a0 1 1 _ _ D0.out.bel D0.out.bat (by omega)).mono ?_);rintro e v1 ⟨a1,n1,c1,rfl,ho1,hb1⟩;have D1:=hid (D0.out.call ho1 hb1);clear ho1 hb1;have hn1 : n1≤5:=(by have e1:=D1.out.len;rw [List.length_append,D0.out.len] at e1;have e2:=QKS.out;omega);(clear x0 x3 x4 x33);have x0:=D1.out.mx.cell 0 _ rfl;have x3:=D1.out.mx.cell 3 _ rfl;have x4:=D1.out.mx.cell 4 _ rfl;have x33:=D1.out.mx.cell 33 _ rfl)) | (go_at_call 49;((with_reducible refine (cD a1 n1 c1 _ _ D1.out.bel D1.out.bat (by omega)).mono ?_);rintro e v2 ⟨a2,n2,c2,rfl,ho2,hb2⟩;have D2:=hid (D1.out.call ho2 hb2);clear ho2 hb2;have hn2 : n2≤9:=(by have e1:=D2.out.len;rw [List.length_append,D1.out.len] at e1;have e2:=QKD.out;omega);(clear x0 x3 x4 x33);have x0:=D2.out.mx.cell 0 _ rfl;have x3:=D2.out.mx.cell 3 _ rfl;have x4:=D2.out.mx.cell 4 _ rfl;have x33:=D2.out.mx.cell 33 _ rfl)) | (at_builtin;(refine wpList_append_bytes _ rfl _ _ 22 rfl (w.heap.size + 1) 5 i0 Tryz.underlying22 hi hz0 hz1 hz2 _ n2 _ rfl D2.out.own w.heap.size x.da x.dn L.dl x.dc rfl (HD.out _ D2.out.bel) (by omega) D2.out.size ?_;intro u3 v3 ho3 hg3;obtain ⟨a3,c3,rfl,_,_,_⟩:=own_form ho3;obtain ⟨n3,hnn3⟩ : ∃ q,n2 + x.dn = q:=⟨_,rfl⟩;rw [hnn3] at ho3 ⊢;have D3:=hid (D2.out.grow0 ho3 hg3);clear ho3 hg3 hnn3;have hn3 : n3≤59909:=(by have e1:=D3.out.len;rw [List.length_append,D2.out.len] at e1;have e2:=QKL.out;omega);(clear x0 x3 x4 x33);have x0:=D3.out.mx.cell 0 _ rfl;have x3:=D3.out.mx.cell 3 _ rfl;have x4:=D3.out.mx.cell 4 _ rfl;have x33:=D3.out.mx.cell 33 _ rfl)))
 go_ret2
 exact ⟨a3,n3,c3,rfl,by rw [if_pos rfl,← E.out];exact own_base D3.out.own (Nat.le_succ _),D3.out.bel⟩
theorem rWrite_no (h : MgAt w x L) (hf : MgF x) (hn : formMg (mgT x L) = false) :
  Calls Tryz.prog 21 #[.agg (mgV x)] w (WrB w false (mgB (mgT x L))):=by
 have H0:=hid ((Boxs.start w).more (mgV x) 46)
 have xW:=(H0.g 0 rfl).ldD
 have cF:=fun W (hW : Below w.heap.size w W)=>rFormedG_any x L W (h.later hW) hf
 rw [hn] at cF
 clear h hf hn
 go_enter Tryz.func21,Tryz.ntmps21
 go_wp2_with (go_at_call 47;((with_reducible refine (cF _ H0.out.bel).mono ?_);rintro e w1 ⟨rfl,hb1⟩;have H1:=hid (H0.out.below hb1)))
 go_ret2
 exact ⟨none,0,0,rfl,World.ownsRow_nil _ _ _ _,H1.out.bel⟩
theorem rWrite_any (h : MgAt w x L) (hf : MgF x) :
  Calls Tryz.prog 21 #[.agg (mgV x)] w (WrB w (formMg (mgT x L)) (mgB (mgT x L))):=by
 cases e : formMg (mgT x L)
 ·exact rWrite_no h hf e
 ·have F:=(formMg_iff _).1 e
  rcases kind_cases (show 1≤x.k∧x.k≤15 from F.kind) with hk | hk | hk | hk | hk | hk | hk | hk | hk | hk | hk | hk | hk | hk | hk
  ·exact rWrite_1 h hf hk F
  ·cases hh : x.has
   ·exact rWrite_2n h hf hk F hh
   ·exact rWrite_2y h hf hk F hh
  ·exact rWrite_3 h hf hk F
  ·exact rWrite_4 h hf hk F
  ·exact rWrite_5 h hf hk F
  ·exact rWrite_6 h hf hk F
  ·exact rWrite_7 h hf hk F
  ·exact rWrite_8 h hf hk F
  ·exact rWrite_9 h hf hk F
  ·exact rWrite_10 h hf hk F
  ·exact rWrite_11 h hf hk F
  ·exact rWrite_12 h hf hk F
  ·exact rWrite_13 h hf hk F
  ·exact rWrite_14 h hf hk F
  ·exact rWrite_15 h hf hk F
end
end Go.Proofs.YtigimmbdlhginaaGreatDoor
