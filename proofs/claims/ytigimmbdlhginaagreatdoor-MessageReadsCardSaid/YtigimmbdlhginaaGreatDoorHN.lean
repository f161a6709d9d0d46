/- Contract of the document's Read of a message: it answers the message that mgF reads to the end, or none. Conditions: the bytes lie in memory, and are no more than 70,000. Contract of the document's Read of a message. -/
import Derived.Test.YtigimmbdlhginaaGreatDoorHO
namespace Go.Proofs.YtigimmbdlhginaaGreatDoor
set_option maxRecDepth 100000
set_option maxHeartbeats 8000000
open Go.RowKit
open Go.Lib (hid)
set_option linter.unusedVariables false
set_option linter.unusedSimpArgs false
theorem read_n (a : Option Addr) (n c kk : Nat) (l : List UInt8) (w : World) (hl : BAt w w.heap.size a n l) (hn : n≤70000) (hnc : n≤c) (hcm : c≤maxLen) (hk : kk < 256) (hz : ∀ z st1,Res (numP 1) (some l) z st1→(st1 = none→z = 0)→kk = z) (ls : List Nat) (hls : lets (letters ((kk : Nat) : Int)) = ls ++ []) (uId : uId ((kk : Nat) : Int) = false) (uGrp : uGrp ((kk : Nat) : Int) = false) (uStp : uStp ((kk : Nat) : Int) = false) (uYes : uYes ((kk : Nat) : Int) = false) (uNum : uNum ((kk : Nat) : Int) = false) (uKey : uKey ((kk : Nat) : Int) = false) (uVal : uVal ((kk : Nat) : Int) = false) (uDat : uDat ((kk : Nat) : Int) = false)
  (cH : ∀ (g : Nat) (W : World) (st1 : St),FS w.heap.size g l st1 W→Calls Tryz.prog 16 #[.pointer (some ⟨g,0,none⟩),.agg (mgV (zeroG ((kk : Nat) : Int)))] W (HeadR W w.heap.size g l ((kk : Nat) : Int) ls st1)) :
  Calls Tryz.prog 6 #[.slice a n c] w (ReadR w l):=by
 obtain ⟨R,hR0⟩ : ∃ R,w.heap.size = R:=⟨_,rfl⟩
 obtain ⟨g,hg0⟩ : ∃ g,R + 1 = g:=⟨_,rfl⟩
 have b1 : Below w.heap.size w (w.alloc (.cells ZL 46)):=(Below.refl _ _).alloc (Nat.le_refl _) _
 have s1 : (w.alloc (.cells ZL 46)).heap.size = w.heap.size + 1:=by simp
 have BEL : Hid (Below w.heap.size w ((w.alloc (.cells ZL 46)).alloc (.cells #[.slice a n c,.int .i64 0,.bool false] 61))):=b1.alloc b1.size _
 have RX0 : Hid (BoxC ((w.alloc (.cells ZL 46)).alloc (.cells #[.slice a n c,.int .i64 0,.bool false] 61)) R (mgV (zeroG 0)) 46):=by
  have h : BoxC (w.alloc (.cells ZL 46)) w.heap.size ZL 46:=BoxC.new w ZL 46
  rw [hR0] at h
  exact h.below ((Below.refl _ _).alloc (Nat.le_refl _) _)
 have FS0 : Hid (FS w.heap.size g l (some l) ((w.alloc (.cells ZL 46)).alloc (.cells #[.slice a n c,.int .i64 0,.bool false] 61))):=by
  refine ⟨0,⟨a,n,c,?_,hnc,hcm,hl.below BEL.out (Nat.le_refl _),Nat.zero_le _,by omega⟩,fun l' e=>by injection e with e;rw [e];rfl⟩
  have h:=BoxC.new (w.alloc (.cells ZL 46)) #[.slice a n c,.int .i64 0,.bool false] 61
  rw [s1,hR0,hg0] at h
  exact h
 have HL:=hid hl
 have HNM : Hid (n≤maxLen):=Nat.le_trans hnc hcm
 have HN7:=hid hn
 have HNC:=hid hnc
 have HCM:=hid hcm
 have RW : Hid (w.heap.size≤R):=by unfold Hid;omega
 have GW : Hid (w.heap.size≤g):=by unfold Hid;omega
 have GR : Hid (R < g):=by unfold Hid;omega
 have HK:=hid hk
 have HZ:=hid hz
 have HLS:=hid hls
 have cId:=fun V=>useId_any ((kk : Nat) : Int) V
 rw [uId] at cId
 have cGrp:=fun V=>useGrp_any ((kk : Nat) : Int) V
 rw [uGrp] at cGrp
 have cStp:=fun V=>useStp_any ((kk : Nat) : Int) V
 rw [uStp] at cStp
 have cYes:=fun V=>useYes_any ((kk : Nat) : Int) V
 rw [uYes] at cYes
 have cNum:=fun V=>useNum_any ((kk : Nat) : Int) V
 rw [uNum] at cNum
 have cKey:=fun V=>useKey_any ((kk : Nat) : Int) V
 rw [uKey] at cKey
 have cVal:=fun V=>useVal_any ((kk : Nat) : Int) V
 rw [uVal] at cVal
 have cDat:=fun V=>useDat_any ((kk : Nat) : Int) V
 rw [uDat] at cDat
 clear hl hn hnc hcm hk hz hls b1 s1 uId uGrp uStp uYes uNum uKey uVal uDat
 go_enter Tryz.func6,Tryz.ntmps6
 go_upto_region 2 with fail
 generalize hV0 : (w.alloc (.cells ZL 46)).alloc (.cells #[.slice a n c,.int .i64 0,.bool false] 61) = V0 at *
 clear hV0
 have cT : Calls Tryz.prog 15 #[.pointer (some ⟨g,0,none⟩),.int .i64 1] V0 (Took1 (FS w.heap.size g l) g numV (numP 1) 0 (some l) V0):=refTakeS_any w.heap.size g l 1 (some l) V0 FS0.out (by omega)
 go_upto_region 3 with (first | (go_at_call 15;((with_reducible refine cT.mono ?_);rintro e w2 ⟨z,st1,rfl,hr2,ho2,hR2,hz2⟩;obtain rfl : kk = z:=HZ.out z st1 hR2 hz2;have D2:=hid hr2;have O2:=hid ho2;have R2:=hid hR2;have hk:=HK.out;have ek:=wrap_i64 kk (by omega);have HX : Hid (BoxC (w2.alloc (.cells ZL 46)) w2.heap.size (mgV (zeroG 0)) 46):=BoxC.new w2 _ _;clear hr2 ho2 hR2 hz2)) | (refine wpList_store_doc rfl _ _ rfl w2.heap.size (zeroG ((kk : Nat) : Int)) rfl rfl (zeroG 0) HX.out ?_))
 obtain ⟨G,hG0⟩ : ∃ G,w2.heap.size = G:=⟨_,rfl⟩
 have g0 : g < V0.heap.size:=FS0.out.lt
 have K1 : Hid (RfB V0 w.heap.size g G R l st1 (mgV (zeroG ((kk : Nat) : Int))) ((w2.alloc (.cells ZL 46)).setRow w2.heap.size (mgV (zeroG ((kk : Nat) : Int))))):=by
  have g2 : g < w2.heap.size:=D2.out.lt
  have hgr:=GR.out
  have oF:=only_fill (w2.alloc (.cells ZL 46)) w2.heap.size (mgV (zeroG ((kk : Nat) : Int)))
  have bA : Below w2.heap.size w2 (w2.alloc (.cells ZL 46)):=(Below.refl _ _).alloc (Nat.le_refl _) _
  have bF : Below w2.heap.size w2 ((w2.alloc (.cells ZL 46)).setRow w2.heap.size (mgV (zeroG ((kk : Nat) : Int)))):=Only.below bA oF (Nat.le_refl _) bA.size
  have x2 : BoxC w2 R (mgV (zeroG 0)) 46:=RX0.out.only O2.out (by omega)
  exact ⟨Keep.keep (g:=g) w2 _ D2.out fun b hb=>bF.block b (by omega),by rw [← hG0];exact HX.out.fill _,x2.below bF,O2.out.trans (below_only bF),g0,by have:=O2.out.size;omega,by omega,by have:=x2.lt;omega⟩
 rw [hG0] at K1
 simp only [hG0]
 clear D2 O2 HX cT RX0 FS0 ek
 generalize (w2.alloc (.cells ZL 46)).setRow G (mgV (zeroG ((kk : Nat) : Int))) = V1 at *
 have x0 : V1.cell? ⟨G,0,none⟩ = some (.int .i64 ((kk : Nat) : Int)):=K1.out.bx.cell 0 _ rfl
 have lG:=K1.out.bx.ldD
 have cHd:=cH g V1 st1 K1.out.rd
 go_upto_region 5 with (first | (go_at_call 16;((with_reducible refine cHd.mono ?_);rintro e w3 ⟨x,Lx,st2,rfl,hr3,ho3,hx3⟩;have K2:=hid (K1.out.only hr3 ho3);have H3:=hid hx3;clear hr3 ho3 hx3)) | (refine wpList_store_doc rfl _ _ rfl G x rfl rfl (zeroG ((kk : Nat) : Int)) K2.out.bx ?_))
 have A3 : Hid (MgAt (w3.setRow G (mgV x)) x Lx):=H3.out.at_.fill2 K2.out.bx H3.out.f1 H3.out.f2
 have K3 : Hid (RfB V0 w.heap.size g G R l st2 (mgV x) (w3.setRow G (mgV x))):=K2.out.fill (mgV x)
 clear K1 K2 x0 lG cHd cH
 generalize w3.setRow G (mgV x) = V3 at *
 have hAt:=A3.out
 have hMF:=H3.out.f
 have hRes : Res rdD (some l) (mgT x Lx) st2:=by
  refine Res.bind (x:=((kk : Nat) : Int)) (res_numI R2.out) ?_
  rw [HLS.out,fldsD_app]
  exact Res.bind (x:=mgT x Lx) H3.out.res (Res.pure _ _)
 have hMn:=hAt.ok
 have BV : Below w.heap.size w V3:=Only.below BEL.out K3.out.onl (by have:=GW.out;omega) BEL.out.size
 have lG:=K3.out.bx.ldD
 have wr0:=rWrite_any hAt hMF
 have HAT:=hid hAt
 have HMF:=hid hMF
 by_cases hf : formMg (mgT x Lx) = true
 ·by_cases he : mgB (mgT x Lx) = l
  ·have hyes:=hid (doc_yes hMn hf he)
   have cW : Calls Tryz.prog 21 #[.agg (mgV x)] V3 fun e w' => ∃ a n c,e = .returned (.tuple #[.slice a n c,.int .i64 0])∧w'.ownsRow V3.heap.size 5 1 (.slice a n c) n (bcells l)∧Below V3.heap.size V3 w':=by rw [hf,he] at wr0;exact wr0
   have cS : ∀ (U : World) (a' : Option Addr) (n' c' : Nat),BAt U U.heap.size a' n' l→BAt U U.heap.size a n l→n'≤maxLen→Calls Tryz.prog 22 #[.slice a n c,.slice a' n' c'] U (Reads1 U (.bool true)):=fun U a' n' c' h1 h2 h3=>by
    have h:=same_any a a' n n' c c' _ _ l l U h2 h1 HNM.out h3
    rw [decide_eq_true rfl] at h;exact h
   clear wr0 hMn hf he hAt hMF
   go_wp2_with (first | (go_at_call 17;(with_reducible first | refine (cId _).mono ?_ | refine (cGrp _).mono ?_ | refine (cStp _).mono ?_ | refine (cYes _).mono ?_ | refine (cNum _).mono ?_ | refine (cKey _).mono ?_ | refine (cVal _).mono ?_ | refine (cDat _).mono ?_);rintro e wu ⟨rfl,rfl⟩) | (go_at_call 21;((with_reducible refine cW.mono ?_);rintro e w8 ⟨a8,n8,c8,rfl,ho8,hb8⟩;have O8:=hid (BAt.of_own ho8);have M8:=hid (Nat.le_trans (own_caps ho8).1 (own_caps ho8).2);have X8:=hid (K3.out.bx.below hb8);have R8:=hid (K3.out.rx.below hb8);have B8:=hid hb8;have L8:=X8.out.ldD;have I8 : Hid (BAt w8 w8.heap.size a n l):=(HL.out.below (BV.trans (hb8.mono BV.size)) (Nat.le_refl _)).more (BV.trans (hb8.mono BV.size)).size;clear ho8 hb8)) | (go_at_call 22;((with_reducible refine (cS w8 a8 n8 c8 O8.out I8.out M8.out).mono ?_);rintro e w9 ⟨rfl,q9,rfl⟩;have X9 : Hid (BoxC (w8.drewN q9) G (mgV x) 46):=X8.out;have R9 : Hid (BoxC (w8.drewN q9) R (mgV (zeroG 0)) 46):=R8.out;have L9:=X9.out.ldD)) | (refine wpList_store_doc rfl _ _ rfl R x rfl rfl (zeroG 0) R9.out ?_))
   exact bodyPost_ret (v:=.tuple #[.agg (mgV x),.int .i64 0]) (results_mgD Tryz.results6 _ _ R x rfl (R9.out.fill _)) rfl ⟨.inl ⟨x,Lx,rfl,(HAT.out.later (B8.out.trans (below_drewN q9 (Below.refl _ _)))).fill2 R9.out H3.out.f1 H3.out.f2,HMF.out,hyes.out⟩,Only.below (BV.trans ((B8.out.trans (below_drewN q9 (Below.refl _ _))).mono BV.size)) (only_fill _ _ _) (by have:=RW.out;omega) (BV.trans (B8.out.mono BV.size)).size⟩
  ·have hno:=hid (doc_no hRes (.inr he))
   have cW : Calls Tryz.prog 21 #[.agg (mgV x)] V3 fun e w' => ∃ a n c,e = .returned (.tuple #[.slice a n c,.int .i64 0])∧w'.ownsRow V3.heap.size 5 1 (.slice a n c) n (bcells (mgB (mgT x Lx)))∧Below V3.heap.size V3 w':=by rw [hf] at wr0;exact wr0
   have cS : ∀ (U : World) (a' : Option Addr) (n' c' : Nat),BAt U U.heap.size a' n' (mgB (mgT x Lx))→BAt U U.heap.size a n l→n'≤maxLen→Calls Tryz.prog 22 #[.slice a n c,.slice a' n' c'] U (Reads1 U (.bool false)):=fun U a' n' c' h1 h2 h3=>by
    have h:=same_any a a' n n' c c' _ _ l (mgB (mgT x Lx)) U h2 h1 HNM.out h3
    rw [decide_eq_false (fun e=>he e.symm)] at h;exact h
   clear wr0 hMn hf he hAt hMF
   go_wp2_with (first | (go_at_call 17;(with_reducible first | refine (cId _).mono ?_ | refine (cGrp _).mono ?_ | refine (cStp _).mono ?_ | refine (cYes _).mono ?_ | refine (cNum _).mono ?_ | refine (cKey _).mono ?_ | refine (cVal _).mono ?_ | refine (cDat _).mono ?_);rintro e wu ⟨rfl,rfl⟩) | (go_at_call 21;((with_reducible refine cW.mono ?_);rintro e w8 ⟨a8,n8,c8,rfl,ho8,hb8⟩;have O8:=hid (BAt.of_own ho8);have M8:=hid (Nat.le_trans (own_caps ho8).1 (own_caps ho8).2);have X8:=hid (K3.out.bx.below hb8);have R8:=hid (K3.out.rx.below hb8);have B8:=hid hb8;have L8:=X8.out.ldD;have I8 : Hid (BAt w8 w8.heap.size a n l):=(HL.out.below (BV.trans (hb8.mono BV.size)) (Nat.le_refl _)).more (BV.trans (hb8.mono BV.size)).size;clear ho8 hb8)) | (go_at_call 22;((with_reducible refine (cS w8 a8 n8 c8 O8.out I8.out M8.out).mono ?_);rintro e w9 ⟨rfl,q9,rfl⟩;have X9 : Hid (BoxC (w8.drewN q9) G (mgV x) 46):=X8.out;have R9 : Hid (BoxC (w8.drewN q9) R (mgV (zeroG 0)) 46):=R8.out;have L9:=X9.out.ldD)) | (refine wpList_store_doc rfl _ _ rfl R (zeroG 0) rfl rfl (zeroG 0) R9.out ?_))
   exact bodyPost_ret (v:=.tuple #[.agg (mgV (zeroG 0)),.int .i64 2]) (results_mgD Tryz.results6 _ _ R (zeroG 0) rfl (R9.out.fill _)) rfl ⟨.inr ⟨rfl,hno.out⟩,Only.below (BV.trans ((B8.out.trans (below_drewN q9 (Below.refl _ _))).mono BV.size)) (only_fill _ _ _) (by have:=RW.out;omega) (BV.trans (B8.out.mono BV.size)).size⟩
 ·have hf2 : formMg (mgT x Lx) = false:=by simpa using hf
  have hno:=hid (doc_no hRes (.inl hf2))
  have cW : Calls Tryz.prog 21 #[.agg (mgV x)] V3 fun e w' => ∃ a n c,e = .returned (.tuple #[.slice a n c,.int .i64 2])∧w'.ownsRow V3.heap.size 5 1 (.slice a n c) n (bcells [])∧Below V3.heap.size V3 w':=by rw [hf2] at wr0;exact wr0
  clear wr0 hMn hf hf2 hAt hMF
  go_wp2_with (first | (go_at_call 17;(with_reducible first | refine (cId _).mono ?_ | refine (cGrp _).mono ?_ | refine (cStp _).mono ?_ | refine (cYes _).mono ?_ | refine (cNum _).mono ?_ | refine (cKey _).mono ?_ | refine (cVal _).mono ?_ | refine (cDat _).mono ?_);rintro e wu ⟨rfl,rfl⟩) | (go_at_call 21;((with_reducible refine cW.mono ?_);rintro e w8 ⟨a8,n8,c8,rfl,ho8,hb8⟩;have O8:=hid (BAt.of_own ho8);have M8:=hid (Nat.le_trans (own_caps ho8).1 (own_caps ho8).2);have X8:=hid (K3.out.bx.below hb8);have R8:=hid (K3.out.rx.below hb8);have B8:=hid hb8;have L8:=X8.out.ldD;have I8 : Hid (BAt w8 w8.heap.size a n l):=(HL.out.below (BV.trans (hb8.mono BV.size)) (Nat.le_refl _)).more (BV.trans (hb8.mono BV.size)).size;clear ho8 hb8)) | (refine wpList_store_doc rfl _ _ rfl R (zeroG 0) rfl rfl (zeroG 0) R8.out ?_))
  exact bodyPost_ret (v:=.tuple #[.agg (mgV (zeroG 0)),.int .i64 2]) (results_mgD Tryz.results6 _ _ R (zeroG 0) rfl (R8.out.fill _)) rfl ⟨.inr ⟨rfl,hno.out⟩,Only.below (BV.trans (B8.out.mono BV.size)) (only_fill _ _ _) (by have:=RW.out;omega) (BV.trans (B8.out.mono BV.size)).size⟩
theorem read_igp (a : Option Addr) (n c kk : Nat) (l : List UInt8) (w : World) (hl : BAt w w.heap.size a n l) (hn : n≤70000) (hnc : n≤c) (hcm : c≤maxLen) (hk : kk < 256) (hz : ∀ z st1,Res (numP 1) (some l) z st1→(st1 = none→z = 0)→kk = z) (ls : List Nat) (hls : lets (letters ((kk : Nat) : Int)) = ls ++ [105,103,112]) (hle : ls = []) (uId : uId ((kk : Nat) : Int) = true) (uGrp : uGrp ((kk : Nat) : Int) = true) (uStp : uStp ((kk : Nat) : Int) = true) (uYes : uYes ((kk : Nat) : Int) = false) (uNum : uNum ((kk : Nat) : Int) = false) (uKey : uKey ((kk : Nat) : Int) = false) (uVal : uVal ((kk : Nat) : Int) = false) (uDat : uDat ((kk : Nat) : Int) = false)
  (cH : ∀ (g : Nat) (W : World) (st1 : St),FS w.heap.size g l st1 W→Calls Tryz.prog 16 #[.pointer (some ⟨g,0,none⟩),.agg (mgV (zeroG ((kk : Nat) : Int)))] W (HeadR W w.heap.size g l ((kk : Nat) : Int) ls st1)) :
  Calls Tryz.prog 6 #[.slice a n c] w (ReadR w l):=by
 obtain ⟨R,hR0⟩ : ∃ R,w.heap.size = R:=⟨_,rfl⟩
 obtain ⟨g,hg0⟩ : ∃ g,R + 1 = g:=⟨_,rfl⟩
 have b1 : Below w.heap.size w (w.alloc (.cells ZL 46)):=(Below.refl _ _).alloc (Nat.le_refl _) _
 have s1 : (w.alloc (.cells ZL 46)).heap.size = w.heap.size + 1:=by simp
 have BEL : Hid (Below w.heap.size w ((w.alloc (.cells ZL 46)).alloc (.cells #[.slice a n c,.int .i64 0,.bool false] 61))):=b1.alloc b1.size _
 have RX0 : Hid (BoxC ((w.alloc (.cells ZL 46)).alloc (.cells #[.slice a n c,.int .i64 0,.bool false] 61)) R (mgV (zeroG 0)) 46):=by
  have h : BoxC (w.alloc (.cells ZL 46)) w.heap.size ZL 46:=BoxC.new w ZL 46
  rw [hR0] at h
  exact h.below ((Below.refl _ _).alloc (Nat.le_refl _) _)
 have FS0 : Hid (FS w.heap.size g l (some l) ((w.alloc (.cells ZL 46)).alloc (.cells #[.slice a n c,.int .i64 0,.bool false] 61))):=by
  refine ⟨0,⟨a,n,c,?_,hnc,hcm,hl.below BEL.out (Nat.le_refl _),Nat.zero_le _,by omega⟩,fun l' e=>by injection e with e;rw [e];rfl⟩
  have h:=BoxC.new (w.alloc (.cells ZL 46)) #[.slice a n c,.int .i64 0,.bool false] 61
  rw [s1,hR0,hg0] at h
  exact h
 have HL:=hid hl
 have HNM : Hid (n≤maxLen):=Nat.le_trans hnc hcm
 have HN7:=hid hn
 have HNC:=hid hnc
 have HCM:=hid hcm
 have RW : Hid (w.heap.size≤R):=by unfold Hid;omega
 have GW : Hid (w.heap.size≤g):=by unfold Hid;omega
 have GR : Hid (R < g):=by unfold Hid;omega
 have HK:=hid hk
 have HZ:=hid hz
 have HLS:=hid hls
 have cId:=fun V=>useId_any ((kk : Nat) : Int) V
 rw [uId] at cId
 have cGrp:=fun V=>useGrp_any ((kk : Nat) : Int) V
 rw [uGrp] at cGrp
 have cStp:=fun V=>useStp_any ((kk : Nat) : Int) V
 rw [uStp] at cStp
 have cYes:=fun V=>useYes_any ((kk : Nat) : Int) V
 rw [uYes] at cYes
 have cNum:=fun V=>useNum_any ((kk : Nat) : Int) V
 rw [uNum] at cNum
 have cKey:=fun V=>useKey_any ((kk : Nat) : Int) V
 rw [uKey] at cKey
 have cVal:=fun V=>useVal_any ((kk : Nat) : Int) V
 rw [uVal] at cVal
 have cDat:=fun V=>useDat_any ((kk : Nat) : Int) V
 rw [uDat] at cDat
 clear hl hn hnc hcm hk hz hls b1 s1 uId uGrp uStp uYes uNum uKey uVal uDat
 go_enter Tryz.func6,Tryz.ntmps6
 go_upto_region 2 with fail
 generalize hV0 : (w.alloc (.cells ZL 46)).alloc (.cells #[.slice a n c,.int .i64 0,.bool false] 61) = V0 at *
 clear hV0
 have cT : Calls Tryz.prog 15 #[.pointer (some ⟨g,0,none⟩),.int .i64 1] V0 (Took1 (FS w.heap.size g l) g numV (numP 1) 0 (some l) V0):=refTakeS_any w.heap.size g l 1 (some l) V0 FS0.out (by omega)
 go_upto_region 3 with (first | (go_at_call 15;((with_reducible refine cT.mono ?_);rintro e w2 ⟨z,st1,rfl,hr2,ho2,hR2,hz2⟩;obtain rfl : kk = z:=HZ.out z st1 hR2 hz2;have D2:=hid hr2;have O2:=hid ho2;have R2:=hid hR2;have hk:=HK.out;have ek:=wrap_i64 kk (by omega);have HX : Hid (BoxC (w2.alloc (.cells ZL 46)) w2.heap.size (mgV (zeroG 0)) 46):=BoxC.new w2 _ _;clear hr2 ho2 hR2 hz2)) | (refine wpList_store_doc rfl _ _ rfl w2.heap.size (zeroG ((kk : Nat) : Int)) rfl rfl (zeroG 0) HX.out ?_))
 obtain ⟨G,hG0⟩ : ∃ G,w2.heap.size = G:=⟨_,rfl⟩
 have g0 : g < V0.heap.size:=FS0.out.lt
 have K1 : Hid (RfB V0 w.heap.size g G R l st1 (mgV (zeroG ((kk : Nat) : Int))) ((w2.alloc (.cells ZL 46)).setRow w2.heap.size (mgV (zeroG ((kk : Nat) : Int))))):=by
  have g2 : g < w2.heap.size:=D2.out.lt
  have hgr:=GR.out
  have oF:=only_fill (w2.alloc (.cells ZL 46)) w2.heap.size (mgV (zeroG ((kk : Nat) : Int)))
  have bA : Below w2.heap.size w2 (w2.alloc (.cells ZL 46)):=(Below.refl _ _).alloc (Nat.le_refl _) _
  have bF : Below w2.heap.size w2 ((w2.alloc (.cells ZL 46)).setRow w2.heap.size (mgV (zeroG ((kk : Nat) : Int)))):=Only.below bA oF (Nat.le_refl _) bA.size
  have x2 : BoxC w2 R (mgV (zeroG 0)) 46:=RX0.out.only O2.out (by omega)
  exact ⟨Keep.keep (g:=g) w2 _ D2.out fun b hb=>bF.block b (by omega),by rw [← hG0];exact HX.out.fill _,x2.below bF,O2.out.trans (below_only bF),g0,by have:=O2.out.size;omega,by omega,by have:=x2.lt;omega⟩
 rw [hG0] at K1
 simp only [hG0]
 clear D2 O2 HX cT RX0 FS0 ek
 generalize (w2.alloc (.cells ZL 46)).setRow G (mgV (zeroG ((kk : Nat) : Int))) = V1 at *
 have x0 : V1.cell? ⟨G,0,none⟩ = some (.int .i64 ((kk : Nat) : Int)):=K1.out.bx.cell 0 _ rfl
 have lG:=K1.out.bx.ldD
 have cHd:=cH g V1 st1 K1.out.rd
 go_upto_region 5 with (first | (go_at_call 16;((with_reducible refine cHd.mono ?_);rintro e w3 ⟨x,Lx,st2,rfl,hr3,ho3,hx3⟩;have K2:=hid (K1.out.only hr3 ho3);have H3:=hid hx3;clear hr3 ho3 hx3)) | (refine wpList_store_doc rfl _ _ rfl G x rfl rfl (zeroG ((kk : Nat) : Int)) K2.out.bx ?_))
 obtain ⟨hx0,hL0,_⟩:=H3.out.same hle
 subst hx0
 subst hL0
 have K3 : Hid (RfB V0 w.heap.size g G R l st2 (mgV (zeroG ((kk : Nat) : Int))) (w3.setRow G (mgV (zeroG ((kk : Nat) : Int))))):=K2.out.fill (mgV (zeroG ((kk : Nat) : Int)))
 clear K1 K2 x0 lG cHd cH
 generalize w3.setRow G (mgV (zeroG ((kk : Nat) : Int))) = V3 at *
 have yh:=K3.out.bx.cell 4 _ rfl
 have c_4:=rTakeId_any w.heap.size g l st2 V3 K3.out.rd
 go_upto_region 7 with (first | (go_at_call 17;(with_reducible first | refine (cId _).mono ?_ | refine (cGrp _).mono ?_ | refine (cStp _).mono ?_ | refine (cYes _).mono ?_ | refine (cNum _).mono ?_ | refine (cKey _).mono ?_ | refine (cVal _).mono ?_ | refine (cDat _).mono ?_);rintro e wu ⟨rfl,rfl⟩) | (go_at_call 18;((with_reducible refine c_4.mono ?_);rintro e w4 ⟨⟨i4,j4⟩,st4,rfl,hr,ho,hR,hz⟩;have H4:=hid (K3.out.only hr ho);have R4:=hid hR;have y4_21:=H4.out.bx.cell 21 _ rfl;have f4_21:=H4.out.bx.frozen 21;have y4_22:=H4.out.bx.cell 22 _ rfl;have f4_22:=H4.out.bx.frozen 22;  clear hz;clear hr ho hR)))
 have K4 : Hid (RfB V0 w.heap.size g G R l st4 (mgV (⟨((kk : Nat) : Int),0,0,0,false,0,0,zeroM,0,0,none,0,0,none,0,0,i4,j4,0,0,false,0,⟨#[]⟩,0,0,0,⟨#[]⟩,0,none,0,0⟩ : MgM)) (((w4.setCell ⟨G,21,none⟩ (.int .i64 i4)).setCell ⟨G,22,none⟩ (.int .i64 j4)))):=(((H4.out.set 21 (.int .i64 i4)).set 22 (.int .i64 j4))).eq (by apply Array.ext';simp only [Array.toList_setIfInBounds];rfl)
 clear H4 K3 c_4 yh y4_21 f4_21 y4_22 f4_22
 generalize ((w4.setCell ⟨G,21,none⟩ (.int .i64 i4)).setCell ⟨G,22,none⟩ (.int .i64 j4)) = V4 at *
 have yh:=K4.out.bx.cell 4 _ rfl
 have c_5:=(show Calls Tryz.prog 15 #[.pointer (some ⟨g,0,none⟩),.int .i64 1] V4 (Took1 (FS w.heap.size g l) g numV (numP 1) 0 st4 V4) from refTakeS_any w.heap.size g l 1 st4 V4 K4.out.rd (by omega))
 go_upto_region 9 with (first | (go_at_call 17;(with_reducible first | refine (cId _).mono ?_ | refine (cGrp _).mono ?_ | refine (cStp _).mono ?_ | refine (cYes _).mono ?_ | refine (cNum _).mono ?_ | refine (cKey _).mono ?_ | refine (cVal _).mono ?_ | refine (cDat _).mono ?_);rintro e wu ⟨rfl,rfl⟩) | (go_at_call 15;((with_reducible refine c_5.mono ?_);rintro e w5 ⟨z5,st5,rfl,hr,ho,hR,hz⟩;have H5:=hid (K4.out.only hr ho);have R5:=hid hR;have y5_23:=H5.out.bx.cell 23 _ rfl;have f5_23:=H5.out.bx.frozen 23;  have hb5 : z5 < 256:=num_lt hR hz (by decide);have ez5:=wrap_i64 z5 (by omega);clear hz;clear hr ho hR)))
 have K5 : Hid (RfB V0 w.heap.size g G R l st5 (mgV (⟨((kk : Nat) : Int),0,0,0,false,0,0,zeroM,0,0,none,0,0,none,0,0,i4,j4,((z5 : Nat) : Int),0,false,0,⟨#[]⟩,0,0,0,⟨#[]⟩,0,none,0,0⟩ : MgM)) ((w5.setCell ⟨G,23,none⟩ (.int .i64 ((z5 : Nat) : Int))))):=((H5.out.set 23 (.int .i64 ((z5 : Nat) : Int)))).eq (by apply Array.ext';simp only [Array.toList_setIfInBounds];rfl)
 clear H5 K4 c_5 yh y5_23 f5_23
 generalize (w5.setCell ⟨G,23,none⟩ (.int .i64 ((z5 : Nat) : Int))) = V5 at *
 have yh:=K5.out.bx.cell 4 _ rfl
 have c_6:=(show Calls Tryz.prog 15 #[.pointer (some ⟨g,0,none⟩),.int .i64 8] V5 (Took1 (FS w.heap.size g l) g numV (numP 8) 0 st5 V5) from refTakeS_any w.heap.size g l 8 st5 V5 K5.out.rd (by omega))
 go_upto_region 11 with (first | (go_at_call 17;(with_reducible first | refine (cId _).mono ?_ | refine (cGrp _).mono ?_ | refine (cStp _).mono ?_ | refine (cYes _).mono ?_ | refine (cNum _).mono ?_ | refine (cKey _).mono ?_ | refine (cVal _).mono ?_ | refine (cDat _).mono ?_);rintro e wu ⟨rfl,rfl⟩) | (go_at_call 15;((with_reducible refine c_6.mono ?_);rintro e w6 ⟨z6,st6,rfl,hr,ho,hR,hz⟩;have H6:=hid (K5.out.only hr ho);have R6:=hid hR;have y6_24:=H6.out.bx.cell 24 _ rfl;have f6_24:=H6.out.bx.frozen 24;  have hb6 : z6 < 18446744073709551616:=num_lt hR hz (by decide);clear hz;clear hr ho hR)))
 have K6 : Hid (RfB V0 w.heap.size g G R l st6 (mgV (⟨((kk : Nat) : Int),0,0,0,false,0,0,zeroM,0,0,none,0,0,none,0,0,i4,j4,((z5 : Nat) : Int),z6,false,0,⟨#[]⟩,0,0,0,⟨#[]⟩,0,none,0,0⟩ : MgM)) ((w6.setCell ⟨G,24,none⟩ (.int .u64 ((z6 : Nat) : Int))))):=((H6.out.set 24 (.int .u64 ((z6 : Nat) : Int)))).eq (by apply Array.ext';simp only [Array.toList_setIfInBounds];rfl)
 clear H6 K5 c_6 yh y6_24 f6_24
 generalize (w6.setCell ⟨G,24,none⟩ (.int .u64 ((z6 : Nat) : Int))) = V6 at *
 have hB : Bare (⟨((kk : Nat) : Int),0,0,0,false,0,0,zeroM,0,0,none,0,0,none,0,0,i4,j4,((z5 : Nat) : Int),z6,false,0,⟨#[]⟩,0,0,0,⟨#[]⟩,0,none,0,0⟩ : MgM):=⟨rfl,⟨rfl,rfl,rfl,rfl⟩,rfl⟩
 have hAt : MgAt V6 (⟨((kk : Nat) : Int),0,0,0,false,0,0,zeroM,0,0,none,0,0,none,0,0,i4,j4,((z5 : Nat) : Int),z6,false,0,⟨#[]⟩,0,0,0,⟨#[]⟩,0,none,0,0⟩ : MgM) noL:=Bare.at_ hB ⟨(by show 0 < 4294967296;decide),(by show 0 < 4294967296;decide),hb6,(by show 0 < 18446744073709551616;decide),(by show 0 < 18446744073709551616;decide),(Nat.zero_le _),(Nat.zero_le _)⟩
 have hMF : MgF (⟨((kk : Nat) : Int),0,0,0,false,0,0,zeroM,0,0,none,0,0,none,0,0,i4,j4,((z5 : Nat) : Int),z6,false,0,⟨#[]⟩,0,0,0,⟨#[]⟩,0,none,0,0⟩ : MgM):=hB.f
 have hRes : Res rdD (some l) (mgT (⟨((kk : Nat) : Int),0,0,0,false,0,0,zeroM,0,0,none,0,0,none,0,0,i4,j4,((z5 : Nat) : Int),z6,false,0,⟨#[]⟩,0,0,0,⟨#[]⟩,0,none,0,0⟩ : MgM) noL) st6:=by
  refine Res.bind (x:=((kk : Nat) : Int)) (res_numI R2.out) ?_
  rw [HLS.out,fldsD_app]
  exact Res.bind (x:=mgT (zeroG ((kk : Nat) : Int)) noL) H3.out.res (Res.bind (x:=mgT ((⟨((kk : Nat) : Int),0,0,0,false,0,0,zeroM,0,0,none,0,0,none,0,0,i4,j4,0,0,false,0,⟨#[]⟩,0,0,0,⟨#[]⟩,0,none,0,0⟩ : MgM) : MgM) noL) (Res.bind (x:=(i4,j4)) R4.out (Res.pure _ _)) (Res.bind (x:=mgT ((⟨((kk : Nat) : Int),0,0,0,false,0,0,zeroM,0,0,none,0,0,none,0,0,i4,j4,((z5 : Nat) : Int),0,false,0,⟨#[]⟩,0,0,0,⟨#[]⟩,0,none,0,0⟩ : MgM) : MgM) noL) (Res.bind (x:=((z5 : Nat) : Int)) (res_numI R5.out) (Res.pure _ _)) (Res.bind (x:=mgT ((⟨((kk : Nat) : Int),0,0,0,false,0,0,zeroM,0,0,none,0,0,none,0,0,i4,j4,((z5 : Nat) : Int),z6,false,0,⟨#[]⟩,0,0,0,⟨#[]⟩,0,none,0,0⟩ : MgM) : MgM) noL) (Res.bind (x:=z6) R6.out (Res.pure _ _)) (Res.pure _ _))))
 have hMn:=hAt.ok
 have BV : Below w.heap.size w V6:=Only.below BEL.out K6.out.onl (by have:=GW.out;omega) BEL.out.size
 have lG:=K6.out.bx.ldD
 have wr0:=rWrite_any hAt hMF
 have HAT:=hid hAt
 have HMF:=hid hMF
 by_cases hf : formMg (mgT (⟨((kk : Nat) : Int),0,0,0,false,0,0,zeroM,0,0,none,0,0,none,0,0,i4,j4,((z5 : Nat) : Int),z6,false,0,⟨#[]⟩,0,0,0,⟨#[]⟩,0,none,0,0⟩ : MgM) noL) = true
 ·by_cases he : mgB (mgT (⟨((kk : Nat) : Int),0,0,0,false,0,0,zeroM,0,0,none,0,0,none,0,0,i4,j4,((z5 : Nat) : Int),z6,false,0,⟨#[]⟩,0,0,0,⟨#[]⟩,0,none,0,0⟩ : MgM) noL) = l
  ·have hyes:=hid (doc_yes hMn hf he)
   have cW : Calls Tryz.prog 21 #[.agg (mgV (⟨((kk : Nat) : Int),0,0,0,false,0,0,zeroM,0,0,none,0,0,none,0,0,i4,j4,((z5 : Nat) : Int),z6,false,0,⟨#[]⟩,0,0,0,⟨#[]⟩,0,none,0,0⟩ : MgM))] V6 fun e w' => ∃ a n c,e = .returned (.tuple #[.slice a n c,.int .i64 0])∧w'.ownsRow V6.heap.size 5 1 (.slice a n c) n (bcells l)∧Below V6.heap.size V6 w':=by rw [hf,he] at wr0;exact wr0
   have cS : ∀ (U : World) (a' : Option Addr) (n' c' : Nat),BAt U U.heap.size a' n' l→BAt U U.heap.size a n l→n'≤maxLen→Calls Tryz.prog 22 #[.slice a n c,.slice a' n' c'] U (Reads1 U (.bool true)):=fun U a' n' c' h1 h2 h3=>by
    have h:=same_any a a' n n' c c' _ _ l l U h2 h1 HNM.out h3
    rw [decide_eq_true rfl] at h;exact h
   clear wr0 hMn hf he hAt hMF
   go_wp2_with (first | (go_at_call 17;(with_reducible first | refine (cId _).mono ?_ | refine (cGrp _).mono ?_ | refine (cStp _).mono ?_ | refine (cYes _).mono ?_ | refine (cNum _).mono ?_ | refine (cKey _).mono ?_ | refine (cVal _).mono ?_ | refine (cDat _).mono ?_);rintro e wu ⟨rfl,rfl⟩) | (go_at_call 21;((with_reducible refine cW.mono ?_);rintro e w8 ⟨a8,n8,c8,rfl,ho8,hb8⟩;have O8:=hid (BAt.of_own ho8);have M8:=hid (Nat.le_trans (own_caps ho8).1 (own_caps ho8).2);have X8:=hid (K6.out.bx.below hb8);have R8:=hid (K6.out.rx.below hb8);have B8:=hid hb8;have L8:=X8.out.ldD;have I8 : Hid (BAt w8 w8.heap.size a n l):=(HL.out.below (BV.trans (hb8.mono BV.size)) (Nat.le_refl _)).more (BV.trans (hb8.mono BV.size)).size;clear ho8 hb8)) | (go_at_call 22;((with_reducible refine (cS w8 a8 n8 c8 O8.out I8.out M8.out).mono ?_);rintro e w9 ⟨rfl,q9,rfl⟩;have X9 : Hid (BoxC (w8.drewN q9) G (mgV (⟨((kk : Nat) : Int),0,0,0,false,0,0,zeroM,0,0,none,0,0,none,0,0,i4,j4,((z5 : Nat) : Int),z6,false,0,⟨#[]⟩,0,0,0,⟨#[]⟩,0,none,0,0⟩ : MgM)) 46):=X8.out;have R9 : Hid (BoxC (w8.drewN q9) R (mgV (zeroG 0)) 46):=R8.out;have L9:=X9.out.ldD)) | (refine wpList_store_doc rfl _ _ rfl R (⟨((kk : Nat) : Int),0,0,0,false,0,0,zeroM,0,0,none,0,0,none,0,0,i4,j4,((z5 : Nat) : Int),z6,false,0,⟨#[]⟩,0,0,0,⟨#[]⟩,0,none,0,0⟩ : MgM) rfl rfl (zeroG 0) R9.out ?_))
   exact bodyPost_ret (v:=.tuple #[.agg (mgV (⟨((kk : Nat) : Int),0,0,0,false,0,0,zeroM,0,0,none,0,0,none,0,0,i4,j4,((z5 : Nat) : Int),z6,false,0,⟨#[]⟩,0,0,0,⟨#[]⟩,0,none,0,0⟩ : MgM)),.int .i64 0]) (results_mgD Tryz.results6 _ _ R (⟨((kk : Nat) : Int),0,0,0,false,0,0,zeroM,0,0,none,0,0,none,0,0,i4,j4,((z5 : Nat) : Int),z6,false,0,⟨#[]⟩,0,0,0,⟨#[]⟩,0,none,0,0⟩ : MgM) rfl (R9.out.fill _)) rfl ⟨.inl ⟨(⟨((kk : Nat) : Int),0,0,0,false,0,0,zeroM,0,0,none,0,0,none,0,0,i4,j4,((z5 : Nat) : Int),z6,false,0,⟨#[]⟩,0,0,0,⟨#[]⟩,0,none,0,0⟩ : MgM),noL,rfl,(HAT.out.later (B8.out.trans (below_drewN q9 (Below.refl _ _)))).fill2 R9.out fst_nil fst_nil,HMF.out,hyes.out⟩,Only.below (BV.trans ((B8.out.trans (below_drewN q9 (Below.refl _ _))).mono BV.size)) (only_fill _ _ _) (by have:=RW.out;omega) (BV.trans (B8.out.mono BV.size)).size⟩
  ·have hno:=hid (doc_no hRes (.inr he))
   have cW : Calls Tryz.prog 21 #[.agg (mgV (⟨((kk : Nat) : Int),0,0,0,false,0,0,zeroM,0,0,none,0,0,none,0,0,i4,j4,((z5 : Nat) : Int),z6,false,0,⟨#[]⟩,0,0,0,⟨#[]⟩,0,none,0,0⟩ : MgM))] V6 fun e w' => ∃ a n c,e = .returned (.tuple #[.slice a n c,.int .i64 0])∧w'.ownsRow V6.heap.size 5 1 (.slice a n c) n (bcells (mgB (mgT (⟨((kk : Nat) : Int),0,0,0,false,0,0,zeroM,0,0,none,0,0,none,0,0,i4,j4,((z5 : Nat) : Int),z6,false,0,⟨#[]⟩,0,0,0,⟨#[]⟩,0,none,0,0⟩ : MgM) noL)))∧Below V6.heap.size V6 w':=by rw [hf] at wr0;exact wr0
   have cS : ∀ (U : World) (a' : Option Addr) (n' c' : Nat),BAt U U.heap.size a' n' (mgB (mgT (⟨((kk : Nat) : Int),0,0,0,false,0,0,zeroM,0,0,none,0,0,none,0,0,i4,j4,((z5 : Nat) : Int),z6,false,0,⟨#[]⟩,0,0,0,⟨#[]⟩,0,none,0,0⟩ : MgM) noL))→BAt U U.heap.size a n l→n'≤maxLen→Calls Tryz.prog 22 #[.slice a n c,.slice a' n' c'] U (Reads1 U (.bool false)):=fun U a' n' c' h1 h2 h3=>by
    have h:=same_any a a' n n' c c' _ _ l (mgB (mgT (⟨((kk : Nat) : Int),0,0,0,false,0,0,zeroM,0,0,none,0,0,none,0,0,i4,j4,((z5 : Nat) : Int),z6,false,0,⟨#[]⟩,0,0,0,⟨#[]⟩,0,none,0,0⟩ : MgM) noL)) U h2 h1 HNM.out h3
    rw [decide_eq_false (fun e=>he e.symm)] at h;exact h
   clear wr0 hMn hf he hAt hMF
   go_wp2_with (first | (go_at_call 17;(with_reducible first | refine (cId _).mono ?_ | refine (cGrp _).mono ?_ | refine (cStp _).mono ?_ | refine (cYes _).mono ?_ | refine (cNum _).mono ?_ | refine (cKey _).mono ?_ | refine (cVal _).mono ?_ | refine (cDat _).mono ?_);rintro e wu ⟨rfl,rfl⟩) | (go_at_call 21;((with_reducible refine cW.mono ?_);rintro e w8 ⟨a8,n8,c8,rfl,ho8,hb8⟩;have O8:=hid (BAt.of_own ho8);have M8:=hid (Nat.le_trans (own_caps ho8).1 (own_caps ho8).2);have X8:=hid (K6.out.bx.below hb8);have R8:=hid (K6.out.rx.below hb8);have B8:=hid hb8;have L8:=X8.out.ldD;have I8 : Hid (BAt w8 w8.heap.size a n l):=(HL.out.below (BV.trans (hb8.mono BV.size)) (Nat.le_refl _)).more (BV.trans (hb8.mono BV.size)).size;clear ho8 hb8)) | (go_at_call 22;((with_reducible refine (cS w8 a8 n8 c8 O8.out I8.out M8.out).mono ?_);rintro e w9 ⟨rfl,q9,rfl⟩;have X9 : Hid (BoxC (w8.drewN q9) G (mgV (⟨((kk : Nat) : Int),0,0,0,false,0,0,zeroM,0,0,none,0,0,none,0,0,i4,j4,((z5 : Nat) : Int),z6,false,0,⟨#[]⟩,0,0,0,⟨#[]⟩,0,none,0,0⟩ : MgM)) 46):=X8.out;have R9 : Hid (BoxC (w8.drewN q9) R (mgV (zeroG 0)) 46):=R8.out;have L9:=X9.out.ldD)) | (refine wpList_store_doc rfl _ _ rfl R (zeroG 0) rfl rfl (zeroG 0) R9.out ?_))
   exact bodyPost_ret (v:=.tuple #[.agg (mgV (zeroG 0)),.int .i64 2]) (results_mgD Tryz.results6 _ _ R (zeroG 0) rfl (R9.out.fill _)) rfl ⟨.inr ⟨rfl,hno.out⟩,Only.below (BV.trans ((B8.out.trans (below_drewN q9 (Below.refl _ _))).mono BV.size)) (only_fill _ _ _) (by have:=RW.out;omega) (BV.trans (B8.out.mono BV.size)).size⟩
 ·have hf2 : formMg (mgT (⟨((kk : Nat) : Int),0,0,0,false,0,0,zeroM,0,0,none,0,0,none,0,0,i4,j4,((z5 : Nat) : Int),z6,false,0,⟨#[]⟩,0,0,0,⟨#[]⟩,0,none,0,0⟩ : MgM) noL) = false:=by simpa using hf
  have hno:=hid (doc_no hRes (.inl hf2))
  have cW : Calls Tryz.prog 21 #[.agg (mgV (⟨((kk : Nat) : Int),0,0,0,false,0,0,zeroM,0,0,none,0,0,none,0,0,i4,j4,((z5 : Nat) : Int),z6,false,0,⟨#[]⟩,0,0,0,⟨#[]⟩,0,none,0,0⟩ : MgM))] V6 fun e w' => ∃ a n c,e = .returned (.tuple #[.slice a n c,.int .i64 2])∧w'.ownsRow V6.heap.size 5 1 (.slice a n c) n (bcells [])∧Below V6.heap.size V6 w':=by rw [hf2] at wr0;exact wr0
  clear wr0 hMn hf hf2 hAt hMF
  go_wp2_with (first | (go_at_call 17;(with_reducible first | refine (cId _).mono ?_ | refine (cGrp _).mono ?_ | refine (cStp _).mono ?_ | refine (cYes _).mono ?_ | refine (cNum _).mono ?_ | refine (cKey _).mono ?_ | refine (cVal _).mono ?_ | refine (cDat _).mono ?_);rintro e wu ⟨rfl,rfl⟩) | (go_at_call 21;((with_reducible refine cW.mono ?_);rintro e w8 ⟨a8,n8,c8,rfl,ho8,hb8⟩;have O8:=hid (BAt.of_own ho8);have M8:=hid (Nat.le_trans (own_caps ho8).1 (own_caps ho8).2);have X8:=hid (K6.out.bx.below hb8);have R8:=hid (K6.out.rx.below hb8);have B8:=hid hb8;have L8:=X8.out.ldD;have I8 : Hid (BAt w8 w8.heap.size a n l):=(HL.out.below (BV.trans (hb8.mono BV.size)) (Nat.le_refl _)).more (BV.trans (hb8.mono BV.size)).size;clear ho8 hb8)) | (refine wpList_store_doc rfl _ _ rfl R (zeroG 0) rfl rfl (zeroG 0) R8.out ?_))
  exact bodyPost_ret (v:=.tuple #[.agg (mgV (zeroG 0)),.int .i64 2]) (results_mgD Tryz.results6 _ _ R (zeroG 0) rfl (R8.out.fill _)) rfl ⟨.inr ⟨rfl,hno.out⟩,Only.below (BV.trans (B8.out.mono BV.size)) (only_fill _ _ _) (by have:=RW.out;omega) (BV.trans (B8.out.mono BV.size)).size⟩
theorem read_igy (a : Option Addr) (n c kk : Nat) (l : List UInt8) (w : World) (hl : BAt w w.heap.size a n l) (hn : n≤70000) (hnc : n≤c) (hcm : c≤maxLen) (hk : kk < 256) (hz : ∀ z st1,Res (numP 1) (some l) z st1→(st1 = none→z = 0)→kk = z) (ls : List Nat) (hls : lets (letters ((kk : Nat) : Int)) = ls ++ [105,103,121]) (hle : ls = []) (uId : uId ((kk : Nat) : Int) = true) (uGrp : uGrp ((kk : Nat) : Int) = true) (uStp : uStp ((kk : Nat) : Int) = false) (uYes : uYes ((kk : Nat) : Int) = true) (uNum : uNum ((kk : Nat) : Int) = false) (uKey : uKey ((kk : Nat) : Int) = false) (uVal : uVal ((kk : Nat) : Int) = false) (uDat : uDat ((kk : Nat) : Int) = false)
  (cH : ∀ (g : Nat) (W : World) (st1 : St),FS w.heap.size g l st1 W→Calls Tryz.prog 16 #[.pointer (some ⟨g,0,none⟩),.agg (mgV (zeroG ((kk : Nat) : Int)))] W (HeadR W w.heap.size g l ((kk : Nat) : Int) ls st1)) :
  Calls Tryz.prog 6 #[.slice a n c] w (ReadR w l):=by
 obtain ⟨R,hR0⟩ : ∃ R,w.heap.size = R:=⟨_,rfl⟩
 obtain ⟨g,hg0⟩ : ∃ g,R + 1 = g:=⟨_,rfl⟩
 have b1 : Below w.heap.size w (w.alloc (.cells ZL 46)):=(Below.refl _ _).alloc (Nat.le_refl _) _
 have s1 : (w.alloc (.cells ZL 46)).heap.size = w.heap.size + 1:=by simp
 have BEL : Hid (Below w.heap.size w ((w.alloc (.cells ZL 46)).alloc (.cells #[.slice a n c,.int .i64 0,.bool false] 61))):=b1.alloc b1.size _
 have RX0 : Hid (BoxC ((w.alloc (.cells ZL 46)).alloc (.cells #[.slice a n c,.int .i64 0,.bool false] 61)) R (mgV (zeroG 0)) 46):=by
  have h : BoxC (w.alloc (.cells ZL 46)) w.heap.size ZL 46:=BoxC.new w ZL 46
  rw [hR0] at h
  exact h.below ((Below.refl _ _).alloc (Nat.le_refl _) _)
 have FS0 : Hid (FS w.heap.size g l (some l) ((w.alloc (.cells ZL 46)).alloc (.cells #[.slice a n c,.int .i64 0,.bool false] 61))):=by
  refine ⟨0,⟨a,n,c,?_,hnc,hcm,hl.below BEL.out (Nat.le_refl _),Nat.zero_le _,by omega⟩,fun l' e=>by injection e with e;rw [e];rfl⟩
  have h:=BoxC.new (w.alloc (.cells ZL 46)) #[.slice a n c,.int .i64 0,.bool false] 61
  rw [s1,hR0,hg0] at h
  exact h
 have HL:=hid hl
 have HNM : Hid (n≤maxLen):=Nat.le_trans hnc hcm
 have HN7:=hid hn
 have HNC:=hid hnc
 have HCM:=hid hcm
 have RW : Hid (w.heap.size≤R):=by unfold Hid;omega
 have GW : Hid (w.heap.size≤g):=by unfold Hid;omega
 have GR : Hid (R < g):=by unfold Hid;omega
 have HK:=hid hk
 have HZ:=hid hz
 have HLS:=hid hls
 have cId:=fun V=>useId_any ((kk : Nat) : Int) V
 rw [uId] at cId
 have cGrp:=fun V=>useGrp_any ((kk : Nat) : Int) V
 rw [uGrp] at cGrp
 have cStp:=fun V=>useStp_any ((kk : Nat) : Int) V
 rw [uStp] at cStp
 have cYes:=fun V=>useYes_any ((kk : Nat) : Int) V
 rw [uYes] at cYes
 have cNum:=fun V=>useNum_any ((kk : Nat) : Int) V
 rw [uNum] at cNum
 have cKey:=fun V=>useKey_any ((kk : Nat) : Int) V
 rw [uKey] at cKey
 have cVal:=fun V=>useVal_any ((kk : Nat) : Int) V
 rw [uVal] at cVal
 have cDat:=fun V=>useDat_any ((kk : Nat) : Int) V
 rw [uDat] at cDat
 clear hl hn hnc hcm hk hz hls b1 s1 uId uGrp uStp uYes uNum uKey uVal uDat
 go_enter Tryz.func6,Tryz.ntmps6
 go_upto_region 2 with fail
 generalize hV0 : (w.alloc (.cells ZL 46)).alloc (.cells #[.slice a n c,.int .i64 0,.bool false] 61) = V0 at *
 clear hV0
 have cT : Calls Tryz.prog 15 #[.pointer (some ⟨g,0,none⟩),.int .i64 1] V0 (Took1 (FS w.heap.size g l) g numV (numP 1) 0 (some l) V0):=refTakeS_any w.heap.size g l 1 (some l) V0 FS0.out (by omega)
 go_upto_region 3 with (first | (go_at_call 15;((with_reducible refine cT.mono ?_);rintro e w2 ⟨z,st1,rfl,hr2,ho2,hR2,hz2⟩;obtain rfl : kk = z:=HZ.out z st1 hR2 hz2;have D2:=hid hr2;have O2:=hid ho2;have R2:=hid hR2;have hk:=HK.out;have ek:=wrap_i64 kk (by omega);have HX : Hid (BoxC (w2.alloc (.cells ZL 46)) w2.heap.size (mgV (zeroG 0)) 46):=BoxC.new w2 _ _;clear hr2 ho2 hR2 hz2)) | (refine wpList_store_doc rfl _ _ rfl w2.heap.size (zeroG ((kk : Nat) : Int)) rfl rfl (zeroG 0) HX.out ?_))
 obtain ⟨G,hG0⟩ : ∃ G,w2.heap.size = G:=⟨_,rfl⟩
 have g0 : g < V0.heap.size:=FS0.out.lt
 have K1 : Hid (RfB V0 w.heap.size g G R l st1 (mgV (zeroG ((kk : Nat) : Int))) ((w2.alloc (.cells ZL 46)).setRow w2.heap.size (mgV (zeroG ((kk : Nat) : Int))))):=by
  have g2 : g < w2.heap.size:=D2.out.lt
  have hgr:=GR.out
  have oF:=only_fill (w2.alloc (.cells ZL 46)) w2.heap.size (mgV (zeroG ((kk : Nat) : Int)))
  have bA : Below w2.heap.size w2 (w2.alloc (.cells ZL 46)):=(Below.refl _ _).alloc (Nat.le_refl _) _
  have bF : Below w2.heap.size w2 ((w2.alloc (.cells ZL 46)).setRow w2.heap.size (mgV (zeroG ((kk : Nat) : Int)))):=Only.below bA oF (Nat.le_refl _) bA.size
  have x2 : BoxC w2 R (mgV (zeroG 0)) 46:=RX0.out.only O2.out (by omega)
  exact ⟨Keep.keep (g:=g) w2 _ D2.out fun b hb=>bF.block b (by omega),by rw [← hG0];exact HX.out.fill _,x2.below bF,O2.out.trans (below_only bF),g0,by have:=O2.out.size;omega,by omega,by have:=x2.lt;omega⟩
 rw [hG0] at K1
 simp only [hG0]
 clear D2 O2 HX cT RX0 FS0 ek
 generalize (w2.alloc (.cells ZL 46)).setRow G (mgV (zeroG ((kk : Nat) : Int))) = V1 at *
 have x0 : V1.cell? ⟨G,0,none⟩ = some (.int .i64 ((kk : Nat) : Int)):=K1.out.bx.cell 0 _ rfl
 have lG:=K1.out.bx.ldD
 have cHd:=cH g V1 st1 K1.out.rd
 go_upto_region 5 with (first | (go_at_call 16;((with_reducible refine cHd.mono ?_);rintro e w3 ⟨x,Lx,st2,rfl,hr3,ho3,hx3⟩;have K2:=hid (K1.out.only hr3 ho3);have H3:=hid hx3;clear hr3 ho3 hx3)) | (refine wpList_store_doc rfl _ _ rfl G x rfl rfl (zeroG ((kk : Nat) : Int)) K2.out.bx ?_))
 obtain ⟨hx0,hL0,_⟩:=H3.out.same hle
 subst hx0
 subst hL0
 have K3 : Hid (RfB V0 w.heap.size g G R l st2 (mgV (zeroG ((kk : Nat) : Int))) (w3.setRow G (mgV (zeroG ((kk : Nat) : Int))))):=K2.out.fill (mgV (zeroG ((kk : Nat) : Int)))
 clear K1 K2 x0 lG cHd cH
 generalize w3.setRow G (mgV (zeroG ((kk : Nat) : Int))) = V3 at *
 have yh:=K3.out.bx.cell 4 _ rfl
 have c_4:=rTakeId_any w.heap.size g l st2 V3 K3.out.rd
 go_upto_region 7 with (first | (go_at_call 17;(with_reducible first | refine (cId _).mono ?_ | refine (cGrp _).mono ?_ | refine (cStp _).mono ?_ | refine (cYes _).mono ?_ | refine (cNum _).mono ?_ | refine (cKey _).mono ?_ | refine (cVal _).mono ?_ | refine (cDat _).mono ?_);rintro e wu ⟨rfl,rfl⟩) | (go_at_call 18;((with_reducible refine c_4.mono ?_);rintro e w4 ⟨⟨i4,j4⟩,st4,rfl,hr,ho,hR,hz⟩;have H4:=hid (K3.out.only hr ho);have R4:=hid hR;have y4_21:=H4.out.bx.cell 21 _ rfl;have f4_21:=H4.out.bx.frozen 21;have y4_22:=H4.out.bx.cell 22 _ rfl;have f4_22:=H4.out.bx.frozen 22;  clear hz;clear hr ho hR)))
 have K4 : Hid (RfB V0 w.heap.size g G R l st4 (mgV (⟨((kk : Nat) : Int),0,0,0,false,0,0,zeroM,0,0,none,0,0,none,0,0,i4,j4,0,0,false,0,⟨#[]⟩,0,0,0,⟨#[]⟩,0,none,0,0⟩ : MgM)) (((w4.setCell ⟨G,21,none⟩ (.int .i64 i4)).setCell ⟨G,22,none⟩ (.int .i64 j4)))):=(((H4.out.set 21 (.int .i64 i4)).set 22 (.int .i64 j4))).eq (by apply Array.ext';simp only [Array.toList_setIfInBounds];rfl)
 clear H4 K3 c_4 yh y4_21 f4_21 y4_22 f4_22
 generalize ((w4.setCell ⟨G,21,none⟩ (.int .i64 i4)).setCell ⟨G,22,none⟩ (.int .i64 j4)) = V4 at *
 have yh:=K4.out.bx.cell 4 _ rfl
 have c_5:=(show Calls Tryz.prog 15 #[.pointer (some ⟨g,0,none⟩),.int .i64 1] V4 (Took1 (FS w.heap.size g l) g numV (numP 1) 0 st4 V4) from refTakeS_any w.heap.size g l 1 st4 V4 K4.out.rd (by omega))
 go_upto_region 9 with (first | (go_at_call 17;(with_reducible first | refine (cId _).mono ?_ | refine (cGrp _).mono ?_ | refine (cStp _).mono ?_ | refine (cYes _).mono ?_ | refine (cNum _).mono ?_ | refine (cKey _).mono ?_ | refine (cVal _).mono ?_ | refine (cDat _).mono ?_);rintro e wu ⟨rfl,rfl⟩) | (go_at_call 15;((with_reducible refine c_5.mono ?_);rintro e w5 ⟨z5,st5,rfl,hr,ho,hR,hz⟩;have H5:=hid (K4.out.only hr ho);have R5:=hid hR;have y5_23:=H5.out.bx.cell 23 _ rfl;have f5_23:=H5.out.bx.frozen 23;  have hb5 : z5 < 256:=num_lt hR hz (by decide);have ez5:=wrap_i64 z5 (by omega);clear hz;clear hr ho hR)))
 have K5 : Hid (RfB V0 w.heap.size g G R l st5 (mgV (⟨((kk : Nat) : Int),0,0,0,false,0,0,zeroM,0,0,none,0,0,none,0,0,i4,j4,((z5 : Nat) : Int),0,false,0,⟨#[]⟩,0,0,0,⟨#[]⟩,0,none,0,0⟩ : MgM)) ((w5.setCell ⟨G,23,none⟩ (.int .i64 ((z5 : Nat) : Int))))):=((H5.out.set 23 (.int .i64 ((z5 : Nat) : Int)))).eq (by apply Array.ext';simp only [Array.toList_setIfInBounds];rfl)
 clear H5 K4 c_5 yh y5_23 f5_23
 generalize (w5.setCell ⟨G,23,none⟩ (.int .i64 ((z5 : Nat) : Int))) = V5 at *
 have yh:=K5.out.bx.cell 4 _ rfl
 have c_6:=(show Calls Tryz.prog 15 #[.pointer (some ⟨g,0,none⟩),.int .i64 1] V5 (Took1 (FS w.heap.size g l) g numV (numP 1) 0 st5 V5) from refTakeS_any w.heap.size g l 1 st5 V5 K5.out.rd (by omega))
 go_upto_region 13 with (first | (go_at_call 17;(with_reducible first | refine (cId _).mono ?_ | refine (cGrp _).mono ?_ | refine (cStp _).mono ?_ | refine (cYes _).mono ?_ | refine (cNum _).mono ?_ | refine (cKey _).mono ?_ | refine (cVal _).mono ?_ | refine (cDat _).mono ?_);rintro e wu ⟨rfl,rfl⟩) | (go_at_call 15;((with_reducible refine c_6.mono ?_);rintro e w6 ⟨z6,st6,rfl,hr,ho,hR,hz⟩;have H6:=hid (K5.out.only hr ho);have R6:=hid hR;have y6_25:=H6.out.bx.cell 25 _ rfl;have f6_25:=H6.out.bx.frozen 25;  clear hz;clear hr ho hR)))
 have K6 : Hid (RfB V0 w.heap.size g G R l st6 (mgV (⟨((kk : Nat) : Int),0,0,0,false,0,0,zeroM,0,0,none,0,0,none,0,0,i4,j4,((z5 : Nat) : Int),0,(((z6 : Nat) : Int) == 1),0,⟨#[]⟩,0,0,0,⟨#[]⟩,0,none,0,0⟩ : MgM)) ((w6.setCell ⟨G,25,none⟩ (.bool (((z6 : Nat) : Int) == 1))))):=((H6.out.set 25 (.bool (((z6 : Nat) : Int) == 1)))).eq (by apply Array.ext';simp only [Array.toList_setIfInBounds];rfl)
 clear H6 K5 c_6 yh y6_25 f6_25
 generalize (w6.setCell ⟨G,25,none⟩ (.bool (((z6 : Nat) : Int) == 1))) = V6 at *
 rw [beq_dec z6] at K6
 have hB : Bare (⟨((kk : Nat) : Int),0,0,0,false,0,0,zeroM,0,0,none,0,0,none,0,0,i4,j4,((z5 : Nat) : Int),0,(decide (z6 = 1)),0,⟨#[]⟩,0,0,0,⟨#[]⟩,0,none,0,0⟩ : MgM):=⟨rfl,⟨rfl,rfl,rfl,rfl⟩,rfl⟩
 have hAt : MgAt V6 (⟨((kk : Nat) : Int),0,0,0,false,0,0,zeroM,0,0,none,0,0,none,0,0,i4,j4,((z5 : Nat) : Int),0,(decide (z6 = 1)),0,⟨#[]⟩,0,0,0,⟨#[]⟩,0,none,0,0⟩ : MgM) noL:=Bare.at_ hB ⟨(by show 0 < 4294967296;decide),(by show 0 < 4294967296;decide),(by show 0 < 18446744073709551616;decide),(by show 0 < 18446744073709551616;decide),(by show 0 < 18446744073709551616;decide),(Nat.zero_le _),(Nat.zero_le _)⟩
 have hMF : MgF (⟨((kk : Nat) : Int),0,0,0,false,0,0,zeroM,0,0,none,0,0,none,0,0,i4,j4,((z5 : Nat) : Int),0,(decide (z6 = 1)),0,⟨#[]⟩,0,0,0,⟨#[]⟩,0,none,0,0⟩ : MgM):=hB.f
 have hRes : Res rdD (some l) (mgT (⟨((kk : Nat) : Int),0,0,0,false,0,0,zeroM,0,0,none,0,0,none,0,0,i4,j4,((z5 : Nat) : Int),0,(decide (z6 = 1)),0,⟨#[]⟩,0,0,0,⟨#[]⟩,0,none,0,0⟩ : MgM) noL) st6:=by
  refine Res.bind (x:=((kk : Nat) : Int)) (res_numI R2.out) ?_
  rw [HLS.out,fldsD_app]
  exact Res.bind (x:=mgT (zeroG ((kk : Nat) : Int)) noL) H3.out.res (Res.bind (x:=mgT ((⟨((kk : Nat) : Int),0,0,0,false,0,0,zeroM,0,0,none,0,0,none,0,0,i4,j4,0,0,false,0,⟨#[]⟩,0,0,0,⟨#[]⟩,0,none,0,0⟩ : MgM) : MgM) noL) (Res.bind (x:=(i4,j4)) R4.out (Res.pure _ _)) (Res.bind (x:=mgT ((⟨((kk : Nat) : Int),0,0,0,false,0,0,zeroM,0,0,none,0,0,none,0,0,i4,j4,((z5 : Nat) : Int),0,false,0,⟨#[]⟩,0,0,0,⟨#[]⟩,0,none,0,0⟩ : MgM) : MgM) noL) (Res.bind (x:=((z5 : Nat) : Int)) (res_numI R5.out) (Res.pure _ _)) (Res.bind (x:=mgT ((⟨((kk : Nat) : Int),0,0,0,false,0,0,zeroM,0,0,none,0,0,none,0,0,i4,j4,((z5 : Nat) : Int),0,(decide (z6 = 1)),0,⟨#[]⟩,0,0,0,⟨#[]⟩,0,none,0,0⟩ : MgM) : MgM) noL) (Res.bind (x:=z6) R6.out (Res.pure _ _)) (Res.pure _ _))))
 have hMn:=hAt.ok
 have BV : Below w.heap.size w V6:=Only.below BEL.out K6.out.onl (by have:=GW.out;omega) BEL.out.size
 have lG:=K6.out.bx.ldD
 have wr0:=rWrite_any hAt hMF
 have HAT:=hid hAt
 have HMF:=hid hMF
 by_cases hf : formMg (mgT (⟨((kk : Nat) : Int),0,0,0,false,0,0,zeroM,0,0,none,0,0,none,0,0,i4,j4,((z5 : Nat) : Int),0,(decide (z6 = 1)),0,⟨#[]⟩,0,0,0,⟨#[]⟩,0,none,0,0⟩ : MgM) noL) = true
 ·by_cases he : mgB (mgT (⟨((kk : Nat) : Int),0,0,0,false,0,0,zeroM,0,0,none,0,0,none,0,0,i4,j4,((z5 : Nat) : Int),0,(decide (z6 = 1)),0,⟨#[]⟩,0,0,0,⟨#[]⟩,0,none,0,0⟩ : MgM) noL) = l
  ·have hyes:=hid (doc_yes hMn hf he)
   have cW : Calls Tryz.prog 21 #[.agg (mgV (⟨((kk : Nat) : Int),0,0,0,false,0,0,zeroM,0,0,none,0,0,none,0,0,i4,j4,((z5 : Nat) : Int),0,(decide (z6 = 1)),0,⟨#[]⟩,0,0,0,⟨#[]⟩,0,none,0,0⟩ : MgM))] V6 fun e w' => ∃ a n c,e = .returned (.tuple #[.slice a n c,.int .i64 0])∧w'.ownsRow V6.heap.size 5 1 (.slice a n c) n (bcells l)∧Below V6.heap.size V6 w':=by rw [hf,he] at wr0;exact wr0
   have cS : ∀ (U : World) (a' : Option Addr) (n' c' : Nat),BAt U U.heap.size a' n' l→BAt U U.heap.size a n l→n'≤maxLen→Calls Tryz.prog 22 #[.slice a n c,.slice a' n' c'] U (Reads1 U (.bool true)):=fun U a' n' c' h1 h2 h3=>by
    have h:=same_any a a' n n' c c' _ _ l l U h2 h1 HNM.out h3
    rw [decide_eq_true rfl] at h;exact h
   clear wr0 hMn hf he hAt hMF
   go_wp2_with (first | (go_at_call 17;(with_reducible first | refine (cId _).mono ?_ | refine (cGrp _).mono ?_ | refine (cStp _).mono ?_ | refine (cYes _).mono ?_ | refine (cNum _).mono ?_ | refine (cKey _).mono ?_ | refine (cVal _).mono ?_ | refine (cDat _).mono ?_);rintro e wu ⟨rfl,rfl⟩) | (go_at_call 21;((with_reducible refine cW.mono ?_);rintro e w8 ⟨a8,n8,c8,rfl,ho8,hb8⟩;have O8:=hid (BAt.of_own ho8);have M8:=hid (Nat.le_trans (own_caps ho8).1 (own_caps ho8).2);have X8:=hid (K6.out.bx.below hb8);have R8:=hid (K6.out.rx.below hb8);have B8:=hid hb8;have L8:=X8.out.ldD;have I8 : Hid (BAt w8 w8.heap.size a n l):=(HL.out.below (BV.trans (hb8.mono BV.size)) (Nat.le_refl _)).more (BV.trans (hb8.mono BV.size)).size;clear ho8 hb8)) | (go_at_call 22;((with_reducible refine (cS w8 a8 n8 c8 O8.out I8.out M8.out).mono ?_);rintro e w9 ⟨rfl,q9,rfl⟩;have X9 : Hid (BoxC (w8.drewN q9) G (mgV (⟨((kk : Nat) : Int),0,0,0,false,0,0,zeroM,0,0,none,0,0,none,0,0,i4,j4,((z5 : Nat) : Int),0,(decide (z6 = 1)),0,⟨#[]⟩,0,0,0,⟨#[]⟩,0,none,0,0⟩ : MgM)) 46):=X8.out;have R9 : Hid (BoxC (w8.drewN q9) R (mgV (zeroG 0)) 46):=R8.out;have L9:=X9.out.ldD)) | (refine wpList_store_doc rfl _ _ rfl R (⟨((kk : Nat) : Int),0,0,0,false,0,0,zeroM,0,0,none,0,0,none,0,0,i4,j4,((z5 : Nat) : Int),0,(decide (z6 = 1)),0,⟨#[]⟩,0,0,0,⟨#[]⟩,0,none,0,0⟩ : MgM) rfl rfl (zeroG 0) R9.out ?_))
   exact bodyPost_ret (v:=.tuple #[.agg (mgV (⟨((kk : Nat) : Int),0,0,0,false,0,0,zeroM,0,0,none,0,0,none,0,0,i4,j4,((z5 : Nat) : Int),0,(decide (z6 = 1)),0,⟨#[]⟩,0,0,0,⟨#[]⟩,0,none,0,0⟩ : MgM)),.int .i64 0]) (results_mgD Tryz.results6 _ _ R (⟨((kk : Nat) : Int),0,0,0,false,0,0,zeroM,0,0,none,0,0,none,0,0,i4,j4,((z5 : Nat) : Int),0,(decide (z6 = 1)),0,⟨#[]⟩,0,0,0,⟨#[]⟩,0,none,0,0⟩ : MgM) rfl (R9.out.fill _)) rfl ⟨.inl ⟨(⟨((kk : Nat) : Int),0,0,0,false,0,0,zeroM,0,0,none,0,0,none,0,0,i4,j4,((z5 : Nat) : Int),0,(decide (z6 = 1)),0,⟨#[]⟩,0,0,0,⟨#[]⟩,0,none,0,0⟩ : MgM),noL,rfl,(HAT.out.later (B8.out.trans (below_drewN q9 (Below.refl _ _)))).fill2 R9.out fst_nil fst_nil,HMF.out,hyes.out⟩,Only.below (BV.trans ((B8.out.trans (below_drewN q9 (Below.refl _ _))).mono BV.size)) (only_fill _ _ _) (by have:=RW.out;omega) (BV.trans (B8.out.mono BV.size)).size⟩
  ·have hno:=hid (doc_no hRes (.inr he))
   have cW : Calls Tryz.prog 21 #[.agg (mgV (⟨((kk : Nat) : Int),0,0,0,false,0,0,zeroM,0,0,none,0,0,none,0,0,i4,j4,((z5 : Nat) : Int),0,(decide (z6 = 1)),0,⟨#[]⟩,0,0,0,⟨#[]⟩,0,none,0,0⟩ : MgM))] V6 fun e w' => ∃ a n c,e = .returned (.tuple #[.slice a n c,.int .i64 0])∧w'.ownsRow V6.heap.size 5 1 (.slice a n c) n (bcells (mgB (mgT (⟨((kk : Nat) : Int),0,0,0,false,0,0,zeroM,0,0,none,0,0,none,0,0,i4,j4,((z5 : Nat) : Int),0,(decide (z6 = 1)),0,⟨#[]⟩,0,0,0,⟨#[]⟩,0,none,0,0⟩ : MgM) noL)))∧Below V6.heap.size V6 w':=by rw [hf] at wr0;exact wr0
   have cS : ∀ (U : World) (a' : Option Addr) (n' c' : Nat),BAt U U.heap.size a' n' (mgB (mgT (⟨((kk : Nat) : Int),0,0,0,false,0,0,zeroM,0,0,none,0,0,none,0,0,i4,j4,((z5 : Nat) : Int),0,(decide (z6 = 1)),0,⟨#[]⟩,0,0,0,⟨#[]⟩,0,none,0,0⟩ : MgM) noL))→BAt U U.heap.size a n l→n'≤maxLen→Calls Tryz.prog 22 #[.slice a n c,.slice a' n' c'] U (Reads1 U (.bool false)):=fun U a' n' c' h1 h2 h3=>by
    have h:=same_any a a' n n' c c' _ _ l (mgB (mgT (⟨((kk : Nat) : Int),0,0,0,false,0,0,zeroM,0,0,none,0,0,none,0,0,i4,j4,((z5 : Nat) : Int),0,(decide (z6 = 1)),0,⟨#[]⟩,0,0,0,⟨#[]⟩,0,none,0,0⟩ : MgM) noL)) U h2 h1 HNM.out h3
    rw [decide_eq_false (fun e=>he e.symm)] at h;exact h
   clear wr0 hMn hf he hAt hMF
   go_wp2_with (first | (go_at_call 17;(with_reducible first | refine (cId _).mono ?_ | refine (cGrp _).mono ?_ | refine (cStp _).mono ?_ | refine (cYes _).mono ?_ | refine (cNum _).mono ?_ | refine (cKey _).mono ?_ | refine (cVal _).mono ?_ | refine (cDat _).mono ?_);rintro e wu ⟨rfl,rfl⟩) | (go_at_call 21;((with_reducible refine cW.mono ?_);rintro e w8 ⟨a8,n8,c8,rfl,ho8,hb8⟩;have O8:=hid (BAt.of_own ho8);have M8:=hid (Nat.le_trans (own_caps ho8).1 (own_caps ho8).2);have X8:=hid (K6.out.bx.below hb8);have R8:=hid (K6.out.rx.below hb8);have B8:=hid hb8;have L8:=X8.out.ldD;have I8 : Hid (BAt w8 w8.heap.size a n l):=(HL.out.below (BV.trans (hb8.mono BV.size)) (Nat.le_refl _)).more (BV.trans (hb8.mono BV.size)).size;clear ho8 hb8)) | (go_at_call 22;((with_reducible refine (cS w8 a8 n8 c8 O8.out I8.out M8.out).mono ?_);rintro e w9 ⟨rfl,q9,rfl⟩;have X9 : Hid (BoxC (w8.drewN q9) G (mgV (⟨((kk : Nat) : Int),0,0,0,false,0,0,zeroM,0,0,none,0,0,none,0,0,i4,j4,((z5 : Nat) : Int),0,(decide (z6 = 1)),0,⟨#[]⟩,0,0,0,⟨#[]⟩,0,none,0,0⟩ : MgM)) 46):=X8.out;have R9 : Hid (BoxC (w8.drewN q9) R (mgV (zeroG 0)) 46):=R8.out;have L9:=X9.out.ldD)) | (refine wpList_store_doc rfl _ _ rfl R (zeroG 0) rfl rfl (zeroG 0) R9.out ?_))
   exact bodyPost_ret (v:=.tuple #[.agg (mgV (zeroG 0)),.int .i64 2]) (results_mgD Tryz.results6 _ _ R (zeroG 0) rfl (R9.out.fill _)) rfl ⟨.inr ⟨rfl,hno.out⟩,Only.below (BV.trans ((B8.out.trans (below_drewN q9 (Below.refl _ _))).mono BV.size)) (only_fill _ _ _) (by have:=RW.out;omega) (BV.trans (B8.out.mono BV.size)).size⟩
 ·have hf2 : formMg (mgT (⟨((kk : Nat) : Int),0,0,0,false,0,0,zeroM,0,0,none,0,0,none,0,0,i4,j4,((z5 : Nat) : Int),0,(decide (z6 = 1)),0,⟨#[]⟩,0,0,0,⟨#[]⟩,0,none,0,0⟩ : MgM) noL) = false:=by simpa using hf
  have hno:=hid (doc_no hRes (.inl hf2))
  have cW : Calls Tryz.prog 21 #[.agg (mgV (⟨((kk : Nat) : Int),0,0,0,false,0,0,zeroM,0,0,none,0,0,none,0,0,i4,j4,((z5 : Nat) : Int),0,(decide (z6 = 1)),0,⟨#[]⟩,0,0,0,⟨#[]⟩,0,none,0,0⟩ : MgM))] V6 fun e w' => ∃ a n c,e = .returned (.tuple #[.slice a n c,.int .i64 2])∧w'.ownsRow V6.heap.size 5 1 (.slice a n c) n (bcells [])∧Below V6.heap.size V6 w':=by rw [hf2] at wr0;exact wr0
  clear wr0 hMn hf hf2 hAt hMF
  go_wp2_with (first | (go_at_call 17;(with_reducible first | refine (cId _).mono ?_ | refine (cGrp _).mono ?_ | refine (cStp _).mono ?_ | refine (cYes _).mono ?_ | refine (cNum _).mono ?_ | refine (cKey _).mono ?_ | refine (cVal _).mono ?_ | refine (cDat _).mono ?_);rintro e wu ⟨rfl,rfl⟩) | (go_at_call 21;((with_reducible refine cW.mono ?_);rintro e w8 ⟨a8,n8,c8,rfl,ho8,hb8⟩;have O8:=hid (BAt.of_own ho8);have M8:=hid (Nat.le_trans (own_caps ho8).1 (own_caps ho8).2);have X8:=hid (K6.out.bx.below hb8);have R8:=hid (K6.out.rx.below hb8);have B8:=hid hb8;have L8:=X8.out.ldD;have I8 : Hid (BAt w8 w8.heap.size a n l):=(HL.out.below (BV.trans (hb8.mono BV.size)) (Nat.le_refl _)).more (BV.trans (hb8.mono BV.size)).size;clear ho8 hb8)) | (refine wpList_store_doc rfl _ _ rfl R (zeroG 0) rfl rfl (zeroG 0) R8.out ?_))
  exact bodyPost_ret (v:=.tuple #[.agg (mgV (zeroG 0)),.int .i64 2]) (results_mgD Tryz.results6 _ _ R (zeroG 0) rfl (R8.out.fill _)) rfl ⟨.inr ⟨rfl,hno.out⟩,Only.below (BV.trans (B8.out.mono BV.size)) (only_fill _ _ _) (by have:=RW.out;omega) (BV.trans (B8.out.mono BV.size)).size⟩
theorem read_igpy (a : Option Addr) (n c kk : Nat) (l : List UInt8) (w : World) (hl : BAt w w.heap.size a n l) (hn : n≤70000) (hnc : n≤c) (hcm : c≤maxLen) (hk : kk < 256) (hz : ∀ z st1,Res (numP 1) (some l) z st1→(st1 = none→z = 0)→kk = z) (ls : List Nat) (hls : lets (letters ((kk : Nat) : Int)) = ls ++ [105,103,112,121]) (hle : ls = []) (uId : uId ((kk : Nat) : Int) = true) (uGrp : uGrp ((kk : Nat) : Int) = true) (uStp : uStp ((kk : Nat) : Int) = true) (uYes : uYes ((kk : Nat) : Int) = true) (uNum : uNum ((kk : Nat) : Int) = false) (uKey : uKey ((kk : Nat) : Int) = false) (uVal : uVal ((kk : Nat) : Int) = false) (uDat : uDat ((kk : Nat) : Int) = false)
  (cH : ∀ (g : Nat) (W : World) (st1 : St),FS w.heap.size g l st1 W→Calls Tryz.prog 16 #[.pointer (some ⟨g,0,none⟩),.agg (mgV (zeroG ((kk : Nat) : Int)))] W (HeadR W w.heap.size g l ((kk : Nat) : Int) ls st1)) :
  Calls Tryz.prog 6 #[.slice a n c] w (ReadR w l):=by
 obtain ⟨R,hR0⟩ : ∃ R,w.heap.size = R:=⟨_,rfl⟩
 obtain ⟨g,hg0⟩ : ∃ g,R + 1 = g:=⟨_,rfl⟩
 have b1 : Below w.heap.size w (w.alloc (.cells ZL 46)):=(Below.refl _ _).alloc (Nat.le_refl _) _
 have s1 : (w.alloc (.cells ZL 46)).heap.size = w.heap.size + 1:=by simp
 have BEL : Hid (Below w.heap.size w ((w.alloc (.cells ZL 46)).alloc (.cells #[.slice a n c,.int .i64 0,.bool false] 61))):=b1.alloc b1.size _
 have RX0 : Hid (BoxC ((w.alloc (.cells ZL 46)).alloc (.cells #[.slice a n c,.int .i64 0,.bool false] 61)) R (mgV (zeroG 0)) 46):=by
  have h : BoxC (w.alloc (.cells ZL 46)) w.heap.size ZL 46:=BoxC.new w ZL 46
  rw [hR0] at h
  exact h.below ((Below.refl _ _).alloc (Nat.le_refl _) _)
 have FS0 : Hid (FS w.heap.size g l (some l) ((w.alloc (.cells ZL 46)).alloc (.cells #[.slice a n c,.int .i64 0,.bool false] 61))):=by
  refine ⟨0,⟨a,n,c,?_,hnc,hcm,hl.below BEL.out (Nat.le_refl _),Nat.zero_le _,by omega⟩,fun l' e=>by injection e with e;rw [e];rfl⟩
  have h:=BoxC.new (w.alloc (.cells ZL 46)) #[.slice a n c,.int .i64 0,.bool false] 61
  rw [s1,hR0,hg0] at h
  exact h
 have HL:=hid hl
 have HNM : Hid (n≤maxLen):=Nat.le_trans hnc hcm
 have HN7:=hid hn
 have HNC:=hid hnc
 have HCM:=hid hcm
 have RW : Hid (w.heap.size≤R):=by unfold Hid;omega
 have GW : Hid (w.heap.size≤g):=by unfold Hid;omega
 have GR : Hid (R < g):=by unfold Hid;omega
 have HK:=hid hk
 have HZ:=hid hz
 have HLS:=hid hls
 have cId:=fun V=>useId_any ((kk : Nat) : Int) V
 rw [uId] at cId
 have cGrp:=fun V=>useGrp_any ((kk : Nat) : Int) V
 rw [uGrp] at cGrp
 have cStp:=fun V=>useStp_any ((kk : Nat) : Int) V
 rw [uStp] at cStp
 have cYes:=fun V=>useYes_any ((kk : Nat) : Int) V
 rw [uYes] at cYes
 have cNum:=fun V=>useNum_any ((kk : Nat) : Int) V
 rw [uNum] at cNum
 have cKey:=fun V=>useKey_any ((kk : Nat) : Int) V
 rw [uKey] at cKey
 have cVal:=fun V=>useVal_any ((kk : Nat) : Int) V
 rw [uVal] at cVal
 have cDat:=fun V=>useDat_any ((kk : Nat) : Int) V
 rw [uDat] at cDat
 clear hl hn hnc hcm hk hz hls b1 s1 uId uGrp uStp uYes uNum uKey uVal uDat
 go_enter Tryz.func6,Tryz.ntmps6
 go_upto_region 2 with fail
 generalize hV0 : (w.alloc (.cells ZL 46)).alloc (.cells #[.slice a n c,.int .i64 0,.bool false] 61) = V0 at *
 clear hV0
 have cT : Calls Tryz.prog 15 #[.pointer (some ⟨g,0,none⟩),.int .i64 1] V0 (Took1 (FS w.heap.size g l) g numV (numP 1) 0 (some l) V0):=refTakeS_any w.heap.size g l 1 (some l) V0 FS0.out (by omega)
 go_upto_region 3 with (first | (go_at_call 15;((with_reducible refine cT.mono ?_);rintro e w2 ⟨z,st1,rfl,hr2,ho2,hR2,hz2⟩;obtain rfl : kk = z:=HZ.out z st1 hR2 hz2;have D2:=hid hr2;have O2:=hid ho2;have R2:=hid hR2;have hk:=HK.out;have ek:=wrap_i64 kk (by omega);have HX : Hid (BoxC (w2.alloc (.cells ZL 46)) w2.heap.size (mgV (zeroG 0)) 46):=BoxC.new w2 _ _;clear hr2 ho2 hR2 hz2)) | (refine wpList_store_doc rfl _ _ rfl w2.heap.size (zeroG ((kk : Nat) : Int)) rfl rfl (zeroG 0) HX.out ?_))
 obtain ⟨G,hG0⟩ : ∃ G,w2.heap.size = G:=⟨_,rfl⟩
 have g0 : g < V0.heap.size:=FS0.out.lt
 have K1 : Hid (RfB V0 w.heap.size g G R l st1 (mgV (zeroG ((kk : Nat) : Int))) ((w2.alloc (.cells ZL 46)).setRow w2.heap.size (mgV (zeroG ((kk : Nat) : Int))))):=by
  have g2 : g < w2.heap.size:=D2.out.lt
  have hgr:=GR.out
  have oF:=only_fill (w2.alloc (.cells ZL 46)) w2.heap.size (mgV (zeroG ((kk : Nat) : Int)))
  have bA : Below w2.heap.size w2 (w2.alloc (.cells ZL 46)):=(Below.refl _ _).alloc (Nat.le_refl _) _
  have bF : Below w2.heap.size w2 ((w2.alloc (.cells ZL 46)).setRow w2.heap.size (mgV (zeroG ((kk : Nat) : Int)))):=Only.below bA oF (Nat.le_refl _) bA.size
  have x2 : BoxC w2 R (mgV (zeroG 0)) 46:=RX0.out.only O2.out (by omega)
  exact ⟨Keep.keep (g:=g) w2 _ D2.out fun b hb=>bF.block b (by omega),by rw [← hG0];exact HX.out.fill _,x2.below bF,O2.out.trans (below_only bF),g0,by have:=O2.out.size;omega,by omega,by have:=x2.lt;omega⟩
 rw [hG0] at K1
 simp only [hG0]
 clear D2 O2 HX cT RX0 FS0 ek
 generalize (w2.alloc (.cells ZL 46)).setRow G (mgV (zeroG ((kk : Nat) : Int))) = V1 at *
 have x0 : V1.cell? ⟨G,0,none⟩ = some (.int .i64 ((kk : Nat) : Int)):=K1.out.bx.cell 0 _ rfl
 have lG:=K1.out.bx.ldD
 have cHd:=cH g V1 st1 K1.out.rd
 go_upto_region 5 with (first | (go_at_call 16;((with_reducible refine cHd.mono ?_);rintro e w3 ⟨x,Lx,st2,rfl,hr3,ho3,hx3⟩;have K2:=hid (K1.out.only hr3 ho3);have H3:=hid hx3;clear hr3 ho3 hx3)) | (refine wpList_store_doc rfl _ _ rfl G x rfl rfl (zeroG ((kk : Nat) : Int)) K2.out.bx ?_))
 obtain ⟨hx0,hL0,_⟩:=H3.out.same hle
 subst hx0
 subst hL0
 have K3 : Hid (RfB V0 w.heap.size g G R l st2 (mgV (zeroG ((kk : Nat) : Int))) (w3.setRow G (mgV (zeroG ((kk : Nat) : Int))))):=K2.out.fill (mgV (zeroG ((kk : Nat) : Int)))
 clear K1 K2 x0 lG cHd cH
 generalize w3.setRow G (mgV (zeroG ((kk : Nat) : Int))) = V3 at *
 have yh:=K3.out.bx.cell 4 _ rfl
 have c_4:=rTakeId_any w.heap.size g l st2 V3 K3.out.rd
 go_upto_region 7 with (first | (go_at_call 17;(with_reducible first | refine (cId _).mono ?_ | refine (cGrp _).mono ?_ | refine (cStp _).mono ?_ | refine (cYes _).mono ?_ | refine (cNum _).mono ?_ | refine (cKey _).mono ?_ | refine (cVal _).mono ?_ | refine (cDat _).mono ?_);rintro e wu ⟨rfl,rfl⟩) | (go_at_call 18;((with_reducible refine c_4.mono ?_);rintro e w4 ⟨⟨i4,j4⟩,st4,rfl,hr,ho,hR,hz⟩;have H4:=hid (K3.out.only hr ho);have R4:=hid hR;have y4_21:=H4.out.bx.cell 21 _ rfl;have f4_21:=H4.out.bx.frozen 21;have y4_22:=H4.out.bx.cell 22 _ rfl;have f4_22:=H4.out.bx.frozen 22;  clear hz;clear hr ho hR)))
 have K4 : Hid (RfB V0 w.heap.size g G R l st4 (mgV (⟨((kk : Nat) : Int),0,0,0,false,0,0,zeroM,0,0,none,0,0,none,0,0,i4,j4,0,0,false,0,⟨#[]⟩,0,0,0,⟨#[]⟩,0,none,0,0⟩ : MgM)) (((w4.setCell ⟨G,21,none⟩ (.int .i64 i4)).setCell ⟨G,22,none⟩ (.int .i64 j4)))):=(((H4.out.set 21 (.int .i64 i4)).set 22 (.int .i64 j4))).eq (by apply Array.ext';simp only [Array.toList_setIfInBounds];rfl)
 clear H4 K3 c_4 yh y4_21 f4_21 y4_22 f4_22
 generalize ((w4.setCell ⟨G,21,none⟩ (.int .i64 i4)).setCell ⟨G,22,none⟩ (.int .i64 j4)) = V4 at *
 have yh:=K4.out.bx.cell 4 _ rfl
 have c_5:=(show Calls Tryz.prog 15 #[.pointer (some ⟨g,0,none⟩),.int .i64 1] V4 (Took1 (FS w.heap.size g l) g numV (numP 1) 0 st4 V4) from refTakeS_any w.heap.size g l 1 st4 V4 K4.out.rd (by omega))
 go_upto_region 9 with (first | (go_at_call 17;(with_reducible first | refine (cId _).mono ?_ | refine (cGrp _).mono ?_ | refine (cStp _).mono ?_ | refine (cYes _).mono ?_ | refine (cNum _).mono ?_ | refine (cKey _).mono ?_ | refine (cVal _).mono ?_ | refine (cDat _).mono ?_);rintro e wu ⟨rfl,rfl⟩) | (go_at_call 15;((with_reducible refine c_5.mono ?_);rintro e w5 ⟨z5,st5,rfl,hr,ho,hR,hz⟩;have H5:=hid (K4.out.only hr ho);have R5:=hid hR;have y5_23:=H5.out.bx.cell 23 _ rfl;have f5_23:=H5.out.bx.frozen 23;  have hb5 : z5 < 256:=num_lt hR hz (by decide);have ez5:=wrap_i64 z5 (by omega);clear hz;clear hr ho hR)))
 have K5 : Hid (RfB V0 w.heap.size g G R l st5 (mgV (⟨((kk : Nat) : Int),0,0,0,false,0,0,zeroM,0,0,none,0,0,none,0,0,i4,j4,((z5 : Nat) : Int),0,false,0,⟨#[]⟩,0,0,0,⟨#[]⟩,0,none,0,0⟩ : MgM)) ((w5.setCell ⟨G,23,none⟩ (.int .i64 ((z5 : Nat) : Int))))):=((H5.out.set 23 (.int .i64 ((z5 : Nat) : Int)))).eq (by apply Array.ext';simp only [Array.toList_setIfInBounds];rfl)
 clear H5 K4 c_5 yh y5_23 f5_23
 generalize (w5.setCell ⟨G,23,none⟩ (.int .i64 ((z5 : Nat) : Int))) = V5 at *
 have yh:=K5.out.bx.cell 4 _ rfl
 have c_6:=(show Calls Tryz.prog 15 #[.pointer (some ⟨g,0,none⟩),.int .i64 8] V5 (Took1 (FS w.heap.size g l) g numV (numP 8) 0 st5 V5) from refTakeS_any w.heap.size g l 8 st5 V5 K5.out.rd (by omega))
 go_upto_region 11 with (first | (go_at_call 17;(with_reducible first | refine (cId _).mono ?_ | refine (cGrp _).mono ?_ | refine (cStp _).mono ?_ | refine (cYes _).mono ?_ | refine (cNum _).mono ?_ | refine (cKey _).mono ?_ | refine (cVal _).mono ?_ | refine (cDat _).mono ?_);rintro e wu ⟨rfl,rfl⟩) | (go_at_call 15;((with_reducible refine c_6.mono ?_);rintro e w6 ⟨z6,st6,rfl,hr,ho,hR,hz⟩;have H6:=hid (K5.out.only hr ho);have R6:=hid hR;have y6_24:=H6.out.bx.cell 24 _ rfl;have f6_24:=H6.out.bx.frozen 24;  have hb6 : z6 < 18446744073709551616:=num_lt hR hz (by decide);clear hz;clear hr ho hR)))
 have K6 : Hid (RfB V0 w.heap.size g G R l st6 (mgV (⟨((kk : Nat) : Int),0,0,0,false,0,0,zeroM,0,0,none,0,0,none,0,0,i4,j4,((z5 : Nat) : Int),z6,false,0,⟨#[]⟩,0,0,0,⟨#[]⟩,0,none,0,0⟩ : MgM)) ((w6.setCell ⟨G,24,none⟩ (.int .u64 ((z6 : Nat) : Int))))):=((H6.out.set 24 (.int .u64 ((z6 : Nat) : Int)))).eq (by apply Array.ext';simp only [Array.toList_setIfInBounds];rfl)
 clear H6 K5 c_6 yh y6_24 f6_24
 generalize (w6.setCell ⟨G,24,none⟩ (.int .u64 ((z6 : Nat) : Int))) = V6 at *
 have yh:=K6.out.bx.cell 4 _ rfl
 have c_7:=(show Calls Tryz.prog 15 #[.pointer (some ⟨g,0,none⟩),.int .i64 1] V6 (Took1 (FS w.heap.size g l) g numV (numP 1) 0 st6 V6) from refTakeS_any w.heap.size g l 1 st6 V6 K6.out.rd (by omega))
 go_upto_region 13 with (first | (go_at_call 17;(with_reducible first | refine (cId _).mono ?_ | refine (cGrp _).mono ?_ | refine (cStp _).mono ?_ | refine (cYes _).mono ?_ | refine (cNum _).mono ?_ | refine (cKey _).mono ?_ | refine (cVal _).mono ?_ | refine (cDat _).mono ?_);rintro e wu ⟨rfl,rfl⟩) | (go_at_call 15;((with_reducible refine c_7.mono ?_);rintro e w7 ⟨z7,st7,rfl,hr,ho,hR,hz⟩;have H7:=hid (K6.out.only hr ho);have R7:=hid hR;have y7_25:=H7.out.bx.cell 25 _ rfl;have f7_25:=H7.out.bx.frozen 25;  clear hz;clear hr ho hR)))
 have K7 : Hid (RfB V0 w.heap.size g G R l st7 (mgV (⟨((kk : Nat) : Int),0,0,0,false,0,0,zeroM,0,0,none,0,0,none,0,0,i4,j4,((z5 : Nat) : Int),z6,(((z7 : Nat) : Int) == 1),0,⟨#[]⟩,0,0,0,⟨#[]⟩,0,none,0,0⟩ : MgM)) ((w7.setCell ⟨G,25,none⟩ (.bool (((z7 : Nat) : Int) == 1))))):=((H7.out.set 25 (.bool (((z7 : Nat) : Int) == 1)))).eq (by apply Array.ext';simp only [Array.toList_setIfInBounds];rfl)
 clear H7 K6 c_7 yh y7_25 f7_25
 generalize (w7.setCell ⟨G,25,none⟩ (.bool (((z7 : Nat) : Int) == 1))) = V7 at *
 rw [beq_dec z7] at K7
 have hB : Bare (⟨((kk : Nat) : Int),0,0,0,false,0,0,zeroM,0,0,none,0,0,none,0,0,i4,j4,((z5 : Nat) : Int),z6,(decide (z7 = 1)),0,⟨#[]⟩,0,0,0,⟨#[]⟩,0,none,0,0⟩ : MgM):=⟨rfl,⟨rfl,rfl,rfl,rfl⟩,rfl⟩
 have hAt : MgAt V7 (⟨((kk : Nat) : Int),0,0,0,false,0,0,zeroM,0,0,none,0,0,none,0,0,i4,j4,((z5 : Nat) : Int),z6,(decide (z7 = 1)),0,⟨#[]⟩,0,0,0,⟨#[]⟩,0,none,0,0⟩ : MgM) noL:=Bare.at_ hB ⟨(by show 0 < 4294967296;decide),(by show 0 < 4294967296;decide),hb6,(by show 0 < 18446744073709551616;decide),(by show 0 < 18446744073709551616;decide),(Nat.zero_le _),(Nat.zero_le _)⟩
 have hMF : MgF (⟨((kk : Nat) : Int),0,0,0,false,0,0,zeroM,0,0,none,0,0,none,0,0,i4,j4,((z5 : Nat) : Int),z6,(decide (z7 = 1)),0,⟨#[]⟩,0,0,0,⟨#[]⟩,0,none,0,0⟩ : MgM):=hB.f
 have hRes : Res rdD (some l) (mgT (⟨((kk : Nat) : Int),0,0,0,false,0,0,zeroM,0,0,none,0,0,none,0,0,i4,j4,((z5 : Nat) : Int),z6,(decide (z7 = 1)),0,⟨#[]⟩,0,0,0,⟨#[]⟩,0,none,0,0⟩ : MgM) noL) st7:=by
  refine Res.bind (x:=((kk : Nat) : Int)) (res_numI R2.out) ?_
  rw [HLS.out,fldsD_app]
  exact Res.bind (x:=mgT (zeroG ((kk : Nat) : Int)) noL) H3.out.res (Res.bind (x:=mgT ((⟨((kk : Nat) : Int),0,0,0,false,0,0,zeroM,0,0,none,0,0,none,0,0,i4,j4,0,0,false,0,⟨#[]⟩,0,0,0,⟨#[]⟩,0,none,0,0⟩ : MgM) : MgM) noL) (Res.bind (x:=(i4,j4)) R4.out (Res.pure _ _)) (Res.bind (x:=mgT ((⟨((kk : Nat) : Int),0,0,0,false,0,0,zeroM,0,0,none,0,0,none,0,0,i4,j4,((z5 : Nat) : Int),0,false,0,⟨#[]⟩,0,0,0,⟨#[]⟩,0,none,0,0⟩ : MgM) : MgM) noL) (Res.bind (x:=((z5 : Nat) : Int)) (res_numI R5.out) (Res.pure _ _)) (Res.bind (x:=mgT ((⟨((kk : Nat) : Int),0,0,0,false,0,0,zeroM,0,0,none,0,0,none,0,0,i4,j4,((z5 : Nat) : Int),z6,false,0,⟨#[]⟩,0,0,0,⟨#[]⟩,0,none,0,0⟩ : MgM) : MgM) noL) (Res.bind (x:=z6) R6.out (Res.pure _ _)) (Res.bind (x:=mgT ((⟨((kk : Nat) : Int),0,0,0,false,0,0,zeroM,0,0,none,0,0,none,0,0,i4,j4,((z5 : Nat) : Int),z6,(decide (z7 = 1)),0,⟨#[]⟩,0,0,0,⟨#[]⟩,0,none,0,0⟩ : MgM) : MgM) noL) (Res.bind (x:=z7) R7.out (Res.pure _ _)) (Res.pure _ _)))))
 have hMn:=hAt.ok
 have BV : Below w.heap.size w V7:=Only.below BEL.out K7.out.onl (by have:=GW.out;omega) BEL.out.size
 have lG:=K7.out.bx.ldD
 have wr0:=rWrite_any hAt hMF
 have HAT:=hid hAt
 have HMF:=hid hMF
 by_cases hf : formMg (mgT (⟨((kk : Nat) : Int),0,0,0,false,0,0,zeroM,0,0,none,0,0,none,0,0,i4,j4,((z5 : Nat) : Int),z6,(decide (z7 = 1)),0,⟨#[]⟩,0,0,0,⟨#[]⟩,0,none,0,0⟩ : MgM) noL) = true
 ·by_cases he : mgB (mgT (⟨((kk : Nat) : Int),0,0,0,false,0,0,zeroM,0,0,none,0,0,none,0,0,i4,j4,((z5 : Nat) : Int),z6,(decide (z7 = 1)),0,⟨#[]⟩,0,0,0,⟨#[]⟩,0,none,0,0⟩ : MgM) noL) = l
  ·have hyes:=hid (doc_yes hMn hf he)
   have cW : Calls Tryz.prog 21 #[.agg (mgV (⟨((kk : Nat) : Int),0,0,0,false,0,0,zeroM,0,0,none,0,0,none,0,0,i4,j4,((z5 : Nat) : Int),z6,(decide (z7 = 1)),0,⟨#[]⟩,0,0,0,⟨#[]⟩,0,none,0,0⟩ : MgM))] V7 fun e w' => ∃ a n c,e = .returned (.tuple #[.slice a n c,.int .i64 0])∧w'.ownsRow V7.heap.size 5 1 (.slice a n c) n (bcells l)∧Below V7.heap.size V7 w':=by rw [hf,he] at wr0;exact wr0
   have cS : ∀ (U : World) (a' : Option Addr) (n' c' : Nat),BAt U U.heap.size a' n' l→BAt U U.heap.size a n l→n'≤maxLen→Calls Tryz.prog 22 #[.slice a n c,.slice a' n' c'] U (Reads1 U (.bool true)):=fun U a' n' c' h1 h2 h3=>by
    have h:=same_any a a' n n' c c' _ _ l l U h2 h1 HNM.out h3
    rw [decide_eq_true rfl] at h;exact h
   clear wr0 hMn hf he hAt hMF
   go_wp2_with (first | (go_at_call 17;(with_reducible first | refine (cId _).mono ?_ | refine (cGrp _).mono ?_ | refine (cStp _).mono ?_ | refine (cYes _).mono ?_ | refine (cNum _).mono ?_ | refine (cKey _).mono ?_ | refine (cVal _).mono ?_ | refine (cDat _).mono ?_);rintro e wu ⟨rfl,rfl⟩) | (go_at_call 21;((with_reducible refine cW.mono ?_);rintro e w8 ⟨a8,n8,c8,rfl,ho8,hb8⟩;have O8:=hid (BAt.of_own ho8);have M8:=hid (Nat.le_trans (own_caps ho8).1 (own_caps ho8).2);have X8:=hid (K7.out.bx.below hb8);have R8:=hid (K7.out.rx.below hb8);have B8:=hid hb8;have L8:=X8.out.ldD;have I8 : Hid (BAt w8 w8.heap.size a n l):=(HL.out.below (BV.trans (hb8.mono BV.size)) (Nat.le_refl _)).more (BV.trans (hb8.mono BV.size)).size;clear ho8 hb8)) | (go_at_call 22;((with_reducible refine (cS w8 a8 n8 c8 O8.out I8.out M8.out).mono ?_);rintro e w9 ⟨rfl,q9,rfl⟩;have X9 : Hid (BoxC (w8.drewN q9) G (mgV (⟨((kk : Nat) : Int),0,0,0,false,0,0,zeroM,0,0,none,0,0,none,0,0,i4,j4,((z5 : Nat) : Int),z6,(decide (z7 = 1)),0,⟨#[]⟩,0,0,0,⟨#[]⟩,0,none,0,0⟩ : MgM)) 46):=X8.out;have R9 : Hid (BoxC (w8.drewN q9) R (mgV (zeroG 0)) 46):=R8.out;have L9:=X9.out.ldD)) | (refine wpList_store_doc rfl _ _ rfl R (⟨((kk : Nat) : Int),0,0,0,false,0,0,zeroM,0,0,none,0,0,none,0,0,i4,j4,((z5 : Nat) : Int),z6,(decide (z7 = 1)),0,⟨#[]⟩,0,0,0,⟨#[]⟩,0,none,0,0⟩ : MgM) rfl rfl (zeroG 0) R9.out ?_))
   exact bodyPost_ret (v:=.tuple #[.agg (mgV (⟨((kk : Nat) : Int),0,0,0,false,0,0,zeroM,0,0,none,0,0,none,0,0,i4,j4,((z5 : Nat) : Int),z6,(decide (z7 = 1)),0,⟨#[]⟩,0,0,0,⟨#[]⟩,0,none,0,0⟩ : MgM)),.int .i64 0]) (results_mgD Tryz.results6 _ _ R (⟨((kk : Nat) : Int),0,0,0,false,0,0,zeroM,0,0,none,0,0,none,0,0,i4,j4,((z5 : Nat) : Int),z6,(decide (z7 = 1)),0,⟨#[]⟩,0,0,0,⟨#[]⟩,0,none,0,0⟩ : MgM) rfl (R9.out.fill _)) rfl ⟨.inl ⟨(⟨((kk : Nat) : Int),0,0,0,false,0,0,zeroM,0,0,none,0,0,none,0,0,i4,j4,((z5 : Nat) : Int),z6,(decide (z7 = 1)),0,⟨#[]⟩,0,0,0,⟨#[]⟩,0,none,0,0⟩ : MgM),noL,rfl,(HAT.out.later (B8.out.trans (below_drewN q9 (Below.refl _ _)))).fill2 R9.out fst_nil fst_nil,HMF.out,hyes.out⟩,Only.below (BV.trans ((B8.out.trans (below_drewN q9 (Below.refl _ _))).mono BV.size)) (only_fill _ _ _) (by have:=RW.out;omega) (BV.trans (B8.out.mono BV.size)).size⟩
  ·have hno:=hid (doc_no hRes (.inr he))
   have cW : Calls Tryz.prog 21 #[.agg (mgV (⟨((kk : Nat) : Int),0,0,0,false,0,0,zeroM,0,0,none,0,0,none,0,0,i4,j4,((z5 : Nat) : Int),z6,(decide (z7 = 1)),0,⟨#[]⟩,0,0,0,⟨#[]⟩,0,none,0,0⟩ : MgM))] V7 fun e w' => ∃ a n c,e = .returned (.tuple #[.slice a n c,.int .i64 0])∧w'.ownsRow V7.heap.size 5 1 (.slice a n c) n (bcells (mgB (mgT (⟨((kk : Nat) : Int),0,0,0,false,0,0,zeroM,0,0,none,0,0,none,0,0,i4,j4,((z5 : Nat) : Int),z6,(decide (z7 = 1)),0,⟨#[]⟩,0,0,0,⟨#[]⟩,0,none,0,0⟩ : MgM) noL)))∧Below V7.heap.size V7 w':=by rw [hf] at wr0;exact wr0
   have cS : ∀ (U : World) (a' : Option Addr) (n' c' : Nat),BAt U U.heap.size a' n' (mgB (mgT (⟨((kk : Nat) : Int),0,0,0,false,0,0,zeroM,0,0,none,0,0,none,0,0,i4,j4,((z5 : Nat) : Int),z6,(decide (z7 = 1)),0,⟨#[]⟩,0,0,0,⟨#[]⟩,0,none,0,0⟩ : MgM) noL))→BAt U U.heap.size a n l→n'≤maxLen→Calls Tryz.prog 22 #[.slice a n c,.slice a' n' c'] U (Reads1 U (.bool false)):=fun U a' n' c' h1 h2 h3=>by
    have h:=same_any a a' n n' c c' _ _ l (mgB (mgT (⟨((kk : Nat) : Int),0,0,0,false,0,0,zeroM,0,0,none,0,0,none,0,0,i4,j4,((z5 : Nat) : Int),z6,(decide (z7 = 1)),0,⟨#[]⟩,0,0,0,⟨#[]⟩,0,none,0,0⟩ : MgM) noL)) U h2 h1 HNM.out h3
    rw [decide_eq_false (fun e=>he e.symm)] at h;exact h
   clear wr0 hMn hf he hAt hMF
   go_wp2_with (first | (go_at_call 17;(with_reducible first | refine (cId _).mono ?_ | refine (cGrp _).mono ?_ | refine (cStp _).mono ?_ | refine (cYes _).mono ?_ | refine (cNum _).mono ?_ | refine (cKey _).mono ?_ | refine (cVal _).mono ?_ | refine (cDat _).mono ?_);rintro e wu ⟨rfl,rfl⟩) | (go_at_call 21;((with_reducible refine cW.mono ?_);rintro e w8 ⟨a8,n8,c8,rfl,ho8,hb8⟩;have O8:=hid (BAt.of_own ho8);have M8:=hid (Nat.le_trans (own_caps ho8).1 (own_caps ho8).2);have X8:=hid (K7.out.bx.below hb8);have R8:=hid (K7.out.rx.below hb8);have B8:=hid hb8;have L8:=X8.out.ldD;have I8 : Hid (BAt w8 w8.heap.size a n l):=(HL.out.below (BV.trans (hb8.mono BV.size)) (Nat.le_refl _)).more (BV.trans (hb8.mono BV.size)).size;clear ho8 hb8)) | (go_at_call 22;((with_reducible refine (cS w8 a8 n8 c8 O8.out I8.out M8.out).mono ?_);rintro e w9 ⟨rfl,q9,rfl⟩;have X9 : Hid (BoxC (w8.drewN q9) G (mgV (⟨((kk : Nat) : Int),0,0,0,false,0,0,zeroM,0,0,none,0,0,none,0,0,i4,j4,((z5 : Nat) : Int),z6,(decide (z7 = 1)),0,⟨#[]⟩,0,0,0,⟨#[]⟩,0,none,0,0⟩ : MgM)) 46):=X8.out;have R9 : Hid (BoxC (w8.drewN q9) R (mgV (zeroG 0)) 46):=R8.out;have L9:=X9.out.ldD)) | (refine wpList_store_doc rfl _ _ rfl R (zeroG 0) rfl rfl (zeroG 0) R9.out ?_))
   exact bodyPost_ret (v:=.tuple #[.agg (mgV (zeroG 0)),.int .i64 2]) (results_mgD Tryz.results6 _ _ R (zeroG 0) rfl (R9.out.fill _)) rfl ⟨.inr ⟨rfl,hno.out⟩,Only.below (BV.trans ((B8.out.trans (below_drewN q9 (Below.refl _ _))).mono BV.size)) (only_fill _ _ _) (by have:=RW.out;omega) (BV.trans (B8.out.mono BV.size)).size⟩
 ·have hf2 : formMg (mgT (⟨((kk : Nat) : Int),0,0,0,false,0,0,zeroM,0,0,none,0,0,none,0,0,i4,j4,((z5 : Nat) : Int),z6,(decide (z7 = 1)),0,⟨#[]⟩,0,0,0,⟨#[]⟩,0,none,0,0⟩ : MgM) noL) = false:=by simpa using hf
  have hno:=hid (doc_no hRes (.inl hf2))
  have cW : Calls Tryz.prog 21 #[.agg (mgV (⟨((kk : Nat) : Int),0,0,0,false,0,0,zeroM,0,0,none,0,0,none,0,0,i4,j4,((z5 : Nat) : Int),z6,(decide (z7 = 1)),0,⟨#[]⟩,0,0,0,⟨#[]⟩,0,none,0,0⟩ : MgM))] V7 fun e w' => ∃ a n c,e = .returned (.tuple #[.slice a n c,.int .i64 2])∧w'.ownsRow V7.heap.size 5 1 (.slice a n c) n (bcells [])∧Below V7.heap.size V7 w':=by rw [hf2] at wr0;exact wr0
  clear wr0 hMn hf hf2 hAt hMF
  go_wp2_with (first | (go_at_call 17;(with_reducible first | refine (cId _).mono ?_ | refine (cGrp _).mono ?_ | refine (cStp _).mono ?_ | refine (cYes _).mono ?_ | refine (cNum _).mono ?_ | refine (cKey _).mono ?_ | refine (cVal _).mono ?_ | refine (cDat _).mono ?_);rintro e wu ⟨rfl,rfl⟩) | (go_at_call 21;((with_reducible refine cW.mono ?_);rintro e w8 ⟨a8,n8,c8,rfl,ho8,hb8⟩;have O8:=hid (BAt.of_own ho8);have M8:=hid (Nat.le_trans (own_caps ho8).1 (own_caps ho8).2);have X8:=hid (K7.out.bx.below hb8);have R8:=hid (K7.out.rx.below hb8);have B8:=hid hb8;have L8:=X8.out.ldD;have I8 : Hid (BAt w8 w8.heap.size a n l):=(HL.out.below (BV.trans (hb8.mono BV.size)) (Nat.le_refl _)).more (BV.trans (hb8.mono BV.size)).size;clear ho8 hb8)) | (refine wpList_store_doc rfl _ _ rfl R (zeroG 0) rfl rfl (zeroG 0) R8.out ?_))
  exact bodyPost_ret (v:=.tuple #[.agg (mgV (zeroG 0)),.int .i64 2]) (results_mgD Tryz.results6 _ _ R (zeroG 0) rfl (R8.out.fill _)) rfl ⟨.inr ⟨rfl,hno.out⟩,Only.below (BV.trans (B8.out.mono BV.size)) (only_fill _ _ _) (by have:=RW.out;omega) (BV.trans (B8.out.mono BV.size)).size⟩
theorem read_pnk (a : Option Addr) (n c kk : Nat) (l : List UInt8) (w : World) (hl : BAt w w.heap.size a n l) (hn : n≤70000) (hnc : n≤c) (hcm : c≤maxLen) (hk : kk < 256) (hz : ∀ z st1,Res (numP 1) (some l) z st1→(st1 = none→z = 0)→kk = z) (ls : List Nat) (hls : lets (letters ((kk : Nat) : Int)) = ls ++ [112,110,107]) (hle : ls = []) (uId : uId ((kk : Nat) : Int) = false) (uGrp : uGrp ((kk : Nat) : Int) = false) (uStp : uStp ((kk : Nat) : Int) = true) (uYes : uYes ((kk : Nat) : Int) = false) (uNum : uNum ((kk : Nat) : Int) = true) (uKey : uKey ((kk : Nat) : Int) = true) (uVal : uVal ((kk : Nat) : Int) = false) (uDat : uDat ((kk : Nat) : Int) = false)
  (cH : ∀ (g : Nat) (W : World) (st1 : St),FS w.heap.size g l st1 W→Calls Tryz.prog 16 #[.pointer (some ⟨g,0,none⟩),.agg (mgV (zeroG ((kk : Nat) : Int)))] W (HeadR W w.heap.size g l ((kk : Nat) : Int) ls st1)) :
  Calls Tryz.prog 6 #[.slice a n c] w (ReadR w l):=by
 obtain ⟨R,hR0⟩ : ∃ R,w.heap.size = R:=⟨_,rfl⟩
 obtain ⟨g,hg0⟩ : ∃ g,R + 1 = g:=⟨_,rfl⟩
 have b1 : Below w.heap.size w (w.alloc (.cells ZL 46)):=(Below.refl _ _).alloc (Nat.le_refl _) _
 have s1 : (w.alloc (.cells ZL 46)).heap.size = w.heap.size + 1:=by simp
 have BEL : Hid (Below w.heap.size w ((w.alloc (.cells ZL 46)).alloc (.cells #[.slice a n c,.int .i64 0,.bool false] 61))):=b1.alloc b1.size _
 have RX0 : Hid (BoxC ((w.alloc (.cells ZL 46)).alloc (.cells #[.slice a n c,.int .i64 0,.bool false] 61)) R (mgV (zeroG 0)) 46):=by
  have h : BoxC (w.alloc (.cells ZL 46)) w.heap.size ZL 46:=BoxC.new w ZL 46
  rw [hR0] at h
  exact h.below ((Below.refl _ _).alloc (Nat.le_refl _) _)
 have FS0 : Hid (FS w.heap.size g l (some l) ((w.alloc (.cells ZL 46)).alloc (.cells #[.slice a n c,.int .i64 0,.bool false] 61))):=by
  refine ⟨0,⟨a,n,c,?_,hnc,hcm,hl.below BEL.out (Nat.le_refl _),Nat.zero_le _,by omega⟩,fun l' e=>by injection e with e;rw [e];rfl⟩
  have h:=BoxC.new (w.alloc (.cells ZL 46)) #[.slice a n c,.int .i64 0,.bool false] 61
  rw [s1,hR0,hg0] at h
  exact h
 have HL:=hid hl
 have HNM : Hid (n≤maxLen):=Nat.le_trans hnc hcm
 have HN7:=hid hn
 have HNC:=hid hnc
 have HCM:=hid hcm
 have RW : Hid (w.heap.size≤R):=by unfold Hid;omega
 have GW : Hid (w.heap.size≤g):=by unfold Hid;omega
 have GR : Hid (R < g):=by unfold Hid;omega
 have HK:=hid hk
 have HZ:=hid hz
 have HLS:=hid hls
 have cId:=fun V=>useId_any ((kk : Nat) : Int) V
 rw [uId] at cId
 have cGrp:=fun V=>useGrp_any ((kk : Nat) : Int) V
 rw [uGrp] at cGrp
 have cStp:=fun V=>useStp_any ((kk : Nat) : Int) V
 rw [uStp] at cStp
 have cYes:=fun V=>useYes_any ((kk : Nat) : Int) V
 rw [uYes] at cYes
 have cNum:=fun V=>useNum_any ((kk : Nat) : Int) V
 rw [uNum] at cNum
 have cKey:=fun V=>useKey_any ((kk : Nat) : Int) V
 rw [uKey] at cKey
 have cVal:=fun V=>useVal_any ((kk : Nat) : Int) V
 rw [uVal] at cVal
 have cDat:=fun V=>useDat_any ((kk : Nat) : Int) V
 rw [uDat] at cDat
 clear hl hn hnc hcm hk hz hls b1 s1 uId uGrp uStp uYes uNum uKey uVal uDat
 go_enter Tryz.func6,Tryz.ntmps6
 go_upto_region 2 with fail
 generalize hV0 : (w.alloc (.cells ZL 46)).alloc (.cells #[.slice a n c,.int .i64 0,.bool false] 61) = V0 at *
 clear hV0
 have cT : Calls Tryz.prog 15 #[.pointer (some ⟨g,0,none⟩),.int .i64 1] V0 (Took1 (FS w.heap.size g l) g numV (numP 1) 0 (some l) V0):=refTakeS_any w.heap.size g l 1 (some l) V0 FS0.out (by omega)
 go_upto_region 3 with (first | (go_at_call 15;((with_reducible refine cT.mono ?_);rintro e w2 ⟨z,st1,rfl,hr2,ho2,hR2,hz2⟩;obtain rfl : kk = z:=HZ.out z st1 hR2 hz2;have D2:=hid hr2;have O2:=hid ho2;have R2:=hid hR2;have hk:=HK.out;have ek:=wrap_i64 kk (by omega);have HX : Hid (BoxC (w2.alloc (.cells ZL 46)) w2.heap.size (mgV (zeroG 0)) 46):=BoxC.new w2 _ _;clear hr2 ho2 hR2 hz2)) | (refine wpList_store_doc rfl _ _ rfl w2.heap.size (zeroG ((kk : Nat) : Int)) rfl rfl (zeroG 0) HX.out ?_))
 obtain ⟨G,hG0⟩ : ∃ G,w2.heap.size = G:=⟨_,rfl⟩
 have g0 : g < V0.heap.size:=FS0.out.lt
 have K1 : Hid (RfB V0 w.heap.size g G R l st1 (mgV (zeroG ((kk : Nat) : Int))) ((w2.alloc (.cells ZL 46)).setRow w2.heap.size (mgV (zeroG ((kk : Nat) : Int))))):=by
  have g2 : g < w2.heap.size:=D2.out.lt
  have hgr:=GR.out
  have oF:=only_fill (w2.alloc (.cells ZL 46)) w2.heap.size (mgV (zeroG ((kk : Nat) : Int)))
  have bA : Below w2.heap.size w2 (w2.alloc (.cells ZL 46)):=(Below.refl _ _).alloc (Nat.le_refl _) _
  have bF : Below w2.heap.size w2 ((w2.alloc (.cells ZL 46)).setRow w2.heap.size (mgV (zeroG ((kk : Nat) : Int)))):=Only.below bA oF (Nat.le_refl _) bA.size
  have x2 : BoxC w2 R (mgV (zeroG 0)) 46:=RX0.out.only O2.out (by omega)
  exact ⟨Keep.keep (g:=g) w2 _ D2.out fun b hb=>bF.block b (by omega),by rw [← hG0];exact HX.out.fill _,x2.below bF,O2.out.trans (below_only bF),g0,by have:=O2.out.size;omega,by omega,by have:=x2.lt;omega⟩
 rw [hG0] at K1
 simp only [hG0]
 clear D2 O2 HX cT RX0 FS0 ek
 generalize (w2.alloc (.cells ZL 46)).setRow G (mgV (zeroG ((kk : Nat) : Int))) = V1 at *
 have x0 : V1.cell? ⟨G,0,none⟩ = some (.int .i64 ((kk : Nat) : Int)):=K1.out.bx.cell 0 _ rfl
 have lG:=K1.out.bx.ldD
 have cHd:=cH g V1 st1 K1.out.rd
 go_upto_region 5 with (first | (go_at_call 16;((with_reducible refine cHd.mono ?_);rintro e w3 ⟨x,Lx,st2,rfl,hr3,ho3,hx3⟩;have K2:=hid (K1.out.only hr3 ho3);have H3:=hid hx3;clear hr3 ho3 hx3)) | (refine wpList_store_doc rfl _ _ rfl G x rfl rfl (zeroG ((kk : Nat) : Int)) K2.out.bx ?_))
 obtain ⟨hx0,hL0,_⟩:=H3.out.same hle
 subst hx0
 subst hL0
 have K3 : Hid (RfB V0 w.heap.size g G R l st2 (mgV (zeroG ((kk : Nat) : Int))) (w3.setRow G (mgV (zeroG ((kk : Nat) : Int))))):=K2.out.fill (mgV (zeroG ((kk : Nat) : Int)))
 clear K1 K2 x0 lG cHd cH
 generalize w3.setRow G (mgV (zeroG ((kk : Nat) : Int))) = V3 at *
 have yh:=K3.out.bx.cell 4 _ rfl
 have c_4:=(show Calls Tryz.prog 15 #[.pointer (some ⟨g,0,none⟩),.int .i64 8] V3 (Took1 (FS w.heap.size g l) g numV (numP 8) 0 st2 V3) from refTakeS_any w.heap.size g l 8 st2 V3 K3.out.rd (by omega))
 go_upto_region 11 with (first | (go_at_call 17;(with_reducible first | refine (cId _).mono ?_ | refine (cGrp _).mono ?_ | refine (cStp _).mono ?_ | refine (cYes _).mono ?_ | refine (cNum _).mono ?_ | refine (cKey _).mono ?_ | refine (cVal _).mono ?_ | refine (cDat _).mono ?_);rintro e wu ⟨rfl,rfl⟩) | (go_at_call 15;((with_reducible refine c_4.mono ?_);rintro e w4 ⟨z4,st4,rfl,hr,ho,hR,hz⟩;have H4:=hid (K3.out.only hr ho);have R4:=hid hR;have y4_24:=H4.out.bx.cell 24 _ rfl;have f4_24:=H4.out.bx.frozen 24;  have hb4 : z4 < 18446744073709551616:=num_lt hR hz (by decide);clear hz;clear hr ho hR)))
 have K4 : Hid (RfB V0 w.heap.size g G R l st4 (mgV (⟨((kk : Nat) : Int),0,0,0,false,0,0,zeroM,0,0,none,0,0,none,0,0,0,0,0,z4,false,0,⟨#[]⟩,0,0,0,⟨#[]⟩,0,none,0,0⟩ : MgM)) ((w4.setCell ⟨G,24,none⟩ (.int .u64 ((z4 : Nat) : Int))))):=((H4.out.set 24 (.int .u64 ((z4 : Nat) : Int)))).eq (by apply Array.ext';simp only [Array.toList_setIfInBounds];rfl)
 clear H4 K3 c_4 yh y4_24 f4_24
 generalize (w4.setCell ⟨G,24,none⟩ (.int .u64 ((z4 : Nat) : Int))) = V4 at *
 have yh:=K4.out.bx.cell 4 _ rfl
 have c_5:=(show Calls Tryz.prog 15 #[.pointer (some ⟨g,0,none⟩),.int .i64 4] V4 (Took1 (FS w.heap.size g l) g numV (numP 4) 0 st4 V4) from refTakeS_any w.heap.size g l 4 st4 V4 K4.out.rd (by omega))
 go_upto_region 15 with (first | (go_at_call 17;(with_reducible first | refine (cId _).mono ?_ | refine (cGrp _).mono ?_ | refine (cStp _).mono ?_ | refine (cYes _).mono ?_ | refine (cNum _).mono ?_ | refine (cKey _).mono ?_ | refine (cVal _).mono ?_ | refine (cDat _).mono ?_);rintro e wu ⟨rfl,rfl⟩) | (go_at_call 15;((with_reducible refine c_5.mono ?_);rintro e w5 ⟨z5,st5,rfl,hr,ho,hR,hz⟩;have H5:=hid (K4.out.only hr ho);have R5:=hid hR;have y5_26:=H5.out.bx.cell 26 _ rfl;have f5_26:=H5.out.bx.frozen 26;  have hb5 : z5 < 4294967296:=num_lt hR hz (by decide);have ez5:=wrap_i64 z5 (by omega);clear hz;clear hr ho hR)))
 have K5 : Hid (RfB V0 w.heap.size g G R l st5 (mgV (⟨((kk : Nat) : Int),0,0,0,false,0,0,zeroM,0,0,none,0,0,none,0,0,0,0,0,z4,false,((z5 : Nat) : Int),⟨#[]⟩,0,0,0,⟨#[]⟩,0,none,0,0⟩ : MgM)) ((w5.setCell ⟨G,26,none⟩ (.int .i64 ((z5 : Nat) : Int))))):=((H5.out.set 26 (.int .i64 ((z5 : Nat) : Int)))).eq (by apply Array.ext';simp only [Array.toList_setIfInBounds];rfl)
 clear H5 K4 c_5 yh y5_26 f5_26
 generalize (w5.setCell ⟨G,26,none⟩ (.int .i64 ((z5 : Nat) : Int))) = V5 at *
 have yh:=K5.out.bx.cell 4 _ rfl
 have c_6:=(show Calls Tryz.prog 19 #[.pointer (some ⟨g,0,none⟩),.int .i64 12] V5 (Took1 (FS w.heap.size g l) g textV (textP 12) [] st5 V5) from refTakeTextS_any w.heap.size g l 12 st5 V5 K5.out.rd)
 go_upto_region 17 with (first | (go_at_call 17;(with_reducible first | refine (cId _).mono ?_ | refine (cGrp _).mono ?_ | refine (cStp _).mono ?_ | refine (cYes _).mono ?_ | refine (cNum _).mono ?_ | refine (cKey _).mono ?_ | refine (cVal _).mono ?_ | refine (cDat _).mono ?_);rintro e wu ⟨rfl,rfl⟩) | (go_at_call 19;((with_reducible refine c_6.mono ?_);rintro e w6 ⟨z6,st6,rfl,hr,ho,hR,hz⟩;have H6:=hid (K5.out.only hr ho);have R6:=hid hR;have y6_27:=H6.out.bx.cell 27 _ rfl;have f6_27:=H6.out.bx.frozen 27;  have hb6 : z6.length≤12:=text_le hR hz;clear hz;clear hr ho hR)))
 have K6 : Hid (RfB V0 w.heap.size g G R l st6 (mgV (⟨((kk : Nat) : Int),0,0,0,false,0,0,zeroM,0,0,none,0,0,none,0,0,0,0,0,z4,false,((z5 : Nat) : Int),⟨z6.toArray⟩,0,0,0,⟨#[]⟩,0,none,0,0⟩ : MgM)) ((w6.setCell ⟨G,27,none⟩ (.string ⟨z6.toArray⟩)))):=((H6.out.set 27 (.string ⟨z6.toArray⟩))).eq (by apply Array.ext';simp only [Array.toList_setIfInBounds];rfl)
 clear H6 K5 c_6 yh y6_27 f6_27
 generalize (w6.setCell ⟨G,27,none⟩ (.string ⟨z6.toArray⟩)) = V6 at *
 have hB : Bare (⟨((kk : Nat) : Int),0,0,0,false,0,0,zeroM,0,0,none,0,0,none,0,0,0,0,0,z4,false,((z5 : Nat) : Int),⟨z6.toArray⟩,0,0,0,⟨#[]⟩,0,none,0,0⟩ : MgM):=⟨rfl,⟨rfl,rfl,rfl,rfl⟩,rfl⟩
 have hAt : MgAt V6 (⟨((kk : Nat) : Int),0,0,0,false,0,0,zeroM,0,0,none,0,0,none,0,0,0,0,0,z4,false,((z5 : Nat) : Int),⟨z6.toArray⟩,0,0,0,⟨#[]⟩,0,none,0,0⟩ : MgM) noL:=Bare.at_ hB ⟨(by show 0 < 4294967296;decide),(by show 0 < 4294967296;decide),hb4,(by show 0 < 18446744073709551616;decide),(by show 0 < 18446744073709551616;decide),(by show z6.toArray.size≤maxLen;rw [List.size_toArray];unfold maxLen;omega),(Nat.zero_le _)⟩
 have hMF : MgF (⟨((kk : Nat) : Int),0,0,0,false,0,0,zeroM,0,0,none,0,0,none,0,0,0,0,0,z4,false,((z5 : Nat) : Int),⟨z6.toArray⟩,0,0,0,⟨#[]⟩,0,none,0,0⟩ : MgM):=hB.f
 have hRes : Res rdD (some l) (mgT (⟨((kk : Nat) : Int),0,0,0,false,0,0,zeroM,0,0,none,0,0,none,0,0,0,0,0,z4,false,((z5 : Nat) : Int),⟨z6.toArray⟩,0,0,0,⟨#[]⟩,0,none,0,0⟩ : MgM) noL) st6:=by
  refine Res.bind (x:=((kk : Nat) : Int)) (res_numI R2.out) ?_
  rw [HLS.out,fldsD_app]
  exact Res.bind (x:=mgT (zeroG ((kk : Nat) : Int)) noL) H3.out.res (Res.bind (x:=mgT ((⟨((kk : Nat) : Int),0,0,0,false,0,0,zeroM,0,0,none,0,0,none,0,0,0,0,0,z4,false,0,⟨#[]⟩,0,0,0,⟨#[]⟩,0,none,0,0⟩ : MgM) : MgM) noL) (Res.bind (x:=z4) R4.out (Res.pure _ _)) (Res.bind (x:=mgT ((⟨((kk : Nat) : Int),0,0,0,false,0,0,zeroM,0,0,none,0,0,none,0,0,0,0,0,z4,false,((z5 : Nat) : Int),⟨#[]⟩,0,0,0,⟨#[]⟩,0,none,0,0⟩ : MgM) : MgM) noL) (Res.bind (x:=((z5 : Nat) : Int)) (res_numI R5.out) (Res.pure _ _)) (Res.bind (x:=mgT ((⟨((kk : Nat) : Int),0,0,0,false,0,0,zeroM,0,0,none,0,0,none,0,0,0,0,0,z4,false,((z5 : Nat) : Int),⟨z6.toArray⟩,0,0,0,⟨#[]⟩,0,none,0,0⟩ : MgM) : MgM) noL) (Res.bind (x:=z6) R6.out (Res.pure _ _)) (Res.pure _ _))))
 have hMn:=hAt.ok
 have BV : Below w.heap.size w V6:=Only.below BEL.out K6.out.onl (by have:=GW.out;omega) BEL.out.size
 have lG:=K6.out.bx.ldD
 have wr0:=rWrite_any hAt hMF
 have HAT:=hid hAt
 have HMF:=hid hMF
 by_cases hf : formMg (mgT (⟨((kk : Nat) : Int),0,0,0,false,0,0,zeroM,0,0,none,0,0,none,0,0,0,0,0,z4,false,((z5 : Nat) : Int),⟨z6.toArray⟩,0,0,0,⟨#[]⟩,0,none,0,0⟩ : MgM) noL) = true
 ·by_cases he : mgB (mgT (⟨((kk : Nat) : Int),0,0,0,false,0,0,zeroM,0,0,none,0,0,none,0,0,0,0,0,z4,false,((z5 : Nat) : Int),⟨z6.toArray⟩,0,0,0,⟨#[]⟩,0,none,0,0⟩ : MgM) noL) = l
  ·have hyes:=hid (doc_yes hMn hf he)
   have cW : Calls Tryz.prog 21 #[.agg (mgV (⟨((kk : Nat) : Int),0,0,0,false,0,0,zeroM,0,0,none,0,0,none,0,0,0,0,0,z4,false,((z5 : Nat) : Int),⟨z6.toArray⟩,0,0,0,⟨#[]⟩,0,none,0,0⟩ : MgM))] V6 fun e w' => ∃ a n c,e = .returned (.tuple #[.slice a n c,.int .i64 0])∧w'.ownsRow V6.heap.size 5 1 (.slice a n c) n (bcells l)∧Below V6.heap.size V6 w':=by rw [hf,he] at wr0;exact wr0
   have cS : ∀ (U : World) (a' : Option Addr) (n' c' : Nat),BAt U U.heap.size a' n' l→BAt U U.heap.size a n l→n'≤maxLen→Calls Tryz.prog 22 #[.slice a n c,.slice a' n' c'] U (Reads1 U (.bool true)):=fun U a' n' c' h1 h2 h3=>by
    have h:=same_any a a' n n' c c' _ _ l l U h2 h1 HNM.out h3
    rw [decide_eq_true rfl] at h;exact h
   clear wr0 hMn hf he hAt hMF
   go_wp2_with (first | (go_at_call 17;(with_reducible first | refine (cId _).mono ?_ | refine (cGrp _).mono ?_ | refine (cStp _).mono ?_ | refine (cYes _).mono ?_ | refine (cNum _).mono ?_ | refine (cKey _).mono ?_ | refine (cVal _).mono ?_ | refine (cDat _).mono ?_);rintro e wu ⟨rfl,rfl⟩) | (go_at_call 21;((with_reducible refine cW.mono ?_);rintro e w8 ⟨a8,n8,c8,rfl,ho8,hb8⟩;have O8:=hid (BAt.of_own ho8);have M8:=hid (Nat.le_trans (own_caps ho8).1 (own_caps ho8).2);have X8:=hid (K6.out.bx.below hb8);have R8:=hid (K6.out.rx.below hb8);have B8:=hid hb8;have L8:=X8.out.ldD;have I8 : Hid (BAt w8 w8.heap.size a n l):=(HL.out.below (BV.trans (hb8.mono BV.size)) (Nat.le_refl _)).more (BV.trans (hb8.mono BV.size)).size;clear ho8 hb8)) | (go_at_call 22;((with_reducible refine (cS w8 a8 n8 c8 O8.out I8.out M8.out).mono ?_);rintro e w9 ⟨rfl,q9,rfl⟩;have X9 : Hid (BoxC (w8.drewN q9) G (mgV (⟨((kk : Nat) : Int),0,0,0,false,0,0,zeroM,0,0,none,0,0,none,0,0,0,0,0,z4,false,((z5 : Nat) : Int),⟨z6.toArray⟩,0,0,0,⟨#[]⟩,0,none,0,0⟩ : MgM)) 46):=X8.out;have R9 : Hid (BoxC (w8.drewN q9) R (mgV (zeroG 0)) 46):=R8.out;have L9:=X9.out.ldD)) | (refine wpList_store_doc rfl _ _ rfl R (⟨((kk : Nat) : Int),0,0,0,false,0,0,zeroM,0,0,none,0,0,none,0,0,0,0,0,z4,false,((z5 : Nat) : Int),⟨z6.toArray⟩,0,0,0,⟨#[]⟩,0,none,0,0⟩ : MgM) rfl rfl (zeroG 0) R9.out ?_))
   exact bodyPost_ret (v:=.tuple #[.agg (mgV (⟨((kk : Nat) : Int),0,0,0,false,0,0,zeroM,0,0,none,0,0,none,0,0,0,0,0,z4,false,((z5 : Nat) : Int),⟨z6.toArray⟩,0,0,0,⟨#[]⟩,0,none,0,0⟩ : MgM)),.int .i64 0]) (results_mgD Tryz.results6 _ _ R (⟨((kk : Nat) : Int),0,0,0,false,0,0,zeroM,0,0,none,0,0,none,0,0,0,0,0,z4,false,((z5 : Nat) : Int),⟨z6.toArray⟩,0,0,0,⟨#[]⟩,0,none,0,0⟩ : MgM) rfl (R9.out.fill _)) rfl ⟨.inl ⟨(⟨((kk : Nat) : Int),0,0,0,false,0,0,zeroM,0,0,none,0,0,none,0,0,0,0,0,z4,false,((z5 : Nat) : Int),⟨z6.toArray⟩,0,0,0,⟨#[]⟩,0,none,0,0⟩ : MgM),noL,rfl,(HAT.out.later (B8.out.trans (below_drewN q9 (Below.refl _ _)))).fill2 R9.out fst_nil fst_nil,HMF.out,hyes.out⟩,Only.below (BV.trans ((B8.out.trans (below_drewN q9 (Below.refl _ _))).mono BV.size)) (only_fill _ _ _) (by have:=RW.out;omega) (BV.trans (B8.out.mono BV.size)).size⟩
  ·have hno:=hid (doc_no hRes (.inr he))
   have cW : Calls Tryz.prog 21 #[.agg (mgV (⟨((kk : Nat) : Int),0,0,0,false,0,0,zeroM,0,0,none,0,0,none,0,0,0,0,0,z4,false,((z5 : Nat) : Int),⟨z6.toArray⟩,0,0,0,⟨#[]⟩,0,none,0,0⟩ : MgM))] V6 fun e w' => ∃ a n c,e = .returned (.tuple #[.slice a n c,.int .i64 0])∧w'.ownsRow V6.heap.size 5 1 (.slice a n c) n (bcells (mgB (mgT (⟨((kk : Nat) : Int),0,0,0,false,0,0,zeroM,0,0,none,0,0,none,0,0,0,0,0,z4,false,((z5 : Nat) : Int),⟨z6.toArray⟩,0,0,0,⟨#[]⟩,0,none,0,0⟩ : MgM) noL)))∧Below V6.heap.size V6 w':=by rw [hf] at wr0;exact wr0
   have cS : ∀ (U : World) (a' : Option Addr) (n' c' : Nat),BAt U U.heap.size a' n' (mgB (mgT (⟨((kk : Nat) : Int),0,0,0,false,0,0,zeroM,0,0,none,0,0,none,0,0,0,0,0,z4,false,((z5 : Nat) : Int),⟨z6.toArray⟩,0,0,0,⟨#[]⟩,0,none,0,0⟩ : MgM) noL))→BAt U U.heap.size a n l→n'≤maxLen→Calls Tryz.prog 22 #[.slice a n c,.slice a' n' c'] U (Reads1 U (.bool false)):=fun U a' n' c' h1 h2 h3=>by
    have h:=same_any a a' n n' c c' _ _ l (mgB (mgT (⟨((kk : Nat) : Int),0,0,0,false,0,0,zeroM,0,0,none,0,0,none,0,0,0,0,0,z4,false,((z5 : Nat) : Int),⟨z6.toArray⟩,0,0,0,⟨#[]⟩,0,none,0,0⟩ : MgM) noL)) U h2 h1 HNM.out h3
    rw [decide_eq_false (fun e=>he e.symm)] at h;exact h
   clear wr0 hMn hf he hAt hMF
   go_wp2_with (first | (go_at_call 17;(with_reducible first | refine (cId _).mono ?_ | refine (cGrp _).mono ?_ | refine (cStp _).mono ?_ | refine (cYes _).mono ?_ | refine (cNum _).mono ?_ | refine (cKey _).mono ?_ | refine (cVal _).mono ?_ | refine (cDat _).mono ?_);rintro e wu ⟨rfl,rfl⟩) | (go_at_call 21;((with_reducible refine cW.mono ?_);rintro e w8 ⟨a8,n8,c8,rfl,ho8,hb8⟩;have O8:=hid (BAt.of_own ho8);have M8:=hid (Nat.le_trans (own_caps ho8).1 (own_caps ho8).2);have X8:=hid (K6.out.bx.below hb8);have R8:=hid (K6.out.rx.below hb8);have B8:=hid hb8;have L8:=X8.out.ldD;have I8 : Hid (BAt w8 w8.heap.size a n l):=(HL.out.below (BV.trans (hb8.mono BV.size)) (Nat.le_refl _)).more (BV.trans (hb8.mono BV.size)).size;clear ho8 hb8)) | (go_at_call 22;((with_reducible refine (cS w8 a8 n8 c8 O8.out I8.out M8.out).mono ?_);rintro e w9 ⟨rfl,q9,rfl⟩;have X9 : Hid (BoxC (w8.drewN q9) G (mgV (⟨((kk : Nat) : Int),0,0,0,false,0,0,zeroM,0,0,none,0,0,none,0,0,0,0,0,z4,false,((z5 : Nat) : Int),⟨z6.toArray⟩,0,0,0,⟨#[]⟩,0,none,0,0⟩ : MgM)) 46):=X8.out;have R9 : Hid (BoxC (w8.drewN q9) R (mgV (zeroG 0)) 46):=R8.out;have L9:=X9.out.ldD)) | (refine wpList_store_doc rfl _ _ rfl R (zeroG 0) rfl rfl (zeroG 0) R9.out ?_))
   exact bodyPost_ret (v:=.tuple #[.agg (mgV (zeroG 0)),.int .i64 2]) (results_mgD Tryz.results6 _ _ R (zeroG 0) rfl (R9.out.fill _)) rfl ⟨.inr ⟨rfl,hno.out⟩,Only.below (BV.trans ((B8.out.trans (below_drewN q9 (Below.refl _ _))).mono BV.size)) (only_fill _ _ _) (by have:=RW.out;omega) (BV.trans (B8.out.mono BV.size)).size⟩
 ·have hf2 : formMg (mgT (⟨((kk : Nat) : Int),0,0,0,false,0,0,zeroM,0,0,none,0,0,none,0,0,0,0,0,z4,false,((z5 : Nat) : Int),⟨z6.toArray⟩,0,0,0,⟨#[]⟩,0,none,0,0⟩ : MgM) noL) = false:=by simpa using hf
  have hno:=hid (doc_no hRes (.inl hf2))
  have cW : Calls Tryz.prog 21 #[.agg (mgV (⟨((kk : Nat) : Int),0,0,0,false,0,0,zeroM,0,0,none,0,0,none,0,0,0,0,0,z4,false,((z5 : Nat) : Int),⟨z6.toArray⟩,0,0,0,⟨#[]⟩,0,none,0,0⟩ : MgM))] V6 fun e w' => ∃ a n c,e = .returned (.tuple #[.slice a n c,.int .i64 2])∧w'.ownsRow V6.heap.size 5 1 (.slice a n c) n (bcells [])∧Below V6.heap.size V6 w':=by rw [hf2] at wr0;exact wr0
  clear wr0 hMn hf hf2 hAt hMF
  go_wp2_with (first | (go_at_call 17;(with_reducible first | refine (cId _).mono ?_ | refine (cGrp _).mono ?_ | refine (cStp _).mono ?_ | refine (cYes _).mono ?_ | refine (cNum _).mono ?_ | refine (cKey _).mono ?_ | refine (cVal _).mono ?_ | refine (cDat _).mono ?_);rintro e wu ⟨rfl,rfl⟩) | (go_at_call 21;((with_reducible refine cW.mono ?_);rintro e w8 ⟨a8,n8,c8,rfl,ho8,hb8⟩;have O8:=hid (BAt.of_own ho8);have M8:=hid (Nat.le_trans (own_caps ho8).1 (own_caps ho8).2);have X8:=hid (K6.out.bx.below hb8);have R8:=hid (K6.out.rx.below hb8);have B8:=hid hb8;have L8:=X8.out.ldD;have I8 : Hid (BAt w8 w8.heap.size a n l):=(HL.out.below (BV.trans (hb8.mono BV.size)) (Nat.le_refl _)).more (BV.trans (hb8.mono BV.size)).size;clear ho8 hb8)) | (refine wpList_store_doc rfl _ _ rfl R (zeroG 0) rfl rfl (zeroG 0) R8.out ?_))
  exact bodyPost_ret (v:=.tuple #[.agg (mgV (zeroG 0)),.int .i64 2]) (results_mgD Tryz.results6 _ _ R (zeroG 0) rfl (R8.out.fill _)) rfl ⟨.inr ⟨rfl,hno.out⟩,Only.below (BV.trans (B8.out.mono BV.size)) (only_fill _ _ _) (by have:=RW.out;omega) (BV.trans (B8.out.mono BV.size)).size⟩
theorem read_val (a : Option Addr) (n c kk : Nat) (l : List UInt8) (w : World) (hl : BAt w w.heap.size a n l) (hn : n≤70000) (hnc : n≤c) (hcm : c≤maxLen) (hk : kk < 256) (hz : ∀ z st1,Res (numP 1) (some l) z st1→(st1 = none→z = 0)→kk = z) (ls : List Nat) (hls : lets (letters ((kk : Nat) : Int)) = ls ++ [103,112,110,107,118,120,101]) (hle : ls = []) (uId : uId ((kk : Nat) : Int) = false) (uGrp : uGrp ((kk : Nat) : Int) = true) (uStp : uStp ((kk : Nat) : Int) = true) (uYes : uYes ((kk : Nat) : Int) = false) (uNum : uNum ((kk : Nat) : Int) = true) (uKey : uKey ((kk : Nat) : Int) = true) (uVal : uVal ((kk : Nat) : Int) = true) (uDat : uDat ((kk : Nat) : Int) = false)
  (cH : ∀ (g : Nat) (W : World) (st1 : St),FS w.heap.size g l st1 W→Calls Tryz.prog 16 #[.pointer (some ⟨g,0,none⟩),.agg (mgV (zeroG ((kk : Nat) : Int)))] W (HeadR W w.heap.size g l ((kk : Nat) : Int) ls st1)) :
  Calls Tryz.prog 6 #[.slice a n c] w (ReadR w l):=by
 obtain ⟨R,hR0⟩ : ∃ R,w.heap.size = R:=⟨_,rfl⟩
 obtain ⟨g,hg0⟩ : ∃ g,R + 1 = g:=⟨_,rfl⟩
 have b1 : Below w.heap.size w (w.alloc (.cells ZL 46)):=(Below.refl _ _).alloc (Nat.le_refl _) _
 have s1 : (w.alloc (.cells ZL 46)).heap.size = w.heap.size + 1:=by simp
 have BEL : Hid (Below w.heap.size w ((w.alloc (.cells ZL 46)).alloc (.cells #[.slice a n c,.int .i64 0,.bool false] 61))):=b1.alloc b1.size _
 have RX0 : Hid (BoxC ((w.alloc (.cells ZL 46)).alloc (.cells #[.slice a n c,.int .i64 0,.bool false] 61)) R (mgV (zeroG 0)) 46):=by
  have h : BoxC (w.alloc (.cells ZL 46)) w.heap.size ZL 46:=BoxC.new w ZL 46
  rw [hR0] at h
  exact h.below ((Below.refl _ _).alloc (Nat.le_refl _) _)
 have FS0 : Hid (FS w.heap.size g l (some l) ((w.alloc (.cells ZL 46)).alloc (.cells #[.slice a n c,.int .i64 0,.bool false] 61))):=by
  refine ⟨0,⟨a,n,c,?_,hnc,hcm,hl.below BEL.out (Nat.le_refl _),Nat.zero_le _,by omega⟩,fun l' e=>by injection e with e;rw [e];rfl⟩
  have h:=BoxC.new (w.alloc (.cells ZL 46)) #[.slice a n c,.int .i64 0,.bool false] 61
  rw [s1,hR0,hg0] at h
  exact h
 have HL:=hid hl
 have HNM : Hid (n≤maxLen):=Nat.le_trans hnc hcm
 have HN7:=hid hn
 have HNC:=hid hnc
 have HCM:=hid hcm
 have RW : Hid (w.heap.size≤R):=by unfold Hid;omega
 have GW : Hid (w.heap.size≤g):=by unfold Hid;omega
 have GR : Hid (R < g):=by unfold Hid;omega
 have HK:=hid hk
 have HZ:=hid hz
 have HLS:=hid hls
 have cId:=fun V=>useId_any ((kk : Nat) : Int) V
 rw [uId] at cId
 have cGrp:=fun V=>useGrp_any ((kk : Nat) : Int) V
 rw [uGrp] at cGrp
 have cStp:=fun V=>useStp_any ((kk : Nat) : Int) V
 rw [uStp] at cStp
 have cYes:=fun V=>useYes_any ((kk : Nat) : Int) V
 rw [uYes] at cYes
 have cNum:=fun V=>useNum_any ((kk : Nat) : Int) V
 rw [uNum] at cNum
 have cKey:=fun V=>useKey_any ((kk : Nat) : Int) V
 rw [uKey] at cKey
 have cVal:=fun V=>useVal_any ((kk : Nat) : Int) V
 rw [uVal] at cVal
 have cDat:=fun V=>useDat_any ((kk : Nat) : Int) V
 rw [uDat] at cDat
 clear hl hn hnc hcm hk hz hls b1 s1 uId uGrp uStp uYes uNum uKey uVal uDat
 go_enter Tryz.func6,Tryz.ntmps6
 go_upto_region 2 with fail
 generalize hV0 : (w.alloc (.cells ZL 46)).alloc (.cells #[.slice a n c,.int .i64 0,.bool false] 61) = V0 at *
 clear hV0
 have cT : Calls Tryz.prog 15 #[.pointer (some ⟨g,0,none⟩),.int .i64 1] V0 (Took1 (FS w.heap.size g l) g numV (numP 1) 0 (some l) V0):=refTakeS_any w.heap.size g l 1 (some l) V0 FS0.out (by omega)
 go_upto_region 3 with (first | (go_at_call 15;((with_reducible refine cT.mono ?_);rintro e w2 ⟨z,st1,rfl,hr2,ho2,hR2,hz2⟩;obtain rfl : kk = z:=HZ.out z st1 hR2 hz2;have D2:=hid hr2;have O2:=hid ho2;have R2:=hid hR2;have hk:=HK.out;have ek:=wrap_i64 kk (by omega);have HX : Hid (BoxC (w2.alloc (.cells ZL 46)) w2.heap.size (mgV (zeroG 0)) 46):=BoxC.new w2 _ _;clear hr2 ho2 hR2 hz2)) | (refine wpList_store_doc rfl _ _ rfl w2.heap.size (zeroG ((kk : Nat) : Int)) rfl rfl (zeroG 0) HX.out ?_))
 obtain ⟨G,hG0⟩ : ∃ G,w2.heap.size = G:=⟨_,rfl⟩
 have g0 : g < V0.heap.size:=FS0.out.lt
 have K1 : Hid (RfB V0 w.heap.size g G R l st1 (mgV (zeroG ((kk : Nat) : Int))) ((w2.alloc (.cells ZL 46)).setRow w2.heap.size (mgV (zeroG ((kk : Nat) : Int))))):=by
  have g2 : g < w2.heap.size:=D2.out.lt
  have hgr:=GR.out
  have oF:=only_fill (w2.alloc (.cells ZL 46)) w2.heap.size (mgV (zeroG ((kk : Nat) : Int)))
  have bA : Below w2.heap.size w2 (w2.alloc (.cells ZL 46)):=(Below.refl _ _).alloc (Nat.le_refl _) _
  have bF : Below w2.heap.size w2 ((w2.alloc (.cells ZL 46)).setRow w2.heap.size (mgV (zeroG ((kk : Nat) : Int)))):=Only.below bA oF (Nat.le_refl _) bA.size
  have x2 : BoxC w2 R (mgV (zeroG 0)) 46:=RX0.out.only O2.out (by omega)
  exact ⟨Keep.keep (g:=g) w2 _ D2.out fun b hb=>bF.block b (by omega),by rw [← hG0];exact HX.out.fill _,x2.below bF,O2.out.trans (below_only bF),g0,by have:=O2.out.size;omega,by omega,by have:=x2.lt;omega⟩
 rw [hG0] at K1
 simp only [hG0]
 clear D2 O2 HX cT RX0 FS0 ek
 generalize (w2.alloc (.cells ZL 46)).setRow G (mgV (zeroG ((kk : Nat) : Int))) = V1 at *
 have x0 : V1.cell? ⟨G,0,none⟩ = some (.int .i64 ((kk : Nat) : Int)):=K1.out.bx.cell 0 _ rfl
 have lG:=K1.out.bx.ldD
 have cHd:=cH g V1 st1 K1.out.rd
 go_upto_region 5 with (first | (go_at_call 16;((with_reducible refine cHd.mono ?_);rintro e w3 ⟨x,Lx,st2,rfl,hr3,ho3,hx3⟩;have K2:=hid (K1.out.only hr3 ho3);have H3:=hid hx3;clear hr3 ho3 hx3)) | (refine wpList_store_doc rfl _ _ rfl G x rfl rfl (zeroG ((kk : Nat) : Int)) K2.out.bx ?_))
 obtain ⟨hx0,hL0,_⟩:=H3.out.same hle
 subst hx0
 subst hL0
 have K3 : Hid (RfB V0 w.heap.size g G R l st2 (mgV (zeroG ((kk : Nat) : Int))) (w3.setRow G (mgV (zeroG ((kk : Nat) : Int))))):=K2.out.fill (mgV (zeroG ((kk : Nat) : Int)))
 clear K1 K2 x0 lG cHd cH
 generalize w3.setRow G (mgV (zeroG ((kk : Nat) : Int))) = V3 at *
 have yh:=K3.out.bx.cell 4 _ rfl
 have c_4:=(show Calls Tryz.prog 15 #[.pointer (some ⟨g,0,none⟩),.int .i64 1] V3 (Took1 (FS w.heap.size g l) g numV (numP 1) 0 st2 V3) from refTakeS_any w.heap.size g l 1 st2 V3 K3.out.rd (by omega))
 go_upto_region 9 with (first | (go_at_call 17;(with_reducible first | refine (cId _).mono ?_ | refine (cGrp _).mono ?_ | refine (cStp _).mono ?_ | refine (cYes _).mono ?_ | refine (cNum _).mono ?_ | refine (cKey _).mono ?_ | refine (cVal _).mono ?_ | refine (cDat _).mono ?_);rintro e wu ⟨rfl,rfl⟩) | (go_at_call 15;((with_reducible refine c_4.mono ?_);rintro e w4 ⟨z4,st4,rfl,hr,ho,hR,hz⟩;have H4:=hid (K3.out.only hr ho);have R4:=hid hR;have y4_23:=H4.out.bx.cell 23 _ rfl;have f4_23:=H4.out.bx.frozen 23;  have hb4 : z4 < 256:=num_lt hR hz (by decide);have ez4:=wrap_i64 z4 (by omega);clear hz;clear hr ho hR)))
 have K4 : Hid (RfB V0 w.heap.size g G R l st4 (mgV (⟨((kk : Nat) : Int),0,0,0,false,0,0,zeroM,0,0,none,0,0,none,0,0,0,0,((z4 : Nat) : Int),0,false,0,⟨#[]⟩,0,0,0,⟨#[]⟩,0,none,0,0⟩ : MgM)) ((w4.setCell ⟨G,23,none⟩ (.int .i64 ((z4 : Nat) : Int))))):=((H4.out.set 23 (.int .i64 ((z4 : Nat) : Int)))).eq (by apply Array.ext';simp only [Array.toList_setIfInBounds];rfl)
 clear H4 K3 c_4 yh y4_23 f4_23
 generalize (w4.setCell ⟨G,23,none⟩ (.int .i64 ((z4 : Nat) : Int))) = V4 at *
 have yh:=K4.out.bx.cell 4 _ rfl
 have c_5:=(show Calls Tryz.prog 15 #[.pointer (some ⟨g,0,none⟩),.int .i64 8] V4 (Took1 (FS w.heap.size g l) g numV (numP 8) 0 st4 V4) from refTakeS_any w.heap.size g l 8 st4 V4 K4.out.rd (by omega))
 go_upto_region 11 with (first | (go_at_call 17;(with_reducible first | refine (cId _).mono ?_ | refine (cGrp _).mono ?_ | refine (cStp _).mono ?_ | refine (cYes _).mono ?_ | refine (cNum _).mono ?_ | refine (cKey _).mono ?_ | refine (cVal _).mono ?_ | refine (cDat _).mono ?_);rintro e wu ⟨rfl,rfl⟩) | (go_at_call 15;((with_reducible refine c_5.mono ?_);rintro e w5 ⟨z5,st5,rfl,hr,ho,hR,hz⟩;have H5:=hid (K4.out.only hr ho);have R5:=hid hR;have y5_24:=H5.out.bx.cell 24 _ rfl;have f5_24:=H5.out.bx.frozen 24;  have hb5 : z5 < 18446744073709551616:=num_lt hR hz (by decide);clear hz;clear hr ho hR)))
 have K5 : Hid (RfB V0 w.heap.size g G R l st5 (mgV (⟨((kk : Nat) : Int),0,0,0,false,0,0,zeroM,0,0,none,0,0,none,0,0,0,0,((z4 : Nat) : Int),z5,false,0,⟨#[]⟩,0,0,0,⟨#[]⟩,0,none,0,0⟩ : MgM)) ((w5.setCell ⟨G,24,none⟩ (.int .u64 ((z5 : Nat) : Int))))):=((H5.out.set 24 (.int .u64 ((z5 : Nat) : Int)))).eq (by apply Array.ext';simp only [Array.toList_setIfInBounds];rfl)
 clear H5 K4 c_5 yh y5_24 f5_24
 generalize (w5.setCell ⟨G,24,none⟩ (.int .u64 ((z5 : Nat) : Int))) = V5 at *
 have yh:=K5.out.bx.cell 4 _ rfl
 have c_6:=(show Calls Tryz.prog 15 #[.pointer (some ⟨g,0,none⟩),.int .i64 4] V5 (Took1 (FS w.heap.size g l) g numV (numP 4) 0 st5 V5) from refTakeS_any w.heap.size g l 4 st5 V5 K5.out.rd (by omega))
 go_upto_region 15 with (first | (go_at_call 17;(with_reducible first | refine (cId _).mono ?_ | refine (cGrp _).mono ?_ | refine (cStp _).mono ?_ | refine (cYes _).mono ?_ | refine (cNum _).mono ?_ | refine (cKey _).mono ?_ | refine (cVal _).mono ?_ | refine (cDat _).mono ?_);rintro e wu ⟨rfl,rfl⟩) | (go_at_call 15;((with_reducible refine c_6.mono ?_);rintro e w6 ⟨z6,st6,rfl,hr,ho,hR,hz⟩;have H6:=hid (K5.out.only hr ho);have R6:=hid hR;have y6_26:=H6.out.bx.cell 26 _ rfl;have f6_26:=H6.out.bx.frozen 26;  have hb6 : z6 < 4294967296:=num_lt hR hz (by decide);have ez6:=wrap_i64 z6 (by omega);clear hz;clear hr ho hR)))
 have K6 : Hid (RfB V0 w.heap.size g G R l st6 (mgV (⟨((kk : Nat) : Int),0,0,0,false,0,0,zeroM,0,0,none,0,0,none,0,0,0,0,((z4 : Nat) : Int),z5,false,((z6 : Nat) : Int),⟨#[]⟩,0,0,0,⟨#[]⟩,0,none,0,0⟩ : MgM)) ((w6.setCell ⟨G,26,none⟩ (.int .i64 ((z6 : Nat) : Int))))):=((H6.out.set 26 (.int .i64 ((z6 : Nat) : Int)))).eq (by apply Array.ext';simp only [Array.toList_setIfInBounds];rfl)
 clear H6 K5 c_6 yh y6_26 f6_26
 generalize (w6.setCell ⟨G,26,none⟩ (.int .i64 ((z6 : Nat) : Int))) = V6 at *
 have yh:=K6.out.bx.cell 4 _ rfl
 have c_7:=(show Calls Tryz.prog 19 #[.pointer (some ⟨g,0,none⟩),.int .i64 12] V6 (Took1 (FS w.heap.size g l) g textV (textP 12) [] st6 V6) from refTakeTextS_any w.heap.size g l 12 st6 V6 K6.out.rd)
 go_upto_region 17 with (first | (go_at_call 17;(with_reducible first | refine (cId _).mono ?_ | refine (cGrp _).mono ?_ | refine (cStp _).mono ?_ | refine (cYes _).mono ?_ | refine (cNum _).mono ?_ | refine (cKey _).mono ?_ | refine (cVal _).mono ?_ | refine (cDat _).mono ?_);rintro e wu ⟨rfl,rfl⟩) | (go_at_call 19;((with_reducible refine c_7.mono ?_);rintro e w7 ⟨z7,st7,rfl,hr,ho,hR,hz⟩;have H7:=hid (K6.out.only hr ho);have R7:=hid hR;have y7_27:=H7.out.bx.cell 27 _ rfl;have f7_27:=H7.out.bx.frozen 27;  have hb7 : z7.length≤12:=text_le hR hz;clear hz;clear hr ho hR)))
 have K7 : Hid (RfB V0 w.heap.size g G R l st7 (mgV (⟨((kk : Nat) : Int),0,0,0,false,0,0,zeroM,0,0,none,0,0,none,0,0,0,0,((z4 : Nat) : Int),z5,false,((z6 : Nat) : Int),⟨z7.toArray⟩,0,0,0,⟨#[]⟩,0,none,0,0⟩ : MgM)) ((w7.setCell ⟨G,27,none⟩ (.string ⟨z7.toArray⟩)))):=((H7.out.set 27 (.string ⟨z7.toArray⟩))).eq (by apply Array.ext';simp only [Array.toList_setIfInBounds];rfl)
 clear H7 K6 c_7 yh y7_27 f7_27
 generalize (w7.setCell ⟨G,27,none⟩ (.string ⟨z7.toArray⟩)) = V7 at *
 have yh:=K7.out.bx.cell 4 _ rfl
 have c_8:=(show Calls Tryz.prog 15 #[.pointer (some ⟨g,0,none⟩),.int .i64 8] V7 (Took1 (FS w.heap.size g l) g numV (numP 8) 0 st7 V7) from refTakeS_any w.heap.size g l 8 st7 V7 K7.out.rd (by omega))
 go_upto_region 19 with (first | (go_at_call 17;(with_reducible first | refine (cId _).mono ?_ | refine (cGrp _).mono ?_ | refine (cStp _).mono ?_ | refine (cYes _).mono ?_ | refine (cNum _).mono ?_ | refine (cKey _).mono ?_ | refine (cVal _).mono ?_ | refine (cDat _).mono ?_);rintro e wu ⟨rfl,rfl⟩) | (go_at_call 15;((with_reducible refine c_8.mono ?_);rintro e w8 ⟨z8,st8,rfl,hr,ho,hR,hz⟩;have H8:=hid (K7.out.only hr ho);have R8:=hid hR;have y8_28:=H8.out.bx.cell 28 _ rfl;have f8_28:=H8.out.bx.frozen 28;  have hb8 : z8 < 18446744073709551616:=num_lt hR hz (by decide);clear hz;clear hr ho hR)))
 have K8 : Hid (RfB V0 w.heap.size g G R l st8 (mgV (⟨((kk : Nat) : Int),0,0,0,false,0,0,zeroM,0,0,none,0,0,none,0,0,0,0,((z4 : Nat) : Int),z5,false,((z6 : Nat) : Int),⟨z7.toArray⟩,z8,0,0,⟨#[]⟩,0,none,0,0⟩ : MgM)) ((w8.setCell ⟨G,28,none⟩ (.int .u64 ((z8 : Nat) : Int))))):=((H8.out.set 28 (.int .u64 ((z8 : Nat) : Int)))).eq (by apply Array.ext';simp only [Array.toList_setIfInBounds];rfl)
 clear H8 K7 c_8 yh y8_28 f8_28
 generalize (w8.setCell ⟨G,28,none⟩ (.int .u64 ((z8 : Nat) : Int))) = V8 at *
 have yh:=K8.out.bx.cell 4 _ rfl
 have c_9:=refTakeVS_any w.heap.size g l st8 V8 K8.out.rd
 go_upto_region 20 with (first | (go_at_call 17;(with_reducible first | refine (cId _).mono ?_ | refine (cGrp _).mono ?_ | refine (cStp _).mono ?_ | refine (cYes _).mono ?_ | refine (cNum _).mono ?_ | refine (cKey _).mono ?_ | refine (cVal _).mono ?_ | refine (cDat _).mono ?_);rintro e wu ⟨rfl,rfl⟩) | (go_at_call 20;((with_reducible refine c_9.mono ?_);rintro e w9 ⟨v9,st9,rfl,hr,ho,hR,hz⟩;have H9:=hid (K8.out.only hr ho);have R9:=hid hR;have y9_29:=H9.out.bx.cell 29 _ rfl;have f9_29:=H9.out.bx.frozen 29;have y9_30:=H9.out.bx.cell 30 _ rfl;have f9_30:=H9.out.bx.frozen 30;have y9_31:=H9.out.bx.cell 31 _ rfl;have f9_31:=H9.out.bx.frozen 31;  have hb9:=val_lt hR hz;clear hz;clear hr ho hR)))
 have K9 : Hid (RfB V0 w.heap.size g G R l st9 (mgV (⟨((kk : Nat) : Int),0,0,0,false,0,0,zeroM,0,0,none,0,0,none,0,0,0,0,((z4 : Nat) : Int),z5,false,((z6 : Nat) : Int),⟨z7.toArray⟩,z8,v9.k,v9.b,⟨v9.t.toArray⟩,0,none,0,0⟩ : MgM)) ((((w9.setCell ⟨G,29,none⟩ (.int .i64 v9.k)).setCell ⟨G,30,none⟩ (.int .u64 ((v9.b : Nat) : Int))).setCell ⟨G,31,none⟩ (.string ⟨v9.t.toArray⟩)))):=((((H9.out.set 29 (.int .i64 v9.k)).set 30 (.int .u64 ((v9.b : Nat) : Int))).set 31 (.string ⟨v9.t.toArray⟩))).eq (by apply Array.ext';simp only [Array.toList_setIfInBounds];rfl)
 clear H9 K8 c_9 yh y9_29 f9_29 y9_30 f9_30 y9_31 f9_31
 generalize (((w9.setCell ⟨G,29,none⟩ (.int .i64 v9.k)).setCell ⟨G,30,none⟩ (.int .u64 ((v9.b : Nat) : Int))).setCell ⟨G,31,none⟩ (.string ⟨v9.t.toArray⟩)) = V9 at *
 have yh:=K9.out.bx.cell 4 _ rfl
 have c_10:=(show Calls Tryz.prog 15 #[.pointer (some ⟨g,0,none⟩),.int .i64 1] V9 (Took1 (FS w.heap.size g l) g numV (numP 1) 0 st9 V9) from refTakeS_any w.heap.size g l 1 st9 V9 K9.out.rd (by omega))
 go_upto_region 21 with (first | (go_at_call 17;(with_reducible first | refine (cId _).mono ?_ | refine (cGrp _).mono ?_ | refine (cStp _).mono ?_ | refine (cYes _).mono ?_ | refine (cNum _).mono ?_ | refine (cKey _).mono ?_ | refine (cVal _).mono ?_ | refine (cDat _).mono ?_);rintro e wu ⟨rfl,rfl⟩) | (go_at_call 15;((with_reducible refine c_10.mono ?_);rintro e w10 ⟨z10,st10,rfl,hr,ho,hR,hz⟩;have H10:=hid (K9.out.only hr ho);have R10:=hid hR;have y10_32:=H10.out.bx.cell 32 _ rfl;have f10_32:=H10.out.bx.frozen 32;  have hb10 : z10 < 256:=num_lt hR hz (by decide);have ez10:=wrap_i64 z10 (by omega);clear hz;clear hr ho hR)))
 have K10 : Hid (RfB V0 w.heap.size g G R l st10 (mgV (⟨((kk : Nat) : Int),0,0,0,false,0,0,zeroM,0,0,none,0,0,none,0,0,0,0,((z4 : Nat) : Int),z5,false,((z6 : Nat) : Int),⟨z7.toArray⟩,z8,v9.k,v9.b,⟨v9.t.toArray⟩,((z10 : Nat) : Int),none,0,0⟩ : MgM)) ((w10.setCell ⟨G,32,none⟩ (.int .i64 ((z10 : Nat) : Int))))):=((H10.out.set 32 (.int .i64 ((z10 : Nat) : Int)))).eq (by apply Array.ext';simp only [Array.toList_setIfInBounds];rfl)
 clear H10 K9 c_10 yh y10_32 f10_32
 generalize (w10.setCell ⟨G,32,none⟩ (.int .i64 ((z10 : Nat) : Int))) = V10 at *
 have hB : Bare (⟨((kk : Nat) : Int),0,0,0,false,0,0,zeroM,0,0,none,0,0,none,0,0,0,0,((z4 : Nat) : Int),z5,false,((z6 : Nat) : Int),⟨z7.toArray⟩,z8,v9.k,v9.b,⟨v9.t.toArray⟩,((z10 : Nat) : Int),none,0,0⟩ : MgM):=⟨rfl,⟨rfl,rfl,rfl,rfl⟩,rfl⟩
 have hAt : MgAt V10 (⟨((kk : Nat) : Int),0,0,0,false,0,0,zeroM,0,0,none,0,0,none,0,0,0,0,((z4 : Nat) : Int),z5,false,((z6 : Nat) : Int),⟨z7.toArray⟩,z8,v9.k,v9.b,⟨v9.t.toArray⟩,((z10 : Nat) : Int),none,0,0⟩ : MgM) noL:=Bare.at_ hB ⟨(by show 0 < 4294967296;decide),(by show 0 < 4294967296;decide),hb5,hb8,hb9.1,(by show z7.toArray.size≤maxLen;rw [List.size_toArray];unfold maxLen;omega),(by show v9.t.toArray.size≤maxLen;rw [List.size_toArray];have:=hb9.2;unfold maxLen;omega)⟩
 have hMF : MgF (⟨((kk : Nat) : Int),0,0,0,false,0,0,zeroM,0,0,none,0,0,none,0,0,0,0,((z4 : Nat) : Int),z5,false,((z6 : Nat) : Int),⟨z7.toArray⟩,z8,v9.k,v9.b,⟨v9.t.toArray⟩,((z10 : Nat) : Int),none,0,0⟩ : MgM):=hB.f
 have hRes : Res rdD (some l) (mgT (⟨((kk : Nat) : Int),0,0,0,false,0,0,zeroM,0,0,none,0,0,none,0,0,0,0,((z4 : Nat) : Int),z5,false,((z6 : Nat) : Int),⟨z7.toArray⟩,z8,v9.k,v9.b,⟨v9.t.toArray⟩,((z10 : Nat) : Int),none,0,0⟩ : MgM) noL) st10:=by
  refine Res.bind (x:=((kk : Nat) : Int)) (res_numI R2.out) ?_
  rw [HLS.out,fldsD_app]
  exact Res.bind (x:=mgT (zeroG ((kk : Nat) : Int)) noL) H3.out.res (Res.bind (x:=mgT ((⟨((kk : Nat) : Int),0,0,0,false,0,0,zeroM,0,0,none,0,0,none,0,0,0,0,((z4 : Nat) : Int),0,false,0,⟨#[]⟩,0,0,0,⟨#[]⟩,0,none,0,0⟩ : MgM) : MgM) noL) (Res.bind (x:=((z4 : Nat) : Int)) (res_numI R4.out) (Res.pure _ _)) (Res.bind (x:=mgT ((⟨((kk : Nat) : Int),0,0,0,false,0,0,zeroM,0,0,none,0,0,none,0,0,0,0,((z4 : Nat) : Int),z5,false,0,⟨#[]⟩,0,0,0,⟨#[]⟩,0,none,0,0⟩ : MgM) : MgM) noL) (Res.bind (x:=z5) R5.out (Res.pure _ _)) (Res.bind (x:=mgT ((⟨((kk : Nat) : Int),0,0,0,false,0,0,zeroM,0,0,none,0,0,none,0,0,0,0,((z4 : Nat) : Int),z5,false,((z6 : Nat) : Int),⟨#[]⟩,0,0,0,⟨#[]⟩,0,none,0,0⟩ : MgM) : MgM) noL) (Res.bind (x:=((z6 : Nat) : Int)) (res_numI R6.out) (Res.pure _ _)) (Res.bind (x:=mgT ((⟨((kk : Nat) : Int),0,0,0,false,0,0,zeroM,0,0,none,0,0,none,0,0,0,0,((z4 : Nat) : Int),z5,false,((z6 : Nat) : Int),⟨z7.toArray⟩,0,0,0,⟨#[]⟩,0,none,0,0⟩ : MgM) : MgM) noL) (Res.bind (x:=z7) R7.out (Res.pure _ _)) (Res.bind (x:=mgT ((⟨((kk : Nat) : Int),0,0,0,false,0,0,zeroM,0,0,none,0,0,none,0,0,0,0,((z4 : Nat) : Int),z5,false,((z6 : Nat) : Int),⟨z7.toArray⟩,z8,0,0,⟨#[]⟩,0,none,0,0⟩ : MgM) : MgM) noL) (Res.bind (x:=z8) R8.out (Res.pure _ _)) (Res.bind (x:=mgT ((⟨((kk : Nat) : Int),0,0,0,false,0,0,zeroM,0,0,none,0,0,none,0,0,0,0,((z4 : Nat) : Int),z5,false,((z6 : Nat) : Int),⟨z7.toArray⟩,z8,v9.k,v9.b,⟨v9.t.toArray⟩,0,none,0,0⟩ : MgM) : MgM) noL) (Res.bind (x:=v9) R9.out (Res.pure _ _)) (Res.bind (x:=mgT ((⟨((kk : Nat) : Int),0,0,0,false,0,0,zeroM,0,0,none,0,0,none,0,0,0,0,((z4 : Nat) : Int),z5,false,((z6 : Nat) : Int),⟨z7.toArray⟩,z8,v9.k,v9.b,⟨v9.t.toArray⟩,((z10 : Nat) : Int),none,0,0⟩ : MgM) : MgM) noL) (Res.bind (x:=((z10 : Nat) : Int)) (res_numI R10.out) (Res.pure _ _)) (Res.pure _ _))))))))
 have hMn:=hAt.ok
 have BV : Below w.heap.size w V10:=Only.below BEL.out K10.out.onl (by have:=GW.out;omega) BEL.out.size
 have lG:=K10.out.bx.ldD
 have wr0:=rWrite_any hAt hMF
 have HAT:=hid hAt
 have HMF:=hid hMF
 by_cases hf : formMg (mgT (⟨((kk : Nat) : Int),0,0,0,false,0,0,zeroM,0,0,none,0,0,none,0,0,0,0,((z4 : Nat) : Int),z5,false,((z6 : Nat) : Int),⟨z7.toArray⟩,z8,v9.k,v9.b,⟨v9.t.toArray⟩,((z10 : Nat) : Int),none,0,0⟩ : MgM) noL) = true
 ·by_cases he : mgB (mgT (⟨((kk : Nat) : Int),0,0,0,false,0,0,zeroM,0,0,none,0,0,none,0,0,0,0,((z4 : Nat) : Int),z5,false,((z6 : Nat) : Int),⟨z7.toArray⟩,z8,v9.k,v9.b,⟨v9.t.toArray⟩,((z10 : Nat) : Int),none,0,0⟩ : MgM) noL) = l
  ·have hyes:=hid (doc_yes hMn hf he)
   have cW : Calls Tryz.prog 21 #[.agg (mgV (⟨((kk : Nat) : Int),0,0,0,false,0,0,zeroM,0,0,none,0,0,none,0,0,0,0,((z4 : Nat) : Int),z5,false,((z6 : Nat) : Int),⟨z7.toArray⟩,z8,v9.k,v9.b,⟨v9.t.toArray⟩,((z10 : Nat) : Int),none,0,0⟩ : MgM))] V10 fun e w' => ∃ a n c,e = .returned (.tuple #[.slice a n c,.int .i64 0])∧w'.ownsRow V10.heap.size 5 1 (.slice a n c) n (bcells l)∧Below V10.heap.size V10 w':=by rw [hf,he] at wr0;exact wr0
   have cS : ∀ (U : World) (a' : Option Addr) (n' c' : Nat),BAt U U.heap.size a' n' l→BAt U U.heap.size a n l→n'≤maxLen→Calls Tryz.prog 22 #[.slice a n c,.slice a' n' c'] U (Reads1 U (.bool true)):=fun U a' n' c' h1 h2 h3=>by
    have h:=same_any a a' n n' c c' _ _ l l U h2 h1 HNM.out h3
    rw [decide_eq_true rfl] at h;exact h
   clear wr0 hMn hf he hAt hMF
   go_wp2_with (first | (go_at_call 17;(with_reducible first | refine (cId _).mono ?_ | refine (cGrp _).mono ?_ | refine (cStp _).mono ?_ | refine (cYes _).mono ?_ | refine (cNum _).mono ?_ | refine (cKey _).mono ?_ | refine (cVal _).mono ?_ | refine (cDat _).mono ?_);rintro e wu ⟨rfl,rfl⟩) | (go_at_call 21;((with_reducible refine cW.mono ?_);rintro e w8 ⟨a8,n8,c8,rfl,ho8,hb8⟩;have O8:=hid (BAt.of_own ho8);have M8:=hid (Nat.le_trans (own_caps ho8).1 (own_caps ho8).2);have X8:=hid (K10.out.bx.below hb8);have R8:=hid (K10.out.rx.below hb8);have B8:=hid hb8;have L8:=X8.out.ldD;have I8 : Hid (BAt w8 w8.heap.size a n l):=(HL.out.below (BV.trans (hb8.mono BV.size)) (Nat.le_refl _)).more (BV.trans (hb8.mono BV.size)).size;clear ho8 hb8)) | (go_at_call 22;((with_reducible refine (cS w8 a8 n8 c8 O8.out I8.out M8.out).mono ?_);rintro e w9 ⟨rfl,q9,rfl⟩;have X9 : Hid (BoxC (w8.drewN q9) G (mgV (⟨((kk : Nat) : Int),0,0,0,false,0,0,zeroM,0,0,none,0,0,none,0,0,0,0,((z4 : Nat) : Int),z5,false,((z6 : Nat) : Int),⟨z7.toArray⟩,z8,v9.k,v9.b,⟨v9.t.toArray⟩,((z10 : Nat) : Int),none,0,0⟩ : MgM)) 46):=X8.out;have R9 : Hid (BoxC (w8.drewN q9) R (mgV (zeroG 0)) 46):=R8.out;have L9:=X9.out.ldD)) | (refine wpList_store_doc rfl _ _ rfl R (⟨((kk : Nat) : Int),0,0,0,false,0,0,zeroM,0,0,none,0,0,none,0,0,0,0,((z4 : Nat) : Int),z5,false,((z6 : Nat) : Int),⟨z7.toArray⟩,z8,v9.k,v9.b,⟨v9.t.toArray⟩,((z10 : Nat) : Int),none,0,0⟩ : MgM) rfl rfl (zeroG 0) R9.out ?_))
   exact bodyPost_ret (v:=.tuple #[.agg (mgV (⟨((kk : Nat) : Int),0,0,0,false,0,0,zeroM,0,0,none,0,0,none,0,0,0,0,((z4 : Nat) : Int),z5,false,((z6 : Nat) : Int),⟨z7.toArray⟩,z8,v9.k,v9.b,⟨v9.t.toArray⟩,((z10 : Nat) : Int),none,0,0⟩ : MgM)),.int .i64 0]) (results_mgD Tryz.results6 _ _ R (⟨((kk : Nat) : Int),0,0,0,false,0,0,zeroM,0,0,none,0,0,none,0,0,0,0,((z4 : Nat) : Int),z5,false,((z6 : Nat) : Int),⟨z7.toArray⟩,z8,v9.k,v9.b,⟨v9.t.toArray⟩,((z10 : Nat) : Int),none,0,0⟩ : MgM) rfl (R9.out.fill _)) rfl ⟨.inl ⟨(⟨((kk : Nat) : Int),0,0,0,false,0,0,zeroM,0,0,none,0,0,none,0,0,0,0,((z4 : Nat) : Int),z5,false,((z6 : Nat) : Int),⟨z7.toArray⟩,z8,v9.k,v9.b,⟨v9.t.toArray⟩,((z10 : Nat) : Int),none,0,0⟩ : MgM),noL,rfl,(HAT.out.later (B8.out.trans (below_drewN q9 (Below.refl _ _)))).fill2 R9.out fst_nil fst_nil,HMF.out,hyes.out⟩,Only.below (BV.trans ((B8.out.trans (below_drewN q9 (Below.refl _ _))).mono BV.size)) (only_fill _ _ _) (by have:=RW.out;omega) (BV.trans (B8.out.mono BV.size)).size⟩
  ·have hno:=hid (doc_no hRes (.inr he))
   have cW : Calls Tryz.prog 21 #[.agg (mgV (⟨((kk : Nat) : Int),0,0,0,false,0,0,zeroM,0,0,none,0,0,none,0,0,0,0,((z4 : Nat) : Int),z5,false,((z6 : Nat) : Int),⟨z7.toArray⟩,z8,v9.k,v9.b,⟨v9.t.toArray⟩,((z10 : Nat) : Int),none,0,0⟩ : MgM))] V10 fun e w' => ∃ a n c,e = .returned (.tuple #[.slice a n c,.int .i64 0])∧w'.ownsRow V10.heap.size 5 1 (.slice a n c) n (bcells (mgB (mgT (⟨((kk : Nat) : Int),0,0,0,false,0,0,zeroM,0,0,none,0,0,none,0,0,0,0,((z4 : Nat) : Int),z5,false,((z6 : Nat) : Int),⟨z7.toArray⟩,z8,v9.k,v9.b,⟨v9.t.toArray⟩,((z10 : Nat) : Int),none,0,0⟩ : MgM) noL)))∧Below V10.heap.size V10 w':=by rw [hf] at wr0;exact wr0
   have cS : ∀ (U : World) (a' : Option Addr) (n' c' : Nat),BAt U U.heap.size a' n' (mgB (mgT (⟨((kk : Nat) : Int),0,0,0,false,0,0,zeroM,0,0,none,0,0,none,0,0,0,0,((z4 : Nat) : Int),z5,false,((z6 : Nat) : Int),⟨z7.toArray⟩,z8,v9.k,v9.b,⟨v9.t.toArray⟩,((z10 : Nat) : Int),none,0,0⟩ : MgM) noL))→BAt U U.heap.size a n l→n'≤maxLen→Calls Tryz.prog 22 #[.slice a n c,.slice a' n' c'] U (Reads1 U (.bool false)):=fun U a' n' c' h1 h2 h3=>by
    have h:=same_any a a' n n' c c' _ _ l (mgB (mgT (⟨((kk : Nat) : Int),0,0,0,false,0,0,zeroM,0,0,none,0,0,none,0,0,0,0,((z4 : Nat) : Int),z5,false,((z6 : Nat) : Int),⟨z7.toArray⟩,z8,v9.k,v9.b,⟨v9.t.toArray⟩,((z10 : Nat) : Int),none,0,0⟩ : MgM) noL)) U h2 h1 HNM.out h3
    rw [decide_eq_false (fun e=>he e.symm)] at h;exact h
   clear wr0 hMn hf he hAt hMF
   go_wp2_with (first | (go_at_call 17;(with_reducible first | refine (cId _).mono ?_ | refine (cGrp _).mono ?_ | refine (cStp _).mono ?_ | refine (cYes _).mono ?_ | refine (cNum _).mono ?_ | refine (cKey _).mono ?_ | refine (cVal _).mono ?_ | refine (cDat _).mono ?_);rintro e wu ⟨rfl,rfl⟩) | (go_at_call 21;((with_reducible refine cW.mono ?_);rintro e w8 ⟨a8,n8,c8,rfl,ho8,hb8⟩;have O8:=hid (BAt.of_own ho8);have M8:=hid (Nat.le_trans (own_caps ho8).1 (own_caps ho8).2);have X8:=hid (K10.out.bx.below hb8);have R8:=hid (K10.out.rx.below hb8);have B8:=hid hb8;have L8:=X8.out.ldD;have I8 : Hid (BAt w8 w8.heap.size a n l):=(HL.out.below (BV.trans (hb8.mono BV.size)) (Nat.le_refl _)).more (BV.trans (hb8.mono BV.size)).size;clear ho8 hb8)) | (go_at_call 22;((with_reducible refine (cS w8 a8 n8 c8 O8.out I8.out M8.out).mono ?_);rintro e w9 ⟨rfl,q9,rfl⟩;have X9 : Hid (BoxC (w8.drewN q9) G (mgV (⟨((kk : Nat) : Int),0,0,0,false,0,0,zeroM,0,0,none,0,0,none,0,0,0,0,((z4 : Nat) : Int),z5,false,((z6 : Nat) : Int),⟨z7.toArray⟩,z8,v9.k,v9.b,⟨v9.t.toArray⟩,((z10 : Nat) : Int),none,0,0⟩ : MgM)) 46):=X8.out;have R9 : Hid (BoxC (w8.drewN q9) R (mgV (zeroG 0)) 46):=R8.out;have L9:=X9.out.ldD)) | (refine wpList_store_doc rfl _ _ rfl R (zeroG 0) rfl rfl (zeroG 0) R9.out ?_))
   exact bodyPost_ret (v:=.tuple #[.agg (mgV (zeroG 0)),.int .i64 2]) (results_mgD Tryz.results6 _ _ R (zeroG 0) rfl (R9.out.fill _)) rfl ⟨.inr ⟨rfl,hno.out⟩,Only.below (BV.trans ((B8.out.trans (below_drewN q9 (Below.refl _ _))).mono BV.size)) (only_fill _ _ _) (by have:=RW.out;omega) (BV.trans (B8.out.mono BV.size)).size⟩
 ·have hf2 : formMg (mgT (⟨((kk : Nat) : Int),0,0,0,false,0,0,zeroM,0,0,none,0,0,none,0,0,0,0,((z4 : Nat) : Int),z5,false,((z6 : Nat) : Int),⟨z7.toArray⟩,z8,v9.k,v9.b,⟨v9.t.toArray⟩,((z10 : Nat) : Int),none,0,0⟩ : MgM) noL) = false:=by simpa using hf
  have hno:=hid (doc_no hRes (.inl hf2))
  have cW : Calls Tryz.prog 21 #[.agg (mgV (⟨((kk : Nat) : Int),0,0,0,false,0,0,zeroM,0,0,none,0,0,none,0,0,0,0,((z4 : Nat) : Int),z5,false,((z6 : Nat) : Int),⟨z7.toArray⟩,z8,v9.k,v9.b,⟨v9.t.toArray⟩,((z10 : Nat) : Int),none,0,0⟩ : MgM))] V10 fun e w' => ∃ a n c,e = .returned (.tuple #[.slice a n c,.int .i64 2])∧w'.ownsRow V10.heap.size 5 1 (.slice a n c) n (bcells [])∧Below V10.heap.size V10 w':=by rw [hf2] at wr0;exact wr0
  clear wr0 hMn hf hf2 hAt hMF
  go_wp2_with (first | (go_at_call 17;(with_reducible first | refine (cId _).mono ?_ | refine (cGrp _).mono ?_ | refine (cStp _).mono ?_ | refine (cYes _).mono ?_ | refine (cNum _).mono ?_ | refine (cKey _).mono ?_ | refine (cVal _).mono ?_ | refine (cDat _).mono ?_);rintro e wu ⟨rfl,rfl⟩) | (go_at_call 21;((with_reducible refine cW.mono ?_);rintro e w8 ⟨a8,n8,c8,rfl,ho8,hb8⟩;have O8:=hid (BAt.of_own ho8);have M8:=hid (Nat.le_trans (own_caps ho8).1 (own_caps ho8).2);have X8:=hid (K10.out.bx.below hb8);have R8:=hid (K10.out.rx.below hb8);have B8:=hid hb8;have L8:=X8.out.ldD;have I8 : Hid (BAt w8 w8.heap.size a n l):=(HL.out.below (BV.trans (hb8.mono BV.size)) (Nat.le_refl _)).more (BV.trans (hb8.mono BV.size)).size;clear ho8 hb8)) | (refine wpList_store_doc rfl _ _ rfl R (zeroG 0) rfl rfl (zeroG 0) R8.out ?_))
  exact bodyPost_ret (v:=.tuple #[.agg (mgV (zeroG 0)),.int .i64 2]) (results_mgD Tryz.results6 _ _ R (zeroG 0) rfl (R8.out.fill _)) rfl ⟨.inr ⟨rfl,hno.out⟩,Only.below (BV.trans (B8.out.mono BV.size)) (only_fill _ _ _) (by have:=RW.out;omega) (BV.trans (B8.out.mono BV.size)).size⟩
theorem read_num (a : Option Addr) (n c kk : Nat) (l : List UInt8) (w : World) (hl : BAt w w.heap.size a n l) (hn : n≤70000) (hnc : n≤c) (hcm : c≤maxLen) (hk : kk < 256) (hz : ∀ z st1,Res (numP 1) (some l) z st1→(st1 = none→z = 0)→kk = z) (ls : List Nat) (hls : lets (letters ((kk : Nat) : Int)) = ls ++ [110]) (hle : ls = []) (uId : uId ((kk : Nat) : Int) = false) (uGrp : uGrp ((kk : Nat) : Int) = false) (uStp : uStp ((kk : Nat) : Int) = false) (uYes : uYes ((kk : Nat) : Int) = false) (uNum : uNum ((kk : Nat) : Int) = true) (uKey : uKey ((kk : Nat) : Int) = false) (uVal : uVal ((kk : Nat) : Int) = false) (uDat : uDat ((kk : Nat) : Int) = false)
  (cH : ∀ (g : Nat) (W : World) (st1 : St),FS w.heap.size g l st1 W→Calls Tryz.prog 16 #[.pointer (some ⟨g,0,none⟩),.agg (mgV (zeroG ((kk : Nat) : Int)))] W (HeadR W w.heap.size g l ((kk : Nat) : Int) ls st1)) :
  Calls Tryz.prog 6 #[.slice a n c] w (ReadR w l):=by
 obtain ⟨R,hR0⟩ : ∃ R,w.heap.size = R:=⟨_,rfl⟩
 obtain ⟨g,hg0⟩ : ∃ g,R + 1 = g:=⟨_,rfl⟩
 have b1 : Below w.heap.size w (w.alloc (.cells ZL 46)):=(Below.refl _ _).alloc (Nat.le_refl _) _
 have s1 : (w.alloc (.cells ZL 46)).heap.size = w.heap.size + 1:=by simp
 have BEL : Hid (Below w.heap.size w ((w.alloc (.cells ZL 46)).alloc (.cells #[.slice a n c,.int .i64 0,.bool false] 61))):=b1.alloc b1.size _
 have RX0 : Hid (BoxC ((w.alloc (.cells ZL 46)).alloc (.cells #[.slice a n c,.int .i64 0,.bool false] 61)) R (mgV (zeroG 0)) 46):=by
  have h : BoxC (w.alloc (.cells ZL 46)) w.heap.size ZL 46:=BoxC.new w ZL 46
  rw [hR0] at h
  exact h.below ((Below.refl _ _).alloc (Nat.le_refl _) _)
 have FS0 : Hid (FS w.heap.size g l (some l) ((w.alloc (.cells ZL 46)).alloc (.cells #[.slice a n c,.int .i64 0,.bool false] 61))):=by
  refine ⟨0,⟨a,n,c,?_,hnc,hcm,hl.below BEL.out (Nat.le_refl _),Nat.zero_le _,by omega⟩,fun l' e=>by injection e with e;rw [e];rfl⟩
  have h:=BoxC.new (w.alloc (.cells ZL 46)) #[.slice a n c,.int .i64 0,.bool false] 61
  rw [s1,hR0,hg0] at h
  exact h
 have HL:=hid hl
 have HNM : Hid (n≤maxLen):=Nat.le_trans hnc hcm
 have HN7:=hid hn
 have HNC:=hid hnc
 have HCM:=hid hcm
 have RW : Hid (w.heap.size≤R):=by unfold Hid;omega
 have GW : Hid (w.heap.size≤g):=by unfold Hid;omega
 have GR : Hid (R < g):=by unfold Hid;omega
 have HK:=hid hk
 have HZ:=hid hz
 have HLS:=hid hls
 have cId:=fun V=>useId_any ((kk : Nat) : Int) V
 rw [uId] at cId
 have cGrp:=fun V=>useGrp_any ((kk : Nat) : Int) V
 rw [uGrp] at cGrp
 have cStp:=fun V=>useStp_any ((kk : Nat) : Int) V
 rw [uStp] at cStp
 have cYes:=fun V=>useYes_any ((kk : Nat) : Int) V
 rw [uYes] at cYes
 have cNum:=fun V=>useNum_any ((kk : Nat) : Int) V
 rw [uNum] at cNum
 have cKey:=fun V=>useKey_any ((kk : Nat) : Int) V
 rw [uKey] at cKey
 have cVal:=fun V=>useVal_any ((kk : Nat) : Int) V
 rw [uVal] at cVal
 have cDat:=fun V=>useDat_any ((kk : Nat) : Int) V
 rw [uDat] at cDat
 clear hl hn hnc hcm hk hz hls b1 s1 uId uGrp uStp uYes uNum uKey uVal uDat
 go_enter Tryz.func6,Tryz.ntmps6
 go_upto_region 2 with fail
 generalize hV0 : (w.alloc (.cells ZL 46)).alloc (.cells #[.slice a n c,.int .i64 0,.bool false] 61) = V0 at *
 clear hV0
 have cT : Calls Tryz.prog 15 #[.pointer (some ⟨g,0,none⟩),.int .i64 1] V0 (Took1 (FS w.heap.size g l) g numV (numP 1) 0 (some l) V0):=refTakeS_any w.heap.size g l 1 (some l) V0 FS0.out (by omega)
 go_upto_region 3 with (first | (go_at_call 15;((with_reducible refine cT.mono ?_);rintro e w2 ⟨z,st1,rfl,hr2,ho2,hR2,hz2⟩;obtain rfl : kk = z:=HZ.out z st1 hR2 hz2;have D2:=hid hr2;have O2:=hid ho2;have R2:=hid hR2;have hk:=HK.out;have ek:=wrap_i64 kk (by omega);have HX : Hid (BoxC (w2.alloc (.cells ZL 46)) w2.heap.size (mgV (zeroG 0)) 46):=BoxC.new w2 _ _;clear hr2 ho2 hR2 hz2)) | (refine wpList_store_doc rfl _ _ rfl w2.heap.size (zeroG ((kk : Nat) : Int)) rfl rfl (zeroG 0) HX.out ?_))
 obtain ⟨G,hG0⟩ : ∃ G,w2.heap.size = G:=⟨_,rfl⟩
 have g0 : g < V0.heap.size:=FS0.out.lt
 have K1 : Hid (RfB V0 w.heap.size g G R l st1 (mgV (zeroG ((kk : Nat) : Int))) ((w2.alloc (.cells ZL 46)).setRow w2.heap.size (mgV (zeroG ((kk : Nat) : Int))))):=by
  have g2 : g < w2.heap.size:=D2.out.lt
  have hgr:=GR.out
  have oF:=only_fill (w2.alloc (.cells ZL 46)) w2.heap.size (mgV (zeroG ((kk : Nat) : Int)))
  have bA : Below w2.heap.size w2 (w2.alloc (.cells ZL 46)):=(Below.refl _ _).alloc (Nat.le_refl _) _
  have bF : Below w2.heap.size w2 ((w2.alloc (.cells ZL 46)).setRow w2.heap.size (mgV (zeroG ((kk : Nat) : Int)))):=Only.below bA oF (Nat.le_refl _) bA.size
  have x2 : BoxC w2 R (mgV (zeroG 0)) 46:=RX0.out.only O2.out (by omega)
  exact ⟨Keep.keep (g:=g) w2 _ D2.out fun b hb=>bF.block b (by omega),by rw [← hG0];exact HX.out.fill _,x2.below bF,O2.out.trans (below_only bF),g0,by have:=O2.out.size;omega,by omega,by have:=x2.lt;omega⟩
 rw [hG0] at K1
 simp only [hG0]
 clear D2 O2 HX cT RX0 FS0 ek
 generalize (w2.alloc (.cells ZL 46)).setRow G (mgV (zeroG ((kk : Nat) : Int))) = V1 at *
 have x0 : V1.cell? ⟨G,0,none⟩ = some (.int .i64 ((kk : Nat) : Int)):=K1.out.bx.cell 0 _ rfl
 have lG:=K1.out.bx.ldD
 have cHd:=cH g V1 st1 K1.out.rd
 go_upto_region 5 with (first | (go_at_call 16;((with_reducible refine cHd.mono ?_);rintro e w3 ⟨x,Lx,st2,rfl,hr3,ho3,hx3⟩;have K2:=hid (K1.out.only hr3 ho3);have H3:=hid hx3;clear hr3 ho3 hx3)) | (refine wpList_store_doc rfl _ _ rfl G x rfl rfl (zeroG ((kk : Nat) : Int)) K2.out.bx ?_))
 obtain ⟨hx0,hL0,_⟩:=H3.out.same hle
 subst hx0
 subst hL0
 have K3 : Hid (RfB V0 w.heap.size g G R l st2 (mgV (zeroG ((kk : Nat) : Int))) (w3.setRow G (mgV (zeroG ((kk : Nat) : Int))))):=K2.out.fill (mgV (zeroG ((kk : Nat) : Int)))
 clear K1 K2 x0 lG cHd cH
 generalize w3.setRow G (mgV (zeroG ((kk : Nat) : Int))) = V3 at *
 have yh:=K3.out.bx.cell 4 _ rfl
 have c_4:=(show Calls Tryz.prog 15 #[.pointer (some ⟨g,0,none⟩),.int .i64 4] V3 (Took1 (FS w.heap.size g l) g numV (numP 4) 0 st2 V3) from refTakeS_any w.heap.size g l 4 st2 V3 K3.out.rd (by omega))
 go_upto_region 15 with (first | (go_at_call 17;(with_reducible first | refine (cId _).mono ?_ | refine (cGrp _).mono ?_ | refine (cStp _).mono ?_ | refine (cYes _).mono ?_ | refine (cNum _).mono ?_ | refine (cKey _).mono ?_ | refine (cVal _).mono ?_ | refine (cDat _).mono ?_);rintro e wu ⟨rfl,rfl⟩) | (go_at_call 15;((with_reducible refine c_4.mono ?_);rintro e w4 ⟨z4,st4,rfl,hr,ho,hR,hz⟩;have H4:=hid (K3.out.only hr ho);have R4:=hid hR;have y4_26:=H4.out.bx.cell 26 _ rfl;have f4_26:=H4.out.bx.frozen 26;  have hb4 : z4 < 4294967296:=num_lt hR hz (by decide);have ez4:=wrap_i64 z4 (by omega);clear hz;clear hr ho hR)))
 have K4 : Hid (RfB V0 w.heap.size g G R l st4 (mgV (⟨((kk : Nat) : Int),0,0,0,false,0,0,zeroM,0,0,none,0,0,none,0,0,0,0,0,0,false,((z4 : Nat) : Int),⟨#[]⟩,0,0,0,⟨#[]⟩,0,none,0,0⟩ : MgM)) ((w4.setCell ⟨G,26,none⟩ (.int .i64 ((z4 : Nat) : Int))))):=((H4.out.set 26 (.int .i64 ((z4 : Nat) : Int)))).eq (by apply Array.ext';simp only [Array.toList_setIfInBounds];rfl)
 clear H4 K3 c_4 yh y4_26 f4_26
 generalize (w4.setCell ⟨G,26,none⟩ (.int .i64 ((z4 : Nat) : Int))) = V4 at *
 have hB : Bare (⟨((kk : Nat) : Int),0,0,0,false,0,0,zeroM,0,0,none,0,0,none,0,0,0,0,0,0,false,((z4 : Nat) : Int),⟨#[]⟩,0,0,0,⟨#[]⟩,0,none,0,0⟩ : MgM):=⟨rfl,⟨rfl,rfl,rfl,rfl⟩,rfl⟩
 have hAt : MgAt V4 (⟨((kk : Nat) : Int),0,0,0,false,0,0,zeroM,0,0,none,0,0,none,0,0,0,0,0,0,false,((z4 : Nat) : Int),⟨#[]⟩,0,0,0,⟨#[]⟩,0,none,0,0⟩ : MgM) noL:=Bare.at_ hB ⟨(by show 0 < 4294967296;decide),(by show 0 < 4294967296;decide),(by show 0 < 18446744073709551616;decide),(by show 0 < 18446744073709551616;decide),(by show 0 < 18446744073709551616;decide),(Nat.zero_le _),(Nat.zero_le _)⟩
 have hMF : MgF (⟨((kk : Nat) : Int),0,0,0,false,0,0,zeroM,0,0,none,0,0,none,0,0,0,0,0,0,false,((z4 : Nat) : Int),⟨#[]⟩,0,0,0,⟨#[]⟩,0,none,0,0⟩ : MgM):=hB.f
 have hRes : Res rdD (some l) (mgT (⟨((kk : Nat) : Int),0,0,0,false,0,0,zeroM,0,0,none,0,0,none,0,0,0,0,0,0,false,((z4 : Nat) : Int),⟨#[]⟩,0,0,0,⟨#[]⟩,0,none,0,0⟩ : MgM) noL) st4:=by
  refine Res.bind (x:=((kk : Nat) : Int)) (res_numI R2.out) ?_
  rw [HLS.out,fldsD_app]
  exact Res.bind (x:=mgT (zeroG ((kk : Nat) : Int)) noL) H3.out.res (Res.bind (x:=mgT ((⟨((kk : Nat) : Int),0,0,0,false,0,0,zeroM,0,0,none,0,0,none,0,0,0,0,0,0,false,((z4 : Nat) : Int),⟨#[]⟩,0,0,0,⟨#[]⟩,0,none,0,0⟩ : MgM) : MgM) noL) (Res.bind (x:=((z4 : Nat) : Int)) (res_numI R4.out) (Res.pure _ _)) (Res.pure _ _))
 have hMn:=hAt.ok
 have BV : Below w.heap.size w V4:=Only.below BEL.out K4.out.onl (by have:=GW.out;omega) BEL.out.size
 have lG:=K4.out.bx.ldD
 have wr0:=rWrite_any hAt hMF
 have HAT:=hid hAt
 have HMF:=hid hMF
 by_cases hf : formMg (mgT (⟨((kk : Nat) : Int),0,0,0,false,0,0,zeroM,0,0,none,0,0,none,0,0,0,0,0,0,false,((z4 : Nat) : Int),⟨#[]⟩,0,0,0,⟨#[]⟩,0,none,0,0⟩ : MgM) noL) = true
 ·by_cases he : mgB (mgT (⟨((kk : Nat) : Int),0,0,0,false,0,0,zeroM,0,0,none,0,0,none,0,0,0,0,0,0,false,((z4 : Nat) : Int),⟨#[]⟩,0,0,0,⟨#[]⟩,0,none,0,0⟩ : MgM) noL) = l
  ·have hyes:=hid (doc_yes hMn hf he)
   have cW : Calls Tryz.prog 21 #[.agg (mgV (⟨((kk : Nat) : Int),0,0,0,false,0,0,zeroM,0,0,none,0,0,none,0,0,0,0,0,0,false,((z4 : Nat) : Int),⟨#[]⟩,0,0,0,⟨#[]⟩,0,none,0,0⟩ : MgM))] V4 fun e w' => ∃ a n c,e = .returned (.tuple #[.slice a n c,.int .i64 0])∧w'.ownsRow V4.heap.size 5 1 (.slice a n c) n (bcells l)∧Below V4.heap.size V4 w':=by rw [hf,he] at wr0;exact wr0
   have cS : ∀ (U : World) (a' : Option Addr) (n' c' : Nat),BAt U U.heap.size a' n' l→BAt U U.heap.size a n l→n'≤maxLen→Calls Tryz.prog 22 #[.slice a n c,.slice a' n' c'] U (Reads1 U (.bool true)):=fun U a' n' c' h1 h2 h3=>by
    have h:=same_any a a' n n' c c' _ _ l l U h2 h1 HNM.out h3
    rw [decide_eq_true rfl] at h;exact h
   clear wr0 hMn hf he hAt hMF
   go_wp2_with (first | (go_at_call 17;(with_reducible first | refine (cId _).mono ?_ | refine (cGrp _).mono ?_ | refine (cStp _).mono ?_ | refine (cYes _).mono ?_ | refine (cNum _).mono ?_ | refine (cKey _).mono ?_ | refine (cVal _).mono ?_ | refine (cDat _).mono ?_);rintro e wu ⟨rfl,rfl⟩) | (go_at_call 21;((with_reducible refine cW.mono ?_);rintro e w8 ⟨a8,n8,c8,rfl,ho8,hb8⟩;have O8:=hid (BAt.of_own ho8);have M8:=hid (Nat.le_trans (own_caps ho8).1 (own_caps ho8).2);have X8:=hid (K4.out.bx.below hb8);have R8:=hid (K4.out.rx.below hb8);have B8:=hid hb8;have L8:=X8.out.ldD;have I8 : Hid (BAt w8 w8.heap.size a n l):=(HL.out.below (BV.trans (hb8.mono BV.size)) (Nat.le_refl _)).more (BV.trans (hb8.mono BV.size)).size;clear ho8 hb8)) | (go_at_call 22;((with_reducible refine (cS w8 a8 n8 c8 O8.out I8.out M8.out).mono ?_);rintro e w9 ⟨rfl,q9,rfl⟩;have X9 : Hid (BoxC (w8.drewN q9) G (mgV (⟨((kk : Nat) : Int),0,0,0,false,0,0,zeroM,0,0,none,0,0,none,0,0,0,0,0,0,false,((z4 : Nat) : Int),⟨#[]⟩,0,0,0,⟨#[]⟩,0,none,0,0⟩ : MgM)) 46):=X8.out;have R9 : Hid (BoxC (w8.drewN q9) R (mgV (zeroG 0)) 46):=R8.out;have L9:=X9.out.ldD)) | (refine wpList_store_doc rfl _ _ rfl R (⟨((kk : Nat) : Int),0,0,0,false,0,0,zeroM,0,0,none,0,0,none,0,0,0,0,0,0,false,((z4 : Nat) : Int),⟨#[]⟩,0,0,0,⟨#[]⟩,0,none,0,0⟩ : MgM) rfl rfl (zeroG 0) R9.out ?_))
   exact bodyPost_ret (v:=.tuple #[.agg (mgV (⟨((kk : Nat) : Int),0,0,0,false,0,0,zeroM,0,0,none,0,0,none,0,0,0,0,0,0,false,((z4 : Nat) : Int),⟨#[]⟩,0,0,0,⟨#[]⟩,0,none,0,0⟩ : MgM)),.int .i64 0]) (results_mgD Tryz.results6 _ _ R (⟨((kk : Nat) : Int),0,0,0,false,0,0,zeroM,0,0,none,0,0,none,0,0,0,0,0,0,false,((z4 : Nat) : Int),⟨#[]⟩,0,0,0,⟨#[]⟩,0,none,0,0⟩ : MgM) rfl (R9.out.fill _)) rfl ⟨.inl ⟨(⟨((kk : Nat) : Int),0,0,0,false,0,0,zeroM,0,0,none,0,0,none,0,0,0,0,0,0,false,((z4 : Nat) : Int),⟨#[]⟩,0,0,0,⟨#[]⟩,0,none,0,0⟩ : MgM),noL,rfl,(HAT.out.later (B8.out.trans (below_drewN q9 (Below.refl _ _)))).fill2 R9.out fst_nil fst_nil,HMF.out,hyes.out⟩,Only.below (BV.trans ((B8.out.trans (below_drewN q9 (Below.refl _ _))).mono BV.size)) (only_fill _ _ _) (by have:=RW.out;omega) (BV.trans (B8.out.mono BV.size)).size⟩
  ·have hno:=hid (doc_no hRes (.inr he))
   have cW : Calls Tryz.prog 21 #[.agg (mgV (⟨((kk : Nat) : Int),0,0,0,false,0,0,zeroM,0,0,none,0,0,none,0,0,0,0,0,0,false,((z4 : Nat) : Int),⟨#[]⟩,0,0,0,⟨#[]⟩,0,none,0,0⟩ : MgM))] V4 fun e w' => ∃ a n c,e = .returned (.tuple #[.slice a n c,.int .i64 0])∧w'.ownsRow V4.heap.size 5 1 (.slice a n c) n (bcells (mgB (mgT (⟨((kk : Nat) : Int),0,0,0,false,0,0,zeroM,0,0,none,0,0,none,0,0,0,0,0,0,false,((z4 : Nat) : Int),⟨#[]⟩,0,0,0,⟨#[]⟩,0,none,0,0⟩ : MgM) noL)))∧Below V4.heap.size V4 w':=by rw [hf] at wr0;exact wr0
   have cS : ∀ (U : World) (a' : Option Addr) (n' c' : Nat),BAt U U.heap.size a' n' (mgB (mgT (⟨((kk : Nat) : Int),0,0,0,false,0,0,zeroM,0,0,none,0,0,none,0,0,0,0,0,0,false,((z4 : Nat) : Int),⟨#[]⟩,0,0,0,⟨#[]⟩,0,none,0,0⟩ : MgM) noL))→BAt U U.heap.size a n l→n'≤maxLen→Calls Tryz.prog 22 #[.slice a n c,.slice a' n' c'] U (Reads1 U (.bool false)):=fun U a' n' c' h1 h2 h3=>by
    have h:=same_any a a' n n' c c' _ _ l (mgB (mgT (⟨((kk : Nat) : Int),0,0,0,false,0,0,zeroM,0,0,none,0,0,none,0,0,0,0,0,0,false,((z4 : Nat) : Int),⟨#[]⟩,0,0,0,⟨#[]⟩,0,none,0,0⟩ : MgM) noL)) U h2 h1 HNM.out h3
    rw [decide_eq_false (fun e=>he e.symm)] at h;exact h
   clear wr0 hMn hf he hAt hMF
   go_wp2_with (first | (go_at_call 17;(with_reducible first | refine (cId _).mono ?_ | refine (cGrp _).mono ?_ | refine (cStp _).mono ?_ | refine (cYes _).mono ?_ | refine (cNum _).mono ?_ | refine (cKey _).mono ?_ | refine (cVal _).mono ?_ | refine (cDat _).mono ?_);rintro e wu ⟨rfl,rfl⟩) | (go_at_call 21;((with_reducible refine cW.mono ?_);rintro e w8 ⟨a8,n8,c8,rfl,ho8,hb8⟩;have O8:=hid (BAt.of_own ho8);have M8:=hid (Nat.le_trans (own_caps ho8).1 (own_caps ho8).2);have X8:=hid (K4.out.bx.below hb8);have R8:=hid (K4.out.rx.below hb8);have B8:=hid hb8;have L8:=X8.out.ldD;have I8 : Hid (BAt w8 w8.heap.size a n l):=(HL.out.below (BV.trans (hb8.mono BV.size)) (Nat.le_refl _)).more (BV.trans (hb8.mono BV.size)).size;clear ho8 hb8)) | (go_at_call 22;((with_reducible refine (cS w8 a8 n8 c8 O8.out I8.out M8.out).mono ?_);rintro e w9 ⟨rfl,q9,rfl⟩;have X9 : Hid (BoxC (w8.drewN q9) G (mgV (⟨((kk : Nat) : Int),0,0,0,false,0,0,zeroM,0,0,none,0,0,none,0,0,0,0,0,0,false,((z4 : Nat) : Int),⟨#[]⟩,0,0,0,⟨#[]⟩,0,none,0,0⟩ : MgM)) 46):=X8.out;have R9 : Hid (BoxC (w8.drewN q9) R (mgV (zeroG 0)) 46):=R8.out;have L9:=X9.out.ldD)) | (refine wpList_store_doc rfl _ _ rfl R (zeroG 0) rfl rfl (zeroG 0) R9.out ?_))
   exact bodyPost_ret (v:=.tuple #[.agg (mgV (zeroG 0)),.int .i64 2]) (results_mgD Tryz.results6 _ _ R (zeroG 0) rfl (R9.out.fill _)) rfl ⟨.inr ⟨rfl,hno.out⟩,Only.below (BV.trans ((B8.out.trans (below_drewN q9 (Below.refl _ _))).mono BV.size)) (only_fill _ _ _) (by have:=RW.out;omega) (BV.trans (B8.out.mono BV.size)).size⟩
 ·have hf2 : formMg (mgT (⟨((kk : Nat) : Int),0,0,0,false,0,0,zeroM,0,0,none,0,0,none,0,0,0,0,0,0,false,((z4 : Nat) : Int),⟨#[]⟩,0,0,0,⟨#[]⟩,0,none,0,0⟩ : MgM) noL) = false:=by simpa using hf
  have hno:=hid (doc_no hRes (.inl hf2))
  have cW : Calls Tryz.prog 21 #[.agg (mgV (⟨((kk : Nat) : Int),0,0,0,false,0,0,zeroM,0,0,none,0,0,none,0,0,0,0,0,0,false,((z4 : Nat) : Int),⟨#[]⟩,0,0,0,⟨#[]⟩,0,none,0,0⟩ : MgM))] V4 fun e w' => ∃ a n c,e = .returned (.tuple #[.slice a n c,.int .i64 2])∧w'.ownsRow V4.heap.size 5 1 (.slice a n c) n (bcells [])∧Below V4.heap.size V4 w':=by rw [hf2] at wr0;exact wr0
  clear wr0 hMn hf hf2 hAt hMF
  go_wp2_with (first | (go_at_call 17;(with_reducible first | refine (cId _).mono ?_ | refine (cGrp _).mono ?_ | refine (cStp _).mono ?_ | refine (cYes _).mono ?_ | refine (cNum _).mono ?_ | refine (cKey _).mono ?_ | refine (cVal _).mono ?_ | refine (cDat _).mono ?_);rintro e wu ⟨rfl,rfl⟩) | (go_at_call 21;((with_reducible refine cW.mono ?_);rintro e w8 ⟨a8,n8,c8,rfl,ho8,hb8⟩;have O8:=hid (BAt.of_own ho8);have M8:=hid (Nat.le_trans (own_caps ho8).1 (own_caps ho8).2);have X8:=hid (K4.out.bx.below hb8);have R8:=hid (K4.out.rx.below hb8);have B8:=hid hb8;have L8:=X8.out.ldD;have I8 : Hid (BAt w8 w8.heap.size a n l):=(HL.out.below (BV.trans (hb8.mono BV.size)) (Nat.le_refl _)).more (BV.trans (hb8.mono BV.size)).size;clear ho8 hb8)) | (refine wpList_store_doc rfl _ _ rfl R (zeroG 0) rfl rfl (zeroG 0) R8.out ?_))
  exact bodyPost_ret (v:=.tuple #[.agg (mgV (zeroG 0)),.int .i64 2]) (results_mgD Tryz.results6 _ _ R (zeroG 0) rfl (R8.out.fill _)) rfl ⟨.inr ⟨rfl,hno.out⟩,Only.below (BV.trans (B8.out.mono BV.size)) (only_fill _ _ _) (by have:=RW.out;omega) (BV.trans (B8.out.mono BV.size)).size⟩
theorem read_dat (a : Option Addr) (n c kk : Nat) (l : List UInt8) (w : World) (hl : BAt w w.heap.size a n l) (hn : n≤70000) (hnc : n≤c) (hcm : c≤maxLen) (hk : kk < 256) (hz : ∀ z st1,Res (numP 1) (some l) z st1→(st1 = none→z = 0)→kk = z) (ls : List Nat) (hls0 : ls = [115]) (hls : lets (letters ((kk : Nat) : Int)) = ls ++ [100]) (uId : uId ((kk : Nat) : Int) = false) (uGrp : uGrp ((kk : Nat) : Int) = false) (uStp : uStp ((kk : Nat) : Int) = false) (uYes : uYes ((kk : Nat) : Int) = false) (uNum : uNum ((kk : Nat) : Int) = false) (uKey : uKey ((kk : Nat) : Int) = false) (uVal : uVal ((kk : Nat) : Int) = false) (uDat : uDat ((kk : Nat) : Int) = true)
  (cH : ∀ (g : Nat) (W : World) (st1 : St),FS w.heap.size g l st1 W→Calls Tryz.prog 16 #[.pointer (some ⟨g,0,none⟩),.agg (mgV (zeroG ((kk : Nat) : Int)))] W (HeadR W w.heap.size g l ((kk : Nat) : Int) ls st1)) :
  Calls Tryz.prog 6 #[.slice a n c] w (ReadR w l):=by
 obtain ⟨R,hR0⟩ : ∃ R,w.heap.size = R:=⟨_,rfl⟩
 obtain ⟨g,hg0⟩ : ∃ g,R + 1 = g:=⟨_,rfl⟩
 have b1 : Below w.heap.size w (w.alloc (.cells ZL 46)):=(Below.refl _ _).alloc (Nat.le_refl _) _
 have s1 : (w.alloc (.cells ZL 46)).heap.size = w.heap.size + 1:=by simp
 have BEL : Hid (Below w.heap.size w ((w.alloc (.cells ZL 46)).alloc (.cells #[.slice a n c,.int .i64 0,.bool false] 61))):=b1.alloc b1.size _
 have RX0 : Hid (BoxC ((w.alloc (.cells ZL 46)).alloc (.cells #[.slice a n c,.int .i64 0,.bool false] 61)) R (mgV (zeroG 0)) 46):=by
  have h : BoxC (w.alloc (.cells ZL 46)) w.heap.size ZL 46:=BoxC.new w ZL 46
  rw [hR0] at h
  exact h.below ((Below.refl _ _).alloc (Nat.le_refl _) _)
 have FS0 : Hid (FS w.heap.size g l (some l) ((w.alloc (.cells ZL 46)).alloc (.cells #[.slice a n c,.int .i64 0,.bool false] 61))):=by
  refine ⟨0,⟨a,n,c,?_,hnc,hcm,hl.below BEL.out (Nat.le_refl _),Nat.zero_le _,by omega⟩,fun l' e=>by injection e with e;rw [e];rfl⟩
  have h:=BoxC.new (w.alloc (.cells ZL 46)) #[.slice a n c,.int .i64 0,.bool false] 61
  rw [s1,hR0,hg0] at h
  exact h
 have HL:=hid hl
 have HNM : Hid (n≤maxLen):=Nat.le_trans hnc hcm
 have HN7:=hid hn
 have HNC:=hid hnc
 have HCM:=hid hcm
 have RW : Hid (w.heap.size≤R):=by unfold Hid;omega
 have GW : Hid (w.heap.size≤g):=by unfold Hid;omega
 have GR : Hid (R < g):=by unfold Hid;omega
 have HK:=hid hk
 have HZ:=hid hz
 have HLS:=hid hls
 have cId:=fun V=>useId_any ((kk : Nat) : Int) V
 rw [uId] at cId
 have cGrp:=fun V=>useGrp_any ((kk : Nat) : Int) V
 rw [uGrp] at cGrp
 have cStp:=fun V=>useStp_any ((kk : Nat) : Int) V
 rw [uStp] at cStp
 have cYes:=fun V=>useYes_any ((kk : Nat) : Int) V
 rw [uYes] at cYes
 have cNum:=fun V=>useNum_any ((kk : Nat) : Int) V
 rw [uNum] at cNum
 have cKey:=fun V=>useKey_any ((kk : Nat) : Int) V
 rw [uKey] at cKey
 have cVal:=fun V=>useVal_any ((kk : Nat) : Int) V
 rw [uVal] at cVal
 have cDat:=fun V=>useDat_any ((kk : Nat) : Int) V
 rw [uDat] at cDat
 clear hl hn hnc hcm hk hz hls b1 s1 uId uGrp uStp uYes uNum uKey uVal uDat
 go_enter Tryz.func6,Tryz.ntmps6
 go_upto_region 2 with fail
 generalize hV0 : (w.alloc (.cells ZL 46)).alloc (.cells #[.slice a n c,.int .i64 0,.bool false] 61) = V0 at *
 clear hV0
 have cT : Calls Tryz.prog 15 #[.pointer (some ⟨g,0,none⟩),.int .i64 1] V0 (Took1 (FS w.heap.size g l) g numV (numP 1) 0 (some l) V0):=refTakeS_any w.heap.size g l 1 (some l) V0 FS0.out (by omega)
 go_upto_region 3 with (first | (go_at_call 15;((with_reducible refine cT.mono ?_);rintro e w2 ⟨z,st1,rfl,hr2,ho2,hR2,hz2⟩;obtain rfl : kk = z:=HZ.out z st1 hR2 hz2;have D2:=hid hr2;have O2:=hid ho2;have R2:=hid hR2;have hk:=HK.out;have ek:=wrap_i64 kk (by omega);have HX : Hid (BoxC (w2.alloc (.cells ZL 46)) w2.heap.size (mgV (zeroG 0)) 46):=BoxC.new w2 _ _;clear hr2 ho2 hR2 hz2)) | (refine wpList_store_doc rfl _ _ rfl w2.heap.size (zeroG ((kk : Nat) : Int)) rfl rfl (zeroG 0) HX.out ?_))
 obtain ⟨G,hG0⟩ : ∃ G,w2.heap.size = G:=⟨_,rfl⟩
 have g0 : g < V0.heap.size:=FS0.out.lt
 have K1 : Hid (RfB V0 w.heap.size g G R l st1 (mgV (zeroG ((kk : Nat) : Int))) ((w2.alloc (.cells ZL 46)).setRow w2.heap.size (mgV (zeroG ((kk : Nat) : Int))))):=by
  have g2 : g < w2.heap.size:=D2.out.lt
  have hgr:=GR.out
  have oF:=only_fill (w2.alloc (.cells ZL 46)) w2.heap.size (mgV (zeroG ((kk : Nat) : Int)))
  have bA : Below w2.heap.size w2 (w2.alloc (.cells ZL 46)):=(Below.refl _ _).alloc (Nat.le_refl _) _
  have bF : Below w2.heap.size w2 ((w2.alloc (.cells ZL 46)).setRow w2.heap.size (mgV (zeroG ((kk : Nat) : Int)))):=Only.below bA oF (Nat.le_refl _) bA.size
  have x2 : BoxC w2 R (mgV (zeroG 0)) 46:=RX0.out.only O2.out (by omega)
  exact ⟨Keep.keep (g:=g) w2 _ D2.out fun b hb=>bF.block b (by omega),by rw [← hG0];exact HX.out.fill _,x2.below bF,O2.out.trans (below_only bF),g0,by have:=O2.out.size;omega,by omega,by have:=x2.lt;omega⟩
 rw [hG0] at K1
 simp only [hG0]
 clear D2 O2 HX cT RX0 FS0 ek
 generalize (w2.alloc (.cells ZL 46)).setRow G (mgV (zeroG ((kk : Nat) : Int))) = V1 at *
 have x0 : V1.cell? ⟨G,0,none⟩ = some (.int .i64 ((kk : Nat) : Int)):=K1.out.bx.cell 0 _ rfl
 have lG:=K1.out.bx.ldD
 have cHd:=cH g V1 st1 K1.out.rd
 go_upto_region 5 with (first | (go_at_call 16;((with_reducible refine cHd.mono ?_);rintro e w3 ⟨x,Lx,st2,rfl,hr3,ho3,hx3⟩;have K2:=hid (K1.out.only hr3 ho3);have H3:=hid hx3;clear hr3 ho3 hx3)) | (refine wpList_store_doc rfl _ _ rfl G x rfl rfl (zeroG ((kk : Nat) : Int)) K2.out.bx ?_))
 have A3 : Hid (MgAt (w3.setRow G (mgV x)) x Lx):=H3.out.at_.fill2 K2.out.bx H3.out.f1 H3.out.f2
 have K3 : Hid (RfB V0 w.heap.size g G R l st2 (mgV x) (w3.setRow G (mgV x))):=K2.out.fill (mgV x)
 clear K1 K2 x0 lG cHd cH
 generalize w3.setRow G (mgV x) = V3 at *
 obtain ⟨hB,hL0⟩:=H3.out.bare (by rw [hls0];simp [IsList])
 subst hL0
 have cD : Calls Tryz.prog 15 #[.pointer (some ⟨g,0,none⟩),.int .i64 4] V3 (Took1 (FS w.heap.size g l) g numV (numP 4) 0 st2 V3):=refTakeS_any w.heap.size g l 4 st2 V3 K3.out.rd (by omega)
 have HB:=hid hB
 clear hB
 go_upto_region 23 with (first | (go_at_call 17;(with_reducible first | refine (cId _).mono ?_ | refine (cGrp _).mono ?_ | refine (cStp _).mono ?_ | refine (cYes _).mono ?_ | refine (cNum _).mono ?_ | refine (cKey _).mono ?_ | refine (cVal _).mono ?_ | refine (cDat _).mono ?_);rintro e wu ⟨rfl,rfl⟩) | (go_at_call 15;((with_reducible refine cD.mono ?_);rintro e w4 ⟨z4,st4,rfl,hr,ho,hR,hz⟩;have K4:=hid (K3.out.only hr ho);have R4:=hid hR;have A4 : Hid (MgAt w4 x noL):=Bare.at_ HB.out A3.out.nb;clear hr ho hR hz)))
 cases st4 with
 | none =>
  have yf:=K4.out.rd.flag.1
  have hAt:=A4.out
  have hMF:=H3.out.f
  have hRes : Res rdD (some l) (mgT x noL) none:=by
   refine Res.bind (x:=((kk : Nat) : Int)) (res_numI R2.out) ?_
   rw [HLS.out,fldsD_app]
   exact Res.bind (x:=mgT x noL) H3.out.res (Res.bind (x:=mgT x noL) (Res.bind (x:=z4) R4.out (Res.no (mgT x noL) (fun l e=>by cases e))) (Res.pure _ _))
  have hMn:=hAt.ok
  have BV : Below w.heap.size w w4:=Only.below BEL.out K4.out.onl (by have:=GW.out;omega) BEL.out.size
  have lG:=K4.out.bx.ldD
  have wr0:=rWrite_any hAt hMF
  have HAT:=hid hAt
  have HMF:=hid hMF
  by_cases hf : formMg (mgT x noL) = true
  ·by_cases he : mgB (mgT x noL) = l
   ·have hyes:=hid (doc_yes hMn hf he)
    have cW : Calls Tryz.prog 21 #[.agg (mgV x)] w4 fun e w' => ∃ a' n' c',e = .returned (.tuple #[.slice a' n' c',.int .i64 0])∧w'.ownsRow w4.heap.size 5 1 (.slice a' n' c') n' (bcells l)∧Below w4.heap.size w4 w':=by rw [hf,he] at wr0;exact wr0
    have cS : ∀ (U : World) (a' : Option Addr) (n' c' : Nat),BAt U U.heap.size a' n' l→BAt U U.heap.size a n l→n'≤maxLen→Calls Tryz.prog 22 #[.slice a n c,.slice a' n' c'] U (Reads1 U (.bool true)):=fun U a' n' c' h1 h2 h3=>by
     have h:=same_any a a' n n' c c' _ _ l l U h2 h1 HNM.out h3
     rw [decide_eq_true rfl] at h;exact h
    clear wr0 hMn hf he hAt hMF
    go_wp2_with (first | (go_at_call 17;(with_reducible first | refine (cId _).mono ?_ | refine (cGrp _).mono ?_ | refine (cStp _).mono ?_ | refine (cYes _).mono ?_ | refine (cNum _).mono ?_ | refine (cKey _).mono ?_ | refine (cVal _).mono ?_ | refine (cDat _).mono ?_);rintro e wu ⟨rfl,rfl⟩) | (go_at_call 21;((with_reducible refine cW.mono ?_);rintro e w8 ⟨a8,n8,c8,rfl,ho8,hb8⟩;have O8:=hid (BAt.of_own ho8);have M8:=hid (Nat.le_trans (own_caps ho8).1 (own_caps ho8).2);have X8:=hid (K4.out.bx.below hb8);have R8:=hid (K4.out.rx.below hb8);have B8:=hid hb8;have L8:=X8.out.ldD;have I8 : Hid (BAt w8 w8.heap.size a n l):=(HL.out.below (BV.trans (hb8.mono BV.size)) (Nat.le_refl _)).more (BV.trans (hb8.mono BV.size)).size;clear ho8 hb8)) | (go_at_call 22;((with_reducible refine (cS w8 a8 n8 c8 O8.out I8.out M8.out).mono ?_);rintro e w9 ⟨rfl,q9,rfl⟩;have X9 : Hid (BoxC (w8.drewN q9) G (mgV x) 46):=X8.out;have R9 : Hid (BoxC (w8.drewN q9) R (mgV (zeroG 0)) 46):=R8.out;have L9:=X9.out.ldD)) | (refine wpList_store_doc rfl _ _ rfl R x rfl rfl (zeroG 0) R9.out ?_))
    exact bodyPost_ret (v:=.tuple #[.agg (mgV x),.int .i64 0]) (results_mgD Tryz.results6 _ _ R x rfl (R9.out.fill _)) rfl ⟨.inl ⟨x,noL,rfl,(HAT.out.later (B8.out.trans (below_drewN q9 (Below.refl _ _)))).fill2 R9.out fst_nil fst_nil,HMF.out,hyes.out⟩,Only.below (BV.trans ((B8.out.trans (below_drewN q9 (Below.refl _ _))).mono BV.size)) (only_fill _ _ _) (by have:=RW.out;omega) (BV.trans (B8.out.mono BV.size)).size⟩
   ·have hno:=hid (doc_no hRes (.inr he))
    have cW : Calls Tryz.prog 21 #[.agg (mgV x)] w4 fun e w' => ∃ a' n' c',e = .returned (.tuple #[.slice a' n' c',.int .i64 0])∧w'.ownsRow w4.heap.size 5 1 (.slice a' n' c') n' (bcells (mgB (mgT x noL)))∧Below w4.heap.size w4 w':=by rw [hf] at wr0;exact wr0
    have cS : ∀ (U : World) (a' : Option Addr) (n' c' : Nat),BAt U U.heap.size a' n' (mgB (mgT x noL))→BAt U U.heap.size a n l→n'≤maxLen→Calls Tryz.prog 22 #[.slice a n c,.slice a' n' c'] U (Reads1 U (.bool false)):=fun U a' n' c' h1 h2 h3=>by
     have h:=same_any a a' n n' c c' _ _ l (mgB (mgT x noL)) U h2 h1 HNM.out h3
     rw [decide_eq_false (fun e=>he e.symm)] at h;exact h
    clear wr0 hMn hf he hAt hMF
    go_wp2_with (first | (go_at_call 17;(with_reducible first | refine (cId _).mono ?_ | refine (cGrp _).mono ?_ | refine (cStp _).mono ?_ | refine (cYes _).mono ?_ | refine (cNum _).mono ?_ | refine (cKey _).mono ?_ | refine (cVal _).mono ?_ | refine (cDat _).mono ?_);rintro e wu ⟨rfl,rfl⟩) | (go_at_call 21;((with_reducible refine cW.mono ?_);rintro e w8 ⟨a8,n8,c8,rfl,ho8,hb8⟩;have O8:=hid (BAt.of_own ho8);have M8:=hid (Nat.le_trans (own_caps ho8).1 (own_caps ho8).2);have X8:=hid (K4.out.bx.below hb8);have R8:=hid (K4.out.rx.below hb8);have B8:=hid hb8;have L8:=X8.out.ldD;have I8 : Hid (BAt w8 w8.heap.size a n l):=(HL.out.below (BV.trans (hb8.mono BV.size)) (Nat.le_refl _)).more (BV.trans (hb8.mono BV.size)).size;clear ho8 hb8)) | (go_at_call 22;((with_reducible refine (cS w8 a8 n8 c8 O8.out I8.out M8.out).mono ?_);rintro e w9 ⟨rfl,q9,rfl⟩;have X9 : Hid (BoxC (w8.drewN q9) G (mgV x) 46):=X8.out;have R9 : Hid (BoxC (w8.drewN q9) R (mgV (zeroG 0)) 46):=R8.out;have L9:=X9.out.ldD)) | (refine wpList_store_doc rfl _ _ rfl R (zeroG 0) rfl rfl (zeroG 0) R9.out ?_))
    exact bodyPost_ret (v:=.tuple #[.agg (mgV (zeroG 0)),.int .i64 2]) (results_mgD Tryz.results6 _ _ R (zeroG 0) rfl (R9.out.fill _)) rfl ⟨.inr ⟨rfl,hno.out⟩,Only.below (BV.trans ((B8.out.trans (below_drewN q9 (Below.refl _ _))).mono BV.size)) (only_fill _ _ _) (by have:=RW.out;omega) (BV.trans (B8.out.mono BV.size)).size⟩
  ·have hf2 : formMg (mgT x noL) = false:=by simpa using hf
   have hno:=hid (doc_no hRes (.inl hf2))
   have cW : Calls Tryz.prog 21 #[.agg (mgV x)] w4 fun e w' => ∃ a' n' c',e = .returned (.tuple #[.slice a' n' c',.int .i64 2])∧w'.ownsRow w4.heap.size 5 1 (.slice a' n' c') n' (bcells [])∧Below w4.heap.size w4 w':=by rw [hf2] at wr0;exact wr0
   clear wr0 hMn hf hf2 hAt hMF
   go_wp2_with (first | (go_at_call 17;(with_reducible first | refine (cId _).mono ?_ | refine (cGrp _).mono ?_ | refine (cStp _).mono ?_ | refine (cYes _).mono ?_ | refine (cNum _).mono ?_ | refine (cKey _).mono ?_ | refine (cVal _).mono ?_ | refine (cDat _).mono ?_);rintro e wu ⟨rfl,rfl⟩) | (go_at_call 21;((with_reducible refine cW.mono ?_);rintro e w8 ⟨a8,n8,c8,rfl,ho8,hb8⟩;have O8:=hid (BAt.of_own ho8);have M8:=hid (Nat.le_trans (own_caps ho8).1 (own_caps ho8).2);have X8:=hid (K4.out.bx.below hb8);have R8:=hid (K4.out.rx.below hb8);have B8:=hid hb8;have L8:=X8.out.ldD;have I8 : Hid (BAt w8 w8.heap.size a n l):=(HL.out.below (BV.trans (hb8.mono BV.size)) (Nat.le_refl _)).more (BV.trans (hb8.mono BV.size)).size;clear ho8 hb8)) | (refine wpList_store_doc rfl _ _ rfl R (zeroG 0) rfl rfl (zeroG 0) R8.out ?_))
   exact bodyPost_ret (v:=.tuple #[.agg (mgV (zeroG 0)),.int .i64 2]) (results_mgD Tryz.results6 _ _ R (zeroG 0) rfl (R8.out.fill _)) rfl ⟨.inr ⟨rfl,hno.out⟩,Only.below (BV.trans (B8.out.mono BV.size)) (only_fill _ _ _) (by have:=RW.out;omega) (BV.trans (B8.out.mono BV.size)).size⟩
 | some l4 =>
  have yf:=K4.out.rd.flag.1
  obtain ⟨k,hRf,hlk⟩:=K4.out.rd
  obtain rfl:=hlk l4 rfl
  have hkn : k≤n∧4≤n∧w4.cell? ⟨g,1,none⟩ = some (.int .i64 k):=by
   obtain ⟨a',n',c',hh,h1,h2,h3,h4,h5⟩:=hRf
   have e1:=h3.len
   have e2:=HL.out.len
   refine ⟨by omega,?_,BoxC.cell (cs:=#[.slice a' n' c',.int .i64 k,.bool (!(some (l.drop k)).isSome)]) hh 1 _ rfl⟩
   rcases R4.out with ⟨l2,r2,h6,h7,_⟩ | ⟨_,h6⟩
   ·obtain ⟨k2,_,h8⟩:=K3.out.rd
    have h9:=h8 l2 h6
    unfold numP at h7
    split at h7
    ·rename_i h10
     rw [h9] at h10
     simp at h10
     omega
    ·cases h7
   ·cases h6
  obtain ⟨hk1,hn4,y1⟩:=hkn
  obtain ⟨b,off,rfl,hbB⟩:=HL.out.addr (by omega)
  obtain ⟨A,hA⟩ : ∃ A,(if c = k then (some ⟨b,off,none⟩ : Option Addr) else some ⟨b,off + k,none⟩) = A:=⟨_,rfl⟩
  have HAA:=hid hA
  have hkc : k≤c:=by have:=HNC.out;omega
  have hnc1:=HNC.out
  have y33:=K4.out.bx.cell 33 _ rfl
  have f33:=K4.out.bx.frozen 33
  go_upto_region 25 with fail
  have K5 : Hid (RfB V0 w.heap.size g G R l (some (l.drop k)) (mgV (⟨x.k,x.br,x.bn,x.sl,x.has,x.vr,x.vn,x.cm,x.s,x.q,x.a,x.n,x.c,x.b,x.m,x.d,x.i,x.j,x.g,x.st,x.y,x.nu,x.key,x.ver,x.vk,x.vb,x.vt,x.er,A,(n - k),(c - k)⟩ : MgM)) (w4.setCell ⟨G,33,none⟩ (.slice A (n - k) (c - k)))):=(K4.out.set 33 (.slice A (n - k) (c - k))).eq (by apply Array.ext';simp only [Array.toList_setIfInBounds];rfl)
  clear y33 f33 y1 yf
  generalize w4.setCell ⟨G,33,none⟩ (.slice A (n - k) (c - k)) = V5 at *
  have hAt : MgAt V5 (⟨x.k,x.br,x.bn,x.sl,x.has,x.vr,x.vn,x.cm,x.s,x.q,x.a,x.n,x.c,x.b,x.m,x.d,x.i,x.j,x.g,x.st,x.y,x.nu,x.key,x.ver,x.vk,x.vb,x.vt,x.er,A,(n - k),(c - k)⟩ : MgM) ⟨[],[],[],[],l.drop k⟩:=by
   have BV : Below w.heap.size w V5:=Only.below BEL.out K5.out.onl (by have:=GW.out;omega) BEL.out.size
   have hd:=bat_drop ((HL.out.below BV (Nat.le_refl _)).more BV.size) hk1 hnc1
   rw [HAA.out] at hd
   have hm:=A4.out
   exact ⟨⟨by have:=(Bare.at_ (W:=V5) HB.out hm.nb).cm.tx;exact this,(Bare.at_ (W:=V5) HB.out hm.nb).cm.st⟩,(Bare.at_ (W:=V5) HB.out hm.nb).tx,hd,⟨hm.nb.br,hm.nb.vr,hm.nb.st,hm.nb.ver,hm.nb.vb,hm.nb.key,hm.nb.vt⟩⟩
  have hMF : MgF (⟨x.k,x.br,x.bn,x.sl,x.has,x.vr,x.vn,x.cm,x.s,x.q,x.a,x.n,x.c,x.b,x.m,x.d,x.i,x.j,x.g,x.st,x.y,x.nu,x.key,x.ver,x.vk,x.vb,x.vt,x.er,A,(n - k),(c - k)⟩ : MgM):=⟨H3.out.f.n,H3.out.f.m,H3.out.f.tn,H3.out.f.tm,by show n - k≤1000000;have:=HN7.out;omega⟩
  have hRes : Res rdD (some l) (mgT (⟨x.k,x.br,x.bn,x.sl,x.has,x.vr,x.vn,x.cm,x.s,x.q,x.a,x.n,x.c,x.b,x.m,x.d,x.i,x.j,x.g,x.st,x.y,x.nu,x.key,x.ver,x.vk,x.vb,x.vt,x.er,A,(n - k),(c - k)⟩ : MgM) ⟨[],[],[],[],l.drop k⟩) (some []):=by
   refine Res.bind (x:=((kk : Nat) : Int)) (res_numI R2.out) ?_
   rw [HLS.out,fldsD_app]
   exact Res.bind (x:=mgT x noL) H3.out.res (Res.bind (x:=mgT (⟨x.k,x.br,x.bn,x.sl,x.has,x.vr,x.vn,x.cm,x.s,x.q,x.a,x.n,x.c,x.b,x.m,x.d,x.i,x.j,x.g,x.st,x.y,x.nu,x.key,x.ver,x.vk,x.vb,x.vt,x.er,A,(n - k),(c - k)⟩ : MgM) ⟨[],[],[],[],l.drop k⟩) (Res.bind (x:=z4) R4.out (Res.yes rfl)) (Res.pure _ _))
  clear hkc hnc1 hA
  have hMn:=hAt.ok
  have BV : Below w.heap.size w V5:=Only.below BEL.out K5.out.onl (by have:=GW.out;omega) BEL.out.size
  have lG:=K5.out.bx.ldD
  have wr0:=rWrite_any hAt hMF
  have HAT:=hid hAt
  have HMF:=hid hMF
  by_cases hf : formMg (mgT (⟨x.k,x.br,x.bn,x.sl,x.has,x.vr,x.vn,x.cm,x.s,x.q,x.a,x.n,x.c,x.b,x.m,x.d,x.i,x.j,x.g,x.st,x.y,x.nu,x.key,x.ver,x.vk,x.vb,x.vt,x.er,A,(n - k),(c - k)⟩ : MgM) ⟨[],[],[],[],l.drop k⟩) = true
  ·by_cases he : mgB (mgT (⟨x.k,x.br,x.bn,x.sl,x.has,x.vr,x.vn,x.cm,x.s,x.q,x.a,x.n,x.c,x.b,x.m,x.d,x.i,x.j,x.g,x.st,x.y,x.nu,x.key,x.ver,x.vk,x.vb,x.vt,x.er,A,(n - k),(c - k)⟩ : MgM) ⟨[],[],[],[],l.drop k⟩) = l
   ·have hyes:=hid (doc_yes hMn hf he)
    have cW : Calls Tryz.prog 21 #[.agg (mgV (⟨x.k,x.br,x.bn,x.sl,x.has,x.vr,x.vn,x.cm,x.s,x.q,x.a,x.n,x.c,x.b,x.m,x.d,x.i,x.j,x.g,x.st,x.y,x.nu,x.key,x.ver,x.vk,x.vb,x.vt,x.er,A,(n - k),(c - k)⟩ : MgM))] V5 fun e w' => ∃ a' n' c',e = .returned (.tuple #[.slice a' n' c',.int .i64 0])∧w'.ownsRow V5.heap.size 5 1 (.slice a' n' c') n' (bcells l)∧Below V5.heap.size V5 w':=by rw [hf,he] at wr0;exact wr0
    have cS : ∀ (U : World) (a' : Option Addr) (n' c' : Nat),BAt U U.heap.size a' n' l→BAt U U.heap.size (some ⟨b,off,none⟩) n l→n'≤maxLen→Calls Tryz.prog 22 #[.slice (some ⟨b,off,none⟩) n c,.slice a' n' c'] U (Reads1 U (.bool true)):=fun U a' n' c' h1 h2 h3=>by
     have h:=same_any (some ⟨b,off,none⟩) a' n n' c c' _ _ l l U h2 h1 HNM.out h3
     rw [decide_eq_true rfl] at h;exact h
    clear wr0 hMn hf he hAt hMF
    go_wp2_with (first | (go_at_call 17;(with_reducible first | refine (cId _).mono ?_ | refine (cGrp _).mono ?_ | refine (cStp _).mono ?_ | refine (cYes _).mono ?_ | refine (cNum _).mono ?_ | refine (cKey _).mono ?_ | refine (cVal _).mono ?_ | refine (cDat _).mono ?_);rintro e wu ⟨rfl,rfl⟩) | (go_at_call 21;((with_reducible refine cW.mono ?_);rintro e w8 ⟨a8,n8,c8,rfl,ho8,hb8⟩;have O8:=hid (BAt.of_own ho8);have M8:=hid (Nat.le_trans (own_caps ho8).1 (own_caps ho8).2);have X8:=hid (K5.out.bx.below hb8);have R8:=hid (K5.out.rx.below hb8);have B8:=hid hb8;have L8:=X8.out.ldD;have I8 : Hid (BAt w8 w8.heap.size (some ⟨b,off,none⟩) n l):=(HL.out.below (BV.trans (hb8.mono BV.size)) (Nat.le_refl _)).more (BV.trans (hb8.mono BV.size)).size;clear ho8 hb8)) | (go_at_call 22;((with_reducible refine (cS w8 a8 n8 c8 O8.out I8.out M8.out).mono ?_);rintro e w9 ⟨rfl,q9,rfl⟩;have X9 : Hid (BoxC (w8.drewN q9) G (mgV (⟨x.k,x.br,x.bn,x.sl,x.has,x.vr,x.vn,x.cm,x.s,x.q,x.a,x.n,x.c,x.b,x.m,x.d,x.i,x.j,x.g,x.st,x.y,x.nu,x.key,x.ver,x.vk,x.vb,x.vt,x.er,A,(n - k),(c - k)⟩ : MgM)) 46):=X8.out;have R9 : Hid (BoxC (w8.drewN q9) R (mgV (zeroG 0)) 46):=R8.out;have L9:=X9.out.ldD)) | (refine wpList_store_doc rfl _ _ rfl R (⟨x.k,x.br,x.bn,x.sl,x.has,x.vr,x.vn,x.cm,x.s,x.q,x.a,x.n,x.c,x.b,x.m,x.d,x.i,x.j,x.g,x.st,x.y,x.nu,x.key,x.ver,x.vk,x.vb,x.vt,x.er,A,(n - k),(c - k)⟩ : MgM) rfl rfl (zeroG 0) R9.out ?_))
    exact bodyPost_ret (v:=.tuple #[.agg (mgV (⟨x.k,x.br,x.bn,x.sl,x.has,x.vr,x.vn,x.cm,x.s,x.q,x.a,x.n,x.c,x.b,x.m,x.d,x.i,x.j,x.g,x.st,x.y,x.nu,x.key,x.ver,x.vk,x.vb,x.vt,x.er,A,(n - k),(c - k)⟩ : MgM)),.int .i64 0]) (results_mgD Tryz.results6 _ _ R (⟨x.k,x.br,x.bn,x.sl,x.has,x.vr,x.vn,x.cm,x.s,x.q,x.a,x.n,x.c,x.b,x.m,x.d,x.i,x.j,x.g,x.st,x.y,x.nu,x.key,x.ver,x.vk,x.vb,x.vt,x.er,A,(n - k),(c - k)⟩ : MgM) rfl (R9.out.fill _)) rfl ⟨.inl ⟨(⟨x.k,x.br,x.bn,x.sl,x.has,x.vr,x.vn,x.cm,x.s,x.q,x.a,x.n,x.c,x.b,x.m,x.d,x.i,x.j,x.g,x.st,x.y,x.nu,x.key,x.ver,x.vk,x.vb,x.vt,x.er,A,(n - k),(c - k)⟩ : MgM),⟨[],[],[],[],l.drop k⟩,rfl,(HAT.out.later (B8.out.trans (below_drewN q9 (Below.refl _ _)))).fill2 R9.out fst_nil fst_nil,HMF.out,hyes.out⟩,Only.below (BV.trans ((B8.out.trans (below_drewN q9 (Below.refl _ _))).mono BV.size)) (only_fill _ _ _) (by have:=RW.out;omega) (BV.trans (B8.out.mono BV.size)).size⟩
   ·have hno:=hid (doc_no hRes (.inr he))
    have cW : Calls Tryz.prog 21 #[.agg (mgV (⟨x.k,x.br,x.bn,x.sl,x.has,x.vr,x.vn,x.cm,x.s,x.q,x.a,x.n,x.c,x.b,x.m,x.d,x.i,x.j,x.g,x.st,x.y,x.nu,x.key,x.ver,x.vk,x.vb,x.vt,x.er,A,(n - k),(c - k)⟩ : MgM))] V5 fun e w' => ∃ a' n' c',e = .returned (.tuple #[.slice a' n' c',.int .i64 0])∧w'.ownsRow V5.heap.size 5 1 (.slice a' n' c') n' (bcells (mgB (mgT (⟨x.k,x.br,x.bn,x.sl,x.has,x.vr,x.vn,x.cm,x.s,x.q,x.a,x.n,x.c,x.b,x.m,x.d,x.i,x.j,x.g,x.st,x.y,x.nu,x.key,x.ver,x.vk,x.vb,x.vt,x.er,A,(n - k),(c - k)⟩ : MgM) ⟨[],[],[],[],l.drop k⟩)))∧Below V5.heap.size V5 w':=by rw [hf] at wr0;exact wr0
    have cS : ∀ (U : World) (a' : Option Addr) (n' c' : Nat),BAt U U.heap.size a' n' (mgB (mgT (⟨x.k,x.br,x.bn,x.sl,x.has,x.vr,x.vn,x.cm,x.s,x.q,x.a,x.n,x.c,x.b,x.m,x.d,x.i,x.j,x.g,x.st,x.y,x.nu,x.key,x.ver,x.vk,x.vb,x.vt,x.er,A,(n - k),(c - k)⟩ : MgM) ⟨[],[],[],[],l.drop k⟩))→BAt U U.heap.size (some ⟨b,off,none⟩) n l→n'≤maxLen→Calls Tryz.prog 22 #[.slice (some ⟨b,off,none⟩) n c,.slice a' n' c'] U (Reads1 U (.bool false)):=fun U a' n' c' h1 h2 h3=>by
     have h:=same_any (some ⟨b,off,none⟩) a' n n' c c' _ _ l (mgB (mgT (⟨x.k,x.br,x.bn,x.sl,x.has,x.vr,x.vn,x.cm,x.s,x.q,x.a,x.n,x.c,x.b,x.m,x.d,x.i,x.j,x.g,x.st,x.y,x.nu,x.key,x.ver,x.vk,x.vb,x.vt,x.er,A,(n - k),(c - k)⟩ : MgM) ⟨[],[],[],[],l.drop k⟩)) U h2 h1 HNM.out h3
     rw [decide_eq_false (fun e=>he e.symm)] at h;exact h
    clear wr0 hMn hf he hAt hMF
    go_wp2_with (first | (go_at_call 17;(with_reducible first | refine (cId _).mono ?_ | refine (cGrp _).mono ?_ | refine (cStp _).mono ?_ | refine (cYes _).mono ?_ | refine (cNum _).mono ?_ | refine (cKey _).mono ?_ | refine (cVal _).mono ?_ | refine (cDat _).mono ?_);rintro e wu ⟨rfl,rfl⟩) | (go_at_call 21;((with_reducible refine cW.mono ?_);rintro e w8 ⟨a8,n8,c8,rfl,ho8,hb8⟩;have O8:=hid (BAt.of_own ho8);have M8:=hid (Nat.le_trans (own_caps ho8).1 (own_caps ho8).2);have X8:=hid (K5.out.bx.below hb8);have R8:=hid (K5.out.rx.below hb8);have B8:=hid hb8;have L8:=X8.out.ldD;have I8 : Hid (BAt w8 w8.heap.size (some ⟨b,off,none⟩) n l):=(HL.out.below (BV.trans (hb8.mono BV.size)) (Nat.le_refl _)).more (BV.trans (hb8.mono BV.size)).size;clear ho8 hb8)) | (go_at_call 22;((with_reducible refine (cS w8 a8 n8 c8 O8.out I8.out M8.out).mono ?_);rintro e w9 ⟨rfl,q9,rfl⟩;have X9 : Hid (BoxC (w8.drewN q9) G (mgV (⟨x.k,x.br,x.bn,x.sl,x.has,x.vr,x.vn,x.cm,x.s,x.q,x.a,x.n,x.c,x.b,x.m,x.d,x.i,x.j,x.g,x.st,x.y,x.nu,x.key,x.ver,x.vk,x.vb,x.vt,x.er,A,(n - k),(c - k)⟩ : MgM)) 46):=X8.out;have R9 : Hid (BoxC (w8.drewN q9) R (mgV (zeroG 0)) 46):=R8.out;have L9:=X9.out.ldD)) | (refine wpList_store_doc rfl _ _ rfl R (zeroG 0) rfl rfl (zeroG 0) R9.out ?_))
    exact bodyPost_ret (v:=.tuple #[.agg (mgV (zeroG 0)),.int .i64 2]) (results_mgD Tryz.results6 _ _ R (zeroG 0) rfl (R9.out.fill _)) rfl ⟨.inr ⟨rfl,hno.out⟩,Only.below (BV.trans ((B8.out.trans (below_drewN q9 (Below.refl _ _))).mono BV.size)) (only_fill _ _ _) (by have:=RW.out;omega) (BV.trans (B8.out.mono BV.size)).size⟩
  ·have hf2 : formMg (mgT (⟨x.k,x.br,x.bn,x.sl,x.has,x.vr,x.vn,x.cm,x.s,x.q,x.a,x.n,x.c,x.b,x.m,x.d,x.i,x.j,x.g,x.st,x.y,x.nu,x.key,x.ver,x.vk,x.vb,x.vt,x.er,A,(n - k),(c - k)⟩ : MgM) ⟨[],[],[],[],l.drop k⟩) = false:=by simpa using hf
   have hno:=hid (doc_no hRes (.inl hf2))
   have cW : Calls Tryz.prog 21 #[.agg (mgV (⟨x.k,x.br,x.bn,x.sl,x.has,x.vr,x.vn,x.cm,x.s,x.q,x.a,x.n,x.c,x.b,x.m,x.d,x.i,x.j,x.g,x.st,x.y,x.nu,x.key,x.ver,x.vk,x.vb,x.vt,x.er,A,(n - k),(c - k)⟩ : MgM))] V5 fun e w' => ∃ a' n' c',e = .returned (.tuple #[.slice a' n' c',.int .i64 2])∧w'.ownsRow V5.heap.size 5 1 (.slice a' n' c') n' (bcells [])∧Below V5.heap.size V5 w':=by rw [hf2] at wr0;exact wr0
   clear wr0 hMn hf hf2 hAt hMF
   go_wp2_with (first | (go_at_call 17;(with_reducible first | refine (cId _).mono ?_ | refine (cGrp _).mono ?_ | refine (cStp _).mono ?_ | refine (cYes _).mono ?_ | refine (cNum _).mono ?_ | refine (cKey _).mono ?_ | refine (cVal _).mono ?_ | refine (cDat _).mono ?_);rintro e wu ⟨rfl,rfl⟩) | (go_at_call 21;((with_reducible refine cW.mono ?_);rintro e w8 ⟨a8,n8,c8,rfl,ho8,hb8⟩;have O8:=hid (BAt.of_own ho8);have M8:=hid (Nat.le_trans (own_caps ho8).1 (own_caps ho8).2);have X8:=hid (K5.out.bx.below hb8);have R8:=hid (K5.out.rx.below hb8);have B8:=hid hb8;have L8:=X8.out.ldD;have I8 : Hid (BAt w8 w8.heap.size (some ⟨b,off,none⟩) n l):=(HL.out.below (BV.trans (hb8.mono BV.size)) (Nat.le_refl _)).more (BV.trans (hb8.mono BV.size)).size;clear ho8 hb8)) | (refine wpList_store_doc rfl _ _ rfl R (zeroG 0) rfl rfl (zeroG 0) R8.out ?_))
   exact bodyPost_ret (v:=.tuple #[.agg (mgV (zeroG 0)),.int .i64 2]) (results_mgD Tryz.results6 _ _ R (zeroG 0) rfl (R8.out.fill _)) rfl ⟨.inr ⟨rfl,hno.out⟩,Only.below (BV.trans (B8.out.mono BV.size)) (only_fill _ _ _) (by have:=RW.out;omega) (BV.trans (B8.out.mono BV.size)).size⟩
/-- The kind that the bytes tell. -/
noncomputable def kindOf (l : List UInt8) : Nat:=match numP 1 l with
 | some (z,_)=>z
 | none=>0
theorem kind_lt (l : List UInt8) : kindOf l < 256:=by
 unfold kindOf
 cases e : numP 1 l with
 | none=>simp
 | some y =>
  obtain ⟨z,r⟩:=y
  exact num_lt (st:=some l) (st':=some r) (k:=1) (.yes e) (fun h=>by cases h) (by decide)
theorem kind_is (l : List UInt8) : ∀ z st1,Res (numP 1) (some l) z st1→(st1 = none→z = 0)→kindOf l = z:=by
 intro z st1 h h0
 unfold kindOf
 rcases h with ⟨l',r,e,hp,_⟩ | ⟨hn,e⟩
 ·injection e with e;subst e
  rw [hp]
 ·rw [hn l rfl,h0 e]
theorem docRead_any (a : Option Addr) (n c : Nat) (l : List UInt8) (w : World) (hl : BAt w w.heap.size a n l) (hn : n≤70000) (hnc : n≤c) (hcm : c≤maxLen) :
  Calls Tryz.prog 6 #[.slice a n c] w (ReadR w l):=by
 have hk:=kind_lt l
 have hz:=kind_is l
 generalize kindOf l = kk at hk hz
 by_cases h : 1≤kk∧kk≤15
 ·rcases (by omega : kk = 1∨kk = 2∨kk = 3∨kk = 4∨kk = 5∨kk = 6∨kk = 7∨kk = 8∨kk = 9∨kk = 10∨kk = 11∨kk = 12∨kk = 13∨kk = 14∨kk = 15) with rfl | rfl | rfl | rfl | rfl | rfl | rfl | rfl | rfl | rfl | rfl | rfl | rfl | rfl | rfl
  ·exact read_n a n c 1 l w hl hn hnc hcm (by omega) hz [98] (by decide) rfl rfl rfl rfl rfl rfl rfl rfl (fun g W st1 h=>head_b W w.heap.size g l (((1 : Nat)) : Int) st1 _ rfl h rfl rfl rfl rfl rfl)
  ·exact read_n a n c 2 l w hl hn hnc hcm (by omega) hz [98,115,104] (by decide) rfl rfl rfl rfl rfl rfl rfl rfl (fun g W st1 h=>head_bsh W w.heap.size g l (((2 : Nat)) : Int) st1 _ rfl h rfl rfl rfl rfl rfl)
  ·exact read_n a n c 3 l w hl hn hnc hcm (by omega) hz [98] (by decide) rfl rfl rfl rfl rfl rfl rfl rfl (fun g W st1 h=>head_b W w.heap.size g l (((3 : Nat)) : Int) st1 _ rfl h rfl rfl rfl rfl rfl)
  ·exact read_n a n c 4 l w hl hn hnc hcm (by omega) hz [98,115,99] (by decide) rfl rfl rfl rfl rfl rfl rfl rfl (fun g W st1 h=>head_bsc W w.heap.size g l (((4 : Nat)) : Int) st1 _ rfl h rfl rfl rfl rfl rfl)
  ·exact read_n a n c 5 l w hl hn hnc hcm (by omega) hz [98,115] (by decide) rfl rfl rfl rfl rfl rfl rfl rfl (fun g W st1 h=>head_bs W w.heap.size g l (((5 : Nat)) : Int) st1 _ rfl h rfl rfl rfl rfl rfl)
  ·exact read_n a n c 6 l w hl hn hnc hcm (by omega) hz [115,99] (by decide) rfl rfl rfl rfl rfl rfl rfl rfl (fun g W st1 h=>head_sc W w.heap.size g l (((6 : Nat)) : Int) st1 _ rfl h rfl rfl rfl rfl rfl)
  ·exact read_n a n c 7 l w hl hn hnc hcm (by omega) hz [115] (by decide) rfl rfl rfl rfl rfl rfl rfl rfl (fun g W st1 h=>head_s W w.heap.size g l (((7 : Nat)) : Int) st1 _ rfl h rfl rfl rfl rfl rfl)
  ·exact read_n a n c 8 l w hl hn hnc hcm (by omega) hz [116] (by decide) rfl rfl rfl rfl rfl rfl rfl rfl (fun g W st1 h=>head_t W w.heap.size g l (((8 : Nat)) : Int) st1 _ rfl h rfl rfl rfl rfl rfl)
  ·exact read_igp a n c 9 l w hl hn hnc hcm (by omega) hz [] (by decide) rfl rfl rfl rfl rfl rfl rfl rfl rfl (fun g W st1 h=>head_n W w.heap.size g l (((9 : Nat)) : Int) st1 _ rfl h rfl rfl rfl rfl rfl)
  ·exact read_igy a n c 10 l w hl hn hnc hcm (by omega) hz [] (by decide) rfl rfl rfl rfl rfl rfl rfl rfl rfl (fun g W st1 h=>head_n W w.heap.size g l (((10 : Nat)) : Int) st1 _ rfl h rfl rfl rfl rfl rfl)
  ·exact read_igpy a n c 11 l w hl hn hnc hcm (by omega) hz [] (by decide) rfl rfl rfl rfl rfl rfl rfl rfl rfl (fun g W st1 h=>head_n W w.heap.size g l (((11 : Nat)) : Int) st1 _ rfl h rfl rfl rfl rfl rfl)
  ·exact read_pnk a n c 12 l w hl hn hnc hcm (by omega) hz [] (by decide) rfl rfl rfl rfl rfl rfl rfl rfl rfl (fun g W st1 h=>head_n W w.heap.size g l (((12 : Nat)) : Int) st1 _ rfl h rfl rfl rfl rfl rfl)
  ·exact read_val a n c 13 l w hl hn hnc hcm (by omega) hz [] (by decide) rfl rfl rfl rfl rfl rfl rfl rfl rfl (fun g W st1 h=>head_n W w.heap.size g l (((13 : Nat)) : Int) st1 _ rfl h rfl rfl rfl rfl rfl)
  ·exact read_num a n c 14 l w hl hn hnc hcm (by omega) hz [] (by decide) rfl rfl rfl rfl rfl rfl rfl rfl rfl (fun g W st1 h=>head_n W w.heap.size g l (((14 : Nat)) : Int) st1 _ rfl h rfl rfl rfl rfl rfl)
  ·exact read_dat a n c 15 l w hl hn hnc hcm (by omega) hz [115] rfl (by decide) rfl rfl rfl rfl rfl rfl rfl rfl (fun g W st1 h=>head_s W w.heap.size g l (((15 : Nat)) : Int) st1 _ rfl h rfl rfl rfl rfl rfl)
 ·have hls : lets (letters ((kk : Nat) : Int)) = [] ++ []:=by rw [letters_none (by omega)];rfl
  have f0 : uBal ((kk : Nat) : Int) = false∧uSlot ((kk : Nat) : Int) = false∧uHas ((kk : Nat) : Int) = false∧uCmd ((kk : Nat) : Int) = false∧uTxn ((kk : Nat) : Int) = false:=by
   unfold uBal uSlot uHas uCmd uTxn
   simp only [Bool.and_eq_false_iff,Bool.or_eq_false_iff,decide_eq_false_iff_not]
   omega
  have f1 : uId ((kk : Nat) : Int) = false∧uGrp ((kk : Nat) : Int) = false∧uStp ((kk : Nat) : Int) = false∧uYes ((kk : Nat) : Int) = false∧uNum ((kk : Nat) : Int) = false∧uKey ((kk : Nat) : Int) = false∧uVal ((kk : Nat) : Int) = false∧uDat ((kk : Nat) : Int) = false:=by
   unfold uId uGrp uStp uYes uNum uKey uVal uDat
   simp only [Bool.and_eq_false_iff,Bool.or_eq_false_iff,decide_eq_false_iff_not]
   omega
  obtain ⟨p1,p2,p3,p4,p5⟩:=f0
  obtain ⟨q1,q2,q3,q4,q5,q6,q7,q8⟩:=f1
  exact read_n a n c kk l w hl hn hnc hcm hk hz [] hls q1 q2 q3 q4 q5 q6 q7 q8 (fun g W st1 h=>head_n W w.heap.size g l ((kk : Nat) : Int) st1 _ rfl h p1 p2 p3 p4 p5)
end Go.Proofs.YtigimmbdlhginaaGreatDoor
