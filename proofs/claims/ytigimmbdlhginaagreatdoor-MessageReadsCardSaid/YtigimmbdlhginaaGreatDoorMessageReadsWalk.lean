/- The law's walk of MessageReads. Conditions: the bytes lie in memory; the tables of utf8 lie there. -/
import Derived.Test.YtigimmbdlhginaaGreatDoorHN
import Derived.Test.YtigimmbdlhginaaGreatDoorMessageRefSame
import Derived.Test.YtigimmbdlhginaaGreatDoorGU
import Derived.Deep.RegionHeld3
namespace Go.Proofs.YtigimmbdlhginaaGreatDoor
set_option maxRecDepth 100000
set_option maxHeartbeats 8000000
open Go.RowKit
open Go.Lib (hid)
set_option linter.unusedVariables false
set_option linter.unusedSimpArgs false
theorem Boxs.fill5 {w W : World} {G : Nat} {cs : Array Value} {t : TypeId} {l : List (Nat×Array Value×TypeId)} (h : Boxs w W ((G,cs,t) :: l)) (hG : w.heap.size≤G) (hl : ∀ b ∈ l,b.1≠G) (ds : Array Value) : Boxs w (W.setRow G ds) ((G,ds,t) :: l) :=
 ⟨Only.below h.1 (only_fill W G ds) hG h.1.size,fun b hb=>by
  rcases List.mem_cons.1 hb with rfl | hb
  ·exact BoxC.fill (h.2 _ (List.mem_cons_self ..)) ds
  ·exact (h.2 b (List.mem_cons_of_mem _ hb)).only (only_fill W G ds) (hl b hb)⟩
/-- A box is made and filled. -/
theorem Boxs.made5 {w W : World} {l : List (Nat×Array Value×TypeId)} (h : Boxs w W l) (cs ds : Array Value) (t : TypeId) : Boxs w ((W.alloc (.cells cs t)).setRow W.heap.size ds) ((W.heap.size,ds,t) :: l) :=
 (h.more cs t).fill5 h.1.size (fun b hb=>Nat.ne_of_lt (h.2 b hb).lt) ds
/-- What lies in memory stands when a box is made and filled. -/
theorem below_made5 (W : World) (cs ds : Array Value) (t : TypeId) : Below W.heap.size W ((W.alloc (.cells cs t)).setRow W.heap.size ds) :=
 Only.below ((Below.refl _ _).alloc (Nat.le_refl _) _) (only_fill _ _ _) (Nat.le_refl _) (by simp)
/-- What the law compares. -/
theorem sameR_any (W : World) (x : MgM) (L : MgL) (h : MgAt W x L) (hf : MgF x) (y : MgM) (L' : MgL) (h' : MgAt W y L') (hf' : MgF y) (e : mgT x L = mgT y L') :
  Calls Tryz.prog 7 #[.agg (mgV x),.agg (mgV y)] W (Says W true):=by
 have h1:=rgSame_any x y L L' W h h' hf hf'
 rw [eqB_yes e] at h1
 exact h1
theorem reads_gen (a : Option Addr) (n c : Nat) (w : World) (z : Int) (M : Mg) (h7 : n≤70000) (cA : ∀ W,Below w.heap.size w W→Calls Tryz.prog 4 #[] W (Says W true)) (dG : ∀ W,Below w.heap.size w W→Calls Tryz.prog 5 #[.slice a n c] W fun e w' => ∃ x L,e = .returned (.tuple #[.agg (mgV x),.int .i64 z])∧MgAt w' x L∧MgF x∧mgT x L = M∧Below W.heap.size W w') (dR : ∀ W,Below w.heap.size w W→Calls Tryz.prog 6 #[.slice a n c] W fun e w' => ∃ x L,e = .returned (.tuple #[.agg (mgV x),.int .i64 z])∧MgAt w' x L∧MgF x∧mgT x L = M∧Below W.heap.size W w') :
  Calls Tryz.prog 3 #[.slice a n c] w (Says w true):=by
 have hd : decide ((n : Int) > 70000) = false:=decide_eq_false (by omega)
 have H0:=hid (Boxs.start w)
 clear h7
 go_enter Tryz.func3,Tryz.ntmps3
 go_upto_region 4 with (first | (go_at_call 4;((with_reducible refine (cA _ (Below.refl _ _)).mono ?_);rintro e w1 ⟨rfl,hb1⟩;have H1:=hid (H0.out.below hb1);clear hb1)) | (go_at_call 5;((with_reducible refine (dG _ H1.out.bel).mono ?_);rintro e w2 ⟨x,L,rfl,hx,hfx,ex,hb2⟩;have FX:=hid hfx;have EX:=hid ex;have H2:=hid (H1.out.below hb2);have X2:=hid hx;have HZ : Hid (BoxC (w2.alloc (.cells (zeroGV 0) 40)) w2.heap.size (mgV (zeroG 0)) 40):=BoxC.new w2 _ _;clear hx hfx ex hb2)) | (refine wpList_store_box rfl _ _ rfl w2.heap.size x rfl rfl (zeroG 0) HZ.out ?_))
 have H4:=hid (H2.out.made5 (zeroGV 0) (mgV x) 40)
 have X4:=hid (X2.out.later (below_made5 w2 (zeroGV 0) (mgV x) 40))
 clear H0 H1 H2 X2 HZ dG cA
 generalize (w2.alloc (.cells (zeroGV 0) 40)).setRow w2.heap.size (mgV x) = V2 at *
 generalize w2.heap.size = Gx at *
 go_upto_region 5 with (first | (go_at_call 6;((with_reducible refine (dR _ H4.out.bel).mono ?_);rintro e w3 ⟨y,L',rfl,hy,hfy,ey,hb3⟩;have FY:=hid hfy;have EY:=hid ey;have H5:=hid (H4.out.below hb3);have X5:=hid (X4.out.later hb3);have Y5:=hid hy;have HZ : Hid (BoxC (w3.alloc (.cells (zeroGV 0) 46)) w3.heap.size (mgV (zeroG 0)) 46):=BoxC.new w3 _ _;clear hy hfy ey hb3)) | (refine wpList_store_doc rfl _ _ rfl w3.heap.size y rfl rfl (zeroG 0) HZ.out ?_))
 have H3:=hid (H5.out.made5 (zeroGV 0) (mgV y) 46)
 have X3:=hid (X5.out.later (below_made5 w3 (zeroGV 0) (mgV y) 46))
 have Y3:=hid (Y5.out.later (below_made5 w3 (zeroGV 0) (mgV y) 46))
 clear H4 H5 X4 X5 Y5 HZ dR
 generalize (w3.alloc (.cells (zeroGV 0) 46)).setRow w3.heap.size (mgV y) = W4 at *
 generalize w3.heap.size = Gy at *
 have HD:=hid H3.out.drew
 have lx:=(HD.g 1 rfl).ldG
 have ly:=(HD.g 0 rfl).ldD
 have YD:=hid (Y3.out.later (below_drewN 1 (Below.refl _ _)))
 have XD:=hid (X3.out.later (below_drewN 1 (Below.refl _ _)))
 have s0 : (ldG (.pointer (some ⟨Gx,0,none⟩))).run Tryz.prog W4.drew = .ok (.agg (mgV x)) W4.drew∧(ldD (.pointer (some ⟨Gy,0,none⟩))).run Tryz.prog W4.drew = .ok (.agg (mgV y)) W4.drew:=⟨lx,ly⟩
 clear lx ly
 go_region_held3 (fun W=>((ldG (.pointer (some ⟨Gx,0,none⟩))).run Tryz.prog W = .ok (.agg (mgV x)) W∧(ldD (.pointer (some ⟨Gy,0,none⟩))).run Tryz.prog W = .ok (.agg (mgV y)) W)) (first | (with_reducible exact s0) | (with_reducible exact s1) | (with_reducible exact s2))
  (first | (go_at_call 8;((with_reducible refine (plain_any x _).mono ?_);rintro e w5 ⟨rfl,hb5⟩;have H5:=hid (HD.out.below hb5);have Y5:=hid (YD.out.later hb5);have X5:=hid (XD.out.later hb5);have s1:=And.intro (H5.g 1 rfl).ldG (H5.g 0 rfl).ldD;clear hb5)) | (go_at_call 7;((with_reducible refine (sameR_any _ x L X5.out FX.out y L' Y5.out FY.out (EX.out.trans EY.out.symm)).mono ?_);rintro e w6 ⟨rfl,hb6⟩;have H6:=hid (H5.out.below hb6);have s2:=And.intro (H6.g 1 rfl).ldG (H6.g 0 rfl).ldD;clear hb6)))
 go_wp2
 go_ret
 exact ⟨rfl,H6.out.bel⟩
theorem reads_walk (a : Option Addr) (n c : Nat) (l : List UInt8) (w : World) (hl : BAt w w.heap.size a n l) (hnc : n≤c) (hcm : c≤maxLen) (hU : Tabs w) :
  Calls Tryz.prog 3 #[.slice a n c] w (Says w true):=by
 have cA:=fun W (hW : Below w.heap.size w W)=>awake10_any W (hU.below hW)
 by_cases h7 : n≤70000
 ·have hd : decide ((n : Int) > 70000) = false:=decide_eq_false (by omega)
  have cG:=fun W (hW : Below w.heap.size w W)=>gRead_any a n c l W ((hl.below hW (Nat.le_refl _)).more hW.size) (by omega) (hU.below hW)
  have cR:=fun W (hW : Below w.heap.size w W)=>docRead_any a n c l W ((hl.below hW (Nat.le_refl _)).more hW.size) h7 hnc hcm
  by_cases hm : ∃ m,mgF l = some (m,[])
  ·obtain ⟨m,hm⟩:=hm
   have dG : ∀ W,Below w.heap.size w W→Calls Tryz.prog 5 #[.slice a n c] W fun e w' => ∃ x L,e = .returned (.tuple #[.agg (mgV x),.int .i64 0])∧MgAt w' x L∧MgF x∧mgT x L = m∧Below W.heap.size W w':=fun W hW=>(cG W hW).mono fun e w' hr=>by
    rcases hr with ⟨⟨x,L,h1,h2,h3,h4⟩ | ⟨_,h4⟩,hb⟩
    ·rw [hm] at h4;injection h4 with h4;injection h4 with h4 _
     exact ⟨x,L,h1,h2,h3,h4.symm,hb⟩
    ·exact absurd hm (h4 m)
   have dR : ∀ W,Below w.heap.size w W→Calls Tryz.prog 6 #[.slice a n c] W fun e w' => ∃ x L,e = .returned (.tuple #[.agg (mgV x),.int .i64 0])∧MgAt w' x L∧MgF x∧mgT x L = m∧Below W.heap.size W w':=fun W hW=>(cR W hW).mono fun e w' hr=>by
    rcases hr with ⟨⟨x,L,h1,h2,h3,h4⟩ | ⟨_,h4⟩,hb⟩
    ·rw [hm] at h4;injection h4 with h4;injection h4 with h4 _
     exact ⟨x,L,h1,h2,h3,h4.symm,hb⟩
    ·exact absurd hm (h4 m)
   clear cG cR hl hU hm
   exact reads_gen a n c w 0 m h7 cA dG dR
  ·have hm' : ∀ m,mgF l≠some (m,[]):=fun m h=>hm ⟨m,h⟩
   have dG : ∀ W,Below w.heap.size w W→Calls Tryz.prog 5 #[.slice a n c] W fun e w' => ∃ x L,e = .returned (.tuple #[.agg (mgV x),.int .i64 2])∧MgAt w' x L∧MgF x∧mgT x L = zM 0∧Below W.heap.size W w':=fun W hW=>(cG W hW).mono fun e w' hr=>by
    rcases hr with ⟨⟨x,L,h1,h2,h3,h4⟩ | ⟨h1,_⟩,hb⟩
    ·exact absurd h4 (hm' _)
    ·exact ⟨zeroG 0,noL,h1,MgAt.zero 0,zeroF 0,rfl,hb⟩
   have dR : ∀ W,Below w.heap.size w W→Calls Tryz.prog 6 #[.slice a n c] W fun e w' => ∃ x L,e = .returned (.tuple #[.agg (mgV x),.int .i64 2])∧MgAt w' x L∧MgF x∧mgT x L = zM 0∧Below W.heap.size W w':=fun W hW=>(cR W hW).mono fun e w' hr=>by
    rcases hr with ⟨⟨x,L,h1,h2,h3,h4⟩ | ⟨h1,_⟩,hb⟩
    ·exact absurd h4 (hm' _)
    ·exact ⟨zeroG 0,noL,h1,MgAt.zero 0,zeroF 0,rfl,hb⟩
   clear cG cR hl hU hm hm'
   exact reads_gen a n c w 2 (zM 0) h7 cA dG dR
 ·have hd : decide ((n : Int) > 70000) = true:=decide_eq_true (by omega)
  clear hl hU
  go_enter Tryz.func3,Tryz.ntmps3
  go_wp2_with (first | (go_at_call 4;((with_reducible refine (cA _ H1.out).mono ?_);rintro e w2 ⟨rfl,hb2⟩;have H2:=hid (H1.out.trans (hb2.mono H1.out.size));clear hb2)) | (go_at_call 4;((with_reducible refine (cA _ (Below.refl _ _)).mono ?_);rintro e w1 ⟨rfl,hb1⟩;have H1:=hid hb1;clear hb1)))
  go_ret
  exact ⟨rfl,H2.out⟩
end Go.Proofs.YtigimmbdlhginaaGreatDoor
