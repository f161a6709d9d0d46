/- Contract of the document's Same of messages. Conditions: the messages' lists lie in memory, and are no longer than a million. -/
import Derived.Test.YtigimmbdlhginaaGreatDoorGT
import Derived.Test.YtigimmbdlhginaaGreatDoorCodeSame
import Derived.Test.YtigimmbdlhginaaGreatDoorGI
namespace Go.Proofs.YtigimmbdlhginaaGreatDoor
open Go.RowKit
open Go.Lib (hid)
set_option linter.unusedVariables false
/-- Whether two messages in memory are alike, in the document's order. -/
noncomputable def sameGD (x y : MgM) (L L' : MgL) : Bool:=(x.k == y.k) && (eqB (((x.br : Nat) : Int),x.bn) (((y.br : Nat) : Int),y.bn) && ((x.sl == y.sl) && ((x.has == y.has) && (eqB (((x.vr : Nat) : Int),x.vn) (((y.vr : Nat) : Int),y.vn) && (eqB (x.i,x.j) (y.i,y.j) && ((x.g == y.g) && ((((x.st : Nat) : Int) == ((y.st : Nat) : Int)) && ((x.y == y.y) && ((x.nu == y.nu) && (eqB x.key y.key && ((((x.ver : Nat) : Int) == ((y.ver : Nat) : Int)) && (eqB (x.vk,((x.vb : Nat) : Int),x.vt) (y.vk,((y.vb : Nat) : Int),y.vt) && ((x.er == y.er) && (sameC x.cm y.cm L.rs L'.rs L.ws L'.ws && (sameM (x.s,x.q) (y.s,y.q) L.rt L'.rt L.wt L'.wt && (eqB L.dl L'.dl))))))))))))))))
set_option maxRecDepth 100000 in
set_option maxHeartbeats 4000000 in
theorem rgSame_gen (x y : MgM) (L L' : MgL) (w : World) (h : MgAt w x L) (h' : MgAt w y L') (hx : MgF x) (hy : MgF y) :
  Calls Tryz.prog 7 #[.agg (mgV x),.agg (mgV y)] w (Says w (sameGD x y L L')):=by
 have H0:=hid (((Boxs.start w).more (mgV x) 46).more (mgV y) 46)
 have hs : (w.alloc (.cells (mgV x) 46)).heap.size = w.heap.size + 1:=by simp
 rw [hs] at H0
 clear hs
 have cS : ∀ W,Below w.heap.size w W→Calls Tryz.prog 23 #[.agg (cmV x.cm),.agg (cmV y.cm)] W (Says W (sameC x.cm y.cm L.rs L'.rs L.ws L'.ws)):=fun W hW=>dSame_any x.cm y.cm L.rs L'.rs L.ws L'.ws W (h.cm.later hW) (h'.cm.later hW) hx.n hx.m
 have cT : ∀ W,Below w.heap.size w W→Calls Tryz.prog 24 #[.agg (txV x.s x.q x.a x.n x.c x.b x.m x.d),.agg (txV y.s y.q y.a y.n y.c y.b y.m y.d)] W (Says W (sameM (x.s,x.q) (y.s,y.q) L.rt L'.rt L.wt L'.wt)):=fun W hW=>rSame_any x.s x.q x.a x.n x.c x.b x.m x.d L.rt L.wt y.s y.q y.a y.n y.c y.b y.m y.d L'.rt L'.wt W (h.tx.later hW) (h'.tx.later hW) hx.tn hx.tm
 have cE : ∀ W,Below w.heap.size w W→Calls Tryz.prog 22 #[.slice x.da x.dn x.dc,.slice y.da y.dn y.dc] W (Says W (eqB L.dl L'.dl)):=fun W hW=>(same_any x.da y.da x.dn y.dn x.dc y.dc w.heap.size w.heap.size L.dl L'.dl W (h.da.below hW (Nat.le_refl _)) (h'.da.below hW (Nat.le_refl _)) (by have:=hx.dn;unfold maxLen;omega) (by have:=hy.dn;unfold maxLen;omega)).mono fun _ _ ⟨e1,q,e2⟩=>⟨by rw [e1,eqB_dec],by rw [e2];exact below_drewN q (Below.refl _ _)⟩
 clear h h' hx hy
 unfold sameGD
 cases q0 : (x.k == y.k)
 ·have nq0 : (x.k != y.k) = true:=by simp only [bne,q0];rfl
  have x0:=H0.c 1 0 rfl rfl;have y0:=H0.c 0 0 rfl rfl
  (clear cS cT cE)
  go_enter Tryz.func7,Tryz.ntmps7
  go_wp2
  go_ret
  exact ⟨by first | rfl | simp [*],H0.out.bel⟩
 ·have nq0 : (x.k != y.k) = false:=by simp only [bne,q0];rfl
  rcases id_cases ((x.br : Nat) : Int) x.bn ((y.br : Nat) : Int) y.bn with ⟨e1,q1,r1⟩ | ⟨e1,q1⟩ | ⟨e1,q1,r1⟩
  ·rw [e1]
   clear e1
   have nq1 : (((x.br : Nat) : Int) != ((y.br : Nat) : Int)) = false:=by simp only [bne,q1];rfl
   have nr1 : (x.bn != y.bn) = false:=by simp only [bne,r1];rfl
   cases q2 : (x.sl == y.sl)
   ·have nq2 : (x.sl != y.sl) = true:=by simp only [bne,q2];rfl
    have x0:=H0.c 1 0 rfl rfl;have x1:=H0.c 1 1 rfl rfl;have x2:=H0.c 1 2 rfl rfl;have x3:=H0.c 1 3 rfl rfl;have y0:=H0.c 0 0 rfl rfl;have y1:=H0.c 0 1 rfl rfl;have y2:=H0.c 0 2 rfl rfl;have y3:=H0.c 0 3 rfl rfl
    (clear cS cT cE)
    go_enter Tryz.func7,Tryz.ntmps7
    go_wp2
    go_ret
    exact ⟨by first | rfl | simp [*],H0.out.bel⟩
   ·have nq2 : (x.sl != y.sl) = false:=by simp only [bne,q2];rfl
    cases q3 : (x.has == y.has)
    ·have nq3 : (x.has != y.has) = true:=by simp only [bne,q3];rfl
     have x0:=H0.c 1 0 rfl rfl;have x1:=H0.c 1 1 rfl rfl;have x2:=H0.c 1 2 rfl rfl;have x3:=H0.c 1 3 rfl rfl;have x4:=H0.c 1 4 rfl rfl;have y0:=H0.c 0 0 rfl rfl;have y1:=H0.c 0 1 rfl rfl;have y2:=H0.c 0 2 rfl rfl;have y3:=H0.c 0 3 rfl rfl;have y4:=H0.c 0 4 rfl rfl
     (clear cS cT cE)
     go_enter Tryz.func7,Tryz.ntmps7
     go_wp2
     go_ret
     exact ⟨by first | rfl | simp [*],H0.out.bel⟩
    ·have nq3 : (x.has != y.has) = false:=by simp only [bne,q3];rfl
     rcases id_cases ((x.vr : Nat) : Int) x.vn ((y.vr : Nat) : Int) y.vn with ⟨e4,q4,r4⟩ | ⟨e4,q4⟩ | ⟨e4,q4,r4⟩
     ·rw [e4]
      clear e4
      have nq4 : (((x.vr : Nat) : Int) != ((y.vr : Nat) : Int)) = false:=by simp only [bne,q4];rfl
      have nr4 : (x.vn != y.vn) = false:=by simp only [bne,r4];rfl
      rcases id_cases x.i x.j y.i y.j with ⟨e5,q5,r5⟩ | ⟨e5,q5⟩ | ⟨e5,q5,r5⟩
      ·rw [e5]
       clear e5
       have nq5 : (x.i != y.i) = false:=by simp only [bne,q5];rfl
       have nr5 : (x.j != y.j) = false:=by simp only [bne,r5];rfl
       cases q6 : (x.g == y.g)
       ·have nq6 : (x.g != y.g) = true:=by simp only [bne,q6];rfl
        have x0:=H0.c 1 0 rfl rfl;have x1:=H0.c 1 1 rfl rfl;have x2:=H0.c 1 2 rfl rfl;have x21:=H0.c 1 21 rfl rfl;have x22:=H0.c 1 22 rfl rfl;have x23:=H0.c 1 23 rfl rfl;have x3:=H0.c 1 3 rfl rfl;have x4:=H0.c 1 4 rfl rfl;have x5:=H0.c 1 5 rfl rfl;have x6:=H0.c 1 6 rfl rfl;have y0:=H0.c 0 0 rfl rfl;have y1:=H0.c 0 1 rfl rfl;have y2:=H0.c 0 2 rfl rfl;have y21:=H0.c 0 21 rfl rfl;have y22:=H0.c 0 22 rfl rfl;have y23:=H0.c 0 23 rfl rfl;have y3:=H0.c 0 3 rfl rfl;have y4:=H0.c 0 4 rfl rfl;have y5:=H0.c 0 5 rfl rfl;have y6:=H0.c 0 6 rfl rfl
        (clear cS cT cE)
        go_enter Tryz.func7,Tryz.ntmps7
        go_wp2
        go_ret
        exact ⟨by first | rfl | simp [*],H0.out.bel⟩
       ·have nq6 : (x.g != y.g) = false:=by simp only [bne,q6];rfl
        cases q7 : (((x.st : Nat) : Int) == ((y.st : Nat) : Int))
        ·have nq7 : (((x.st : Nat) : Int) != ((y.st : Nat) : Int)) = true:=by simp only [bne,q7];rfl
         have x0:=H0.c 1 0 rfl rfl;have x1:=H0.c 1 1 rfl rfl;have x2:=H0.c 1 2 rfl rfl;have x21:=H0.c 1 21 rfl rfl;have x22:=H0.c 1 22 rfl rfl;have x23:=H0.c 1 23 rfl rfl;have x24:=H0.c 1 24 rfl rfl;have x3:=H0.c 1 3 rfl rfl;have x4:=H0.c 1 4 rfl rfl;have x5:=H0.c 1 5 rfl rfl;have x6:=H0.c 1 6 rfl rfl;have y0:=H0.c 0 0 rfl rfl;have y1:=H0.c 0 1 rfl rfl;have y2:=H0.c 0 2 rfl rfl;have y21:=H0.c 0 21 rfl rfl;have y22:=H0.c 0 22 rfl rfl;have y23:=H0.c 0 23 rfl rfl;have y24:=H0.c 0 24 rfl rfl;have y3:=H0.c 0 3 rfl rfl;have y4:=H0.c 0 4 rfl rfl;have y5:=H0.c 0 5 rfl rfl;have y6:=H0.c 0 6 rfl rfl
         (clear cS cT cE)
         go_enter Tryz.func7,Tryz.ntmps7
         go_wp2
         go_ret
         exact ⟨by first | rfl | simp [*],H0.out.bel⟩
        ·have nq7 : (((x.st : Nat) : Int) != ((y.st : Nat) : Int)) = false:=by simp only [bne,q7];rfl
         cases q8 : (x.y == y.y)
         ·have nq8 : (x.y != y.y) = true:=by simp only [bne,q8];rfl
          have x0:=H0.c 1 0 rfl rfl;have x1:=H0.c 1 1 rfl rfl;have x2:=H0.c 1 2 rfl rfl;have x21:=H0.c 1 21 rfl rfl;have x22:=H0.c 1 22 rfl rfl;have x23:=H0.c 1 23 rfl rfl;have x24:=H0.c 1 24 rfl rfl;have x25:=H0.c 1 25 rfl rfl;have x3:=H0.c 1 3 rfl rfl;have x4:=H0.c 1 4 rfl rfl;have x5:=H0.c 1 5 rfl rfl;have x6:=H0.c 1 6 rfl rfl;have y0:=H0.c 0 0 rfl rfl;have y1:=H0.c 0 1 rfl rfl;have y2:=H0.c 0 2 rfl rfl;have y21:=H0.c 0 21 rfl rfl;have y22:=H0.c 0 22 rfl rfl;have y23:=H0.c 0 23 rfl rfl;have y24:=H0.c 0 24 rfl rfl;have y25:=H0.c 0 25 rfl rfl;have y3:=H0.c 0 3 rfl rfl;have y4:=H0.c 0 4 rfl rfl;have y5:=H0.c 0 5 rfl rfl;have y6:=H0.c 0 6 rfl rfl
          (clear cS cT cE)
          go_enter Tryz.func7,Tryz.ntmps7
          go_wp2
          go_ret
          exact ⟨by first | rfl | simp [*],H0.out.bel⟩
         ·have nq8 : (x.y != y.y) = false:=by simp only [bne,q8];rfl
          cases q9 : (x.nu == y.nu)
          ·have nq9 : (x.nu != y.nu) = true:=by simp only [bne,q9];rfl
           have x0:=H0.c 1 0 rfl rfl;have x1:=H0.c 1 1 rfl rfl;have x2:=H0.c 1 2 rfl rfl;have x21:=H0.c 1 21 rfl rfl;have x22:=H0.c 1 22 rfl rfl;have x23:=H0.c 1 23 rfl rfl;have x24:=H0.c 1 24 rfl rfl;have x25:=H0.c 1 25 rfl rfl;have x26:=H0.c 1 26 rfl rfl;have x3:=H0.c 1 3 rfl rfl;have x4:=H0.c 1 4 rfl rfl;have x5:=H0.c 1 5 rfl rfl;have x6:=H0.c 1 6 rfl rfl;have y0:=H0.c 0 0 rfl rfl;have y1:=H0.c 0 1 rfl rfl;have y2:=H0.c 0 2 rfl rfl;have y21:=H0.c 0 21 rfl rfl;have y22:=H0.c 0 22 rfl rfl;have y23:=H0.c 0 23 rfl rfl;have y24:=H0.c 0 24 rfl rfl;have y25:=H0.c 0 25 rfl rfl;have y26:=H0.c 0 26 rfl rfl;have y3:=H0.c 0 3 rfl rfl;have y4:=H0.c 0 4 rfl rfl;have y5:=H0.c 0 5 rfl rfl;have y6:=H0.c 0 6 rfl rfl
           (clear cS cT cE)
           go_enter Tryz.func7,Tryz.ntmps7
           go_wp2
           go_ret
           exact ⟨by first | rfl | simp [*],H0.out.bel⟩
          ·have nq9 : (x.nu != y.nu) = false:=by simp only [bne,q9];rfl
           rcases str_cases x.key y.key with ⟨e10,q10⟩ | ⟨e10,q10⟩
           ·rw [e10]
            clear e10
            have nq10 : (x.key.toList != y.key.toList) = false:=by simp only [bne,q10];rfl
            cases q11 : (((x.ver : Nat) : Int) == ((y.ver : Nat) : Int))
            ·have nq11 : (((x.ver : Nat) : Int) != ((y.ver : Nat) : Int)) = true:=by simp only [bne,q11];rfl
             have x0:=H0.c 1 0 rfl rfl;have x1:=H0.c 1 1 rfl rfl;have x2:=H0.c 1 2 rfl rfl;have x21:=H0.c 1 21 rfl rfl;have x22:=H0.c 1 22 rfl rfl;have x23:=H0.c 1 23 rfl rfl;have x24:=H0.c 1 24 rfl rfl;have x25:=H0.c 1 25 rfl rfl;have x26:=H0.c 1 26 rfl rfl;have x27:=H0.c 1 27 rfl rfl;have x28:=H0.c 1 28 rfl rfl;have x3:=H0.c 1 3 rfl rfl;have x4:=H0.c 1 4 rfl rfl;have x5:=H0.c 1 5 rfl rfl;have x6:=H0.c 1 6 rfl rfl;have y0:=H0.c 0 0 rfl rfl;have y1:=H0.c 0 1 rfl rfl;have y2:=H0.c 0 2 rfl rfl;have y21:=H0.c 0 21 rfl rfl;have y22:=H0.c 0 22 rfl rfl;have y23:=H0.c 0 23 rfl rfl;have y24:=H0.c 0 24 rfl rfl;have y25:=H0.c 0 25 rfl rfl;have y26:=H0.c 0 26 rfl rfl;have y27:=H0.c 0 27 rfl rfl;have y28:=H0.c 0 28 rfl rfl;have y3:=H0.c 0 3 rfl rfl;have y4:=H0.c 0 4 rfl rfl;have y5:=H0.c 0 5 rfl rfl;have y6:=H0.c 0 6 rfl rfl
             (clear cS cT cE)
             go_enter Tryz.func7,Tryz.ntmps7
             go_wp2
             go_ret
             exact ⟨by first | rfl | simp [*],H0.out.bel⟩
            ·have nq11 : (((x.ver : Nat) : Int) != ((y.ver : Nat) : Int)) = false:=by simp only [bne,q11];rfl
             rcases val_cases x.vk y.vk x.vb y.vb x.vt y.vt with ⟨e12,q12,r12,s12⟩ | ⟨e12,q12⟩ | ⟨e12,q12,r12⟩ | ⟨e12,q12,r12,s12⟩
             ·rw [e12]
              clear e12
              have nq12 : (x.vk != y.vk) = false:=by simp only [bne,q12];rfl
              have nr12 : (((x.vb : Nat) : Int) != ((y.vb : Nat) : Int)) = false:=by simp only [bne,r12];rfl
              have ns12 : (x.vt.toList != y.vt.toList) = false:=by simp only [bne,s12];rfl
              cases q13 : (x.er == y.er)
              ·have nq13 : (x.er != y.er) = true:=by simp only [bne,q13];rfl
               have x0:=H0.c 1 0 rfl rfl;have x1:=H0.c 1 1 rfl rfl;have x2:=H0.c 1 2 rfl rfl;have x21:=H0.c 1 21 rfl rfl;have x22:=H0.c 1 22 rfl rfl;have x23:=H0.c 1 23 rfl rfl;have x24:=H0.c 1 24 rfl rfl;have x25:=H0.c 1 25 rfl rfl;have x26:=H0.c 1 26 rfl rfl;have x27:=H0.c 1 27 rfl rfl;have x28:=H0.c 1 28 rfl rfl;have x29:=H0.c 1 29 rfl rfl;have x3:=H0.c 1 3 rfl rfl;have x30:=H0.c 1 30 rfl rfl;have x31:=H0.c 1 31 rfl rfl;have x32:=H0.c 1 32 rfl rfl;have x4:=H0.c 1 4 rfl rfl;have x5:=H0.c 1 5 rfl rfl;have x6:=H0.c 1 6 rfl rfl;have y0:=H0.c 0 0 rfl rfl;have y1:=H0.c 0 1 rfl rfl;have y2:=H0.c 0 2 rfl rfl;have y21:=H0.c 0 21 rfl rfl;have y22:=H0.c 0 22 rfl rfl;have y23:=H0.c 0 23 rfl rfl;have y24:=H0.c 0 24 rfl rfl;have y25:=H0.c 0 25 rfl rfl;have y26:=H0.c 0 26 rfl rfl;have y27:=H0.c 0 27 rfl rfl;have y28:=H0.c 0 28 rfl rfl;have y29:=H0.c 0 29 rfl rfl;have y3:=H0.c 0 3 rfl rfl;have y30:=H0.c 0 30 rfl rfl;have y31:=H0.c 0 31 rfl rfl;have y32:=H0.c 0 32 rfl rfl;have y4:=H0.c 0 4 rfl rfl;have y5:=H0.c 0 5 rfl rfl;have y6:=H0.c 0 6 rfl rfl
               (clear cS cT cE)
               go_enter Tryz.func7,Tryz.ntmps7
               go_wp2
               go_ret
               exact ⟨by first | rfl | simp [*],H0.out.bel⟩
              ·have nq13 : (x.er != y.er) = false:=by simp only [bne,q13];rfl
               cases q14 : sameC x.cm y.cm L.rs L'.rs L.ws L'.ws
               ·rw [q14] at cS
                have x0:=H0.c 1 0 rfl rfl;have x1:=H0.c 1 1 rfl rfl;have x10:=H0.c 1 10 rfl rfl;have x11:=H0.c 1 11 rfl rfl;have x12:=H0.c 1 12 rfl rfl;have x13:=H0.c 1 13 rfl rfl;have x14:=H0.c 1 14 rfl rfl;have x15:=H0.c 1 15 rfl rfl;have x16:=H0.c 1 16 rfl rfl;have x2:=H0.c 1 2 rfl rfl;have x21:=H0.c 1 21 rfl rfl;have x22:=H0.c 1 22 rfl rfl;have x23:=H0.c 1 23 rfl rfl;have x24:=H0.c 1 24 rfl rfl;have x25:=H0.c 1 25 rfl rfl;have x26:=H0.c 1 26 rfl rfl;have x27:=H0.c 1 27 rfl rfl;have x28:=H0.c 1 28 rfl rfl;have x29:=H0.c 1 29 rfl rfl;have x3:=H0.c 1 3 rfl rfl;have x30:=H0.c 1 30 rfl rfl;have x31:=H0.c 1 31 rfl rfl;have x32:=H0.c 1 32 rfl rfl;have x4:=H0.c 1 4 rfl rfl;have x5:=H0.c 1 5 rfl rfl;have x6:=H0.c 1 6 rfl rfl;have x7:=H0.c 1 7 rfl rfl;have x8:=H0.c 1 8 rfl rfl;have x9:=H0.c 1 9 rfl rfl;have y0:=H0.c 0 0 rfl rfl;have y1:=H0.c 0 1 rfl rfl;have y10:=H0.c 0 10 rfl rfl;have y11:=H0.c 0 11 rfl rfl;have y12:=H0.c 0 12 rfl rfl;have y13:=H0.c 0 13 rfl rfl;have y14:=H0.c 0 14 rfl rfl;have y15:=H0.c 0 15 rfl rfl;have y16:=H0.c 0 16 rfl rfl;have y2:=H0.c 0 2 rfl rfl;have y21:=H0.c 0 21 rfl rfl;have y22:=H0.c 0 22 rfl rfl;have y23:=H0.c 0 23 rfl rfl;have y24:=H0.c 0 24 rfl rfl;have y25:=H0.c 0 25 rfl rfl;have y26:=H0.c 0 26 rfl rfl;have y27:=H0.c 0 27 rfl rfl;have y28:=H0.c 0 28 rfl rfl;have y29:=H0.c 0 29 rfl rfl;have y3:=H0.c 0 3 rfl rfl;have y30:=H0.c 0 30 rfl rfl;have y31:=H0.c 0 31 rfl rfl;have y32:=H0.c 0 32 rfl rfl;have y4:=H0.c 0 4 rfl rfl;have y5:=H0.c 0 5 rfl rfl;have y6:=H0.c 0 6 rfl rfl;have y7:=H0.c 0 7 rfl rfl;have y8:=H0.c 0 8 rfl rfl;have y9:=H0.c 0 9 rfl rfl
                (clear cT cE)
                go_enter Tryz.func7,Tryz.ntmps7
                go_wp2_with (go_at_call 23;((with_reducible refine (cS _ H0.out.bel).mono ?_);rintro e w1 ⟨rfl,hb1⟩;have H1:=hid (H0.out.below hb1)))
                go_ret
                exact ⟨by first | rfl | simp [*],H1.out.bel⟩
               ·rw [q14] at cS
                cases q15 : sameM (x.s,x.q) (y.s,y.q) L.rt L'.rt L.wt L'.wt
                ·rw [q15] at cT
                 have x0:=H0.c 1 0 rfl rfl;have x1:=H0.c 1 1 rfl rfl;have x10:=H0.c 1 10 rfl rfl;have x11:=H0.c 1 11 rfl rfl;have x12:=H0.c 1 12 rfl rfl;have x13:=H0.c 1 13 rfl rfl;have x14:=H0.c 1 14 rfl rfl;have x15:=H0.c 1 15 rfl rfl;have x16:=H0.c 1 16 rfl rfl;have x17:=H0.c 1 17 rfl rfl;have x18:=H0.c 1 18 rfl rfl;have x19:=H0.c 1 19 rfl rfl;have x2:=H0.c 1 2 rfl rfl;have x20:=H0.c 1 20 rfl rfl;have x21:=H0.c 1 21 rfl rfl;have x22:=H0.c 1 22 rfl rfl;have x23:=H0.c 1 23 rfl rfl;have x24:=H0.c 1 24 rfl rfl;have x25:=H0.c 1 25 rfl rfl;have x26:=H0.c 1 26 rfl rfl;have x27:=H0.c 1 27 rfl rfl;have x28:=H0.c 1 28 rfl rfl;have x29:=H0.c 1 29 rfl rfl;have x3:=H0.c 1 3 rfl rfl;have x30:=H0.c 1 30 rfl rfl;have x31:=H0.c 1 31 rfl rfl;have x32:=H0.c 1 32 rfl rfl;have x4:=H0.c 1 4 rfl rfl;have x5:=H0.c 1 5 rfl rfl;have x6:=H0.c 1 6 rfl rfl;have x7:=H0.c 1 7 rfl rfl;have x8:=H0.c 1 8 rfl rfl;have x9:=H0.c 1 9 rfl rfl;have y0:=H0.c 0 0 rfl rfl;have y1:=H0.c 0 1 rfl rfl;have y10:=H0.c 0 10 rfl rfl;have y11:=H0.c 0 11 rfl rfl;have y12:=H0.c 0 12 rfl rfl;have y13:=H0.c 0 13 rfl rfl;have y14:=H0.c 0 14 rfl rfl;have y15:=H0.c 0 15 rfl rfl;have y16:=H0.c 0 16 rfl rfl;have y17:=H0.c 0 17 rfl rfl;have y18:=H0.c 0 18 rfl rfl;have y19:=H0.c 0 19 rfl rfl;have y2:=H0.c 0 2 rfl rfl;have y20:=H0.c 0 20 rfl rfl;have y21:=H0.c 0 21 rfl rfl;have y22:=H0.c 0 22 rfl rfl;have y23:=H0.c 0 23 rfl rfl;have y24:=H0.c 0 24 rfl rfl;have y25:=H0.c 0 25 rfl rfl;have y26:=H0.c 0 26 rfl rfl;have y27:=H0.c 0 27 rfl rfl;have y28:=H0.c 0 28 rfl rfl;have y29:=H0.c 0 29 rfl rfl;have y3:=H0.c 0 3 rfl rfl;have y30:=H0.c 0 30 rfl rfl;have y31:=H0.c 0 31 rfl rfl;have y32:=H0.c 0 32 rfl rfl;have y4:=H0.c 0 4 rfl rfl;have y5:=H0.c 0 5 rfl rfl;have y6:=H0.c 0 6 rfl rfl;have y7:=H0.c 0 7 rfl rfl;have y8:=H0.c 0 8 rfl rfl;have y9:=H0.c 0 9 rfl rfl
                 (clear cE)
                 go_enter Tryz.func7,Tryz.ntmps7
                 go_wp2_with (first | (go_at_call 23;((with_reducible refine (cS _ H0.out.bel).mono ?_);rintro e w1 ⟨rfl,hb1⟩;have H1:=hid (H0.out.below hb1);(clear x0 x1 x10 x11 x12 x13 x14 x15 x16 x17 x18 x19 x2 x20 x21 x22 x23 x24 x25 x26 x27 x28 x29 x3 x30 x31 x32 x4 x5 x6 x7 x8 x9 y0 y1 y10 y11 y12 y13 y14 y15 y16 y17 y18 y19 y2 y20 y21 y22 y23 y24 y25 y26 y27 y28 y29 y3 y30 y31 y32 y4 y5 y6 y7 y8 y9);have x17:=H1.c 1 17 rfl rfl;have x18:=H1.c 1 18 rfl rfl;have x19:=H1.c 1 19 rfl rfl;have x20:=H1.c 1 20 rfl rfl;have y17:=H1.c 0 17 rfl rfl;have y18:=H1.c 0 18 rfl rfl;have y19:=H1.c 0 19 rfl rfl;have y20:=H1.c 0 20 rfl rfl)) | (go_at_call 24;((with_reducible refine (cT _ H1.out.bel).mono ?_);rintro e w2 ⟨rfl,hb2⟩;have H2:=hid (H1.out.below hb2))))
                 go_ret
                 exact ⟨by first | rfl | simp [*],H2.out.bel⟩
                ·rw [q15] at cT
                 cases q16 : eqB L.dl L'.dl
                 ·rw [q16] at cE
                  have x0:=H0.c 1 0 rfl rfl;have x1:=H0.c 1 1 rfl rfl;have x10:=H0.c 1 10 rfl rfl;have x11:=H0.c 1 11 rfl rfl;have x12:=H0.c 1 12 rfl rfl;have x13:=H0.c 1 13 rfl rfl;have x14:=H0.c 1 14 rfl rfl;have x15:=H0.c 1 15 rfl rfl;have x16:=H0.c 1 16 rfl rfl;have x17:=H0.c 1 17 rfl rfl;have x18:=H0.c 1 18 rfl rfl;have x19:=H0.c 1 19 rfl rfl;have x2:=H0.c 1 2 rfl rfl;have x20:=H0.c 1 20 rfl rfl;have x21:=H0.c 1 21 rfl rfl;have x22:=H0.c 1 22 rfl rfl;have x23:=H0.c 1 23 rfl rfl;have x24:=H0.c 1 24 rfl rfl;have x25:=H0.c 1 25 rfl rfl;have x26:=H0.c 1 26 rfl rfl;have x27:=H0.c 1 27 rfl rfl;have x28:=H0.c 1 28 rfl rfl;have x29:=H0.c 1 29 rfl rfl;have x3:=H0.c 1 3 rfl rfl;have x30:=H0.c 1 30 rfl rfl;have x31:=H0.c 1 31 rfl rfl;have x32:=H0.c 1 32 rfl rfl;have x33:=H0.c 1 33 rfl rfl;have x4:=H0.c 1 4 rfl rfl;have x5:=H0.c 1 5 rfl rfl;have x6:=H0.c 1 6 rfl rfl;have x7:=H0.c 1 7 rfl rfl;have x8:=H0.c 1 8 rfl rfl;have x9:=H0.c 1 9 rfl rfl;have y0:=H0.c 0 0 rfl rfl;have y1:=H0.c 0 1 rfl rfl;have y10:=H0.c 0 10 rfl rfl;have y11:=H0.c 0 11 rfl rfl;have y12:=H0.c 0 12 rfl rfl;have y13:=H0.c 0 13 rfl rfl;have y14:=H0.c 0 14 rfl rfl;have y15:=H0.c 0 15 rfl rfl;have y16:=H0.c 0 16 rfl rfl;have y17:=H0.c 0 17 rfl rfl;have y18:=H0.c 0 18 rfl rfl;have y19:=H0.c 0 19 rfl rfl;have y2:=H0.c 0 2 rfl rfl;have y20:=H0.c 0 20 rfl rfl;have y21:=H0.c 0 21 rfl rfl;have y22:=H0.c 0 22 rfl rfl;have y23:=H0.c 0 23 rfl rfl;have y24:=H0.c 0 24 rfl rfl;have y25:=H0.c 0 25 rfl rfl;have y26:=H0.c 0 26 rfl rfl;have y27:=H0.c 0 27 rfl rfl;have y28:=H0.c 0 28 rfl rfl;have y29:=H0.c 0 29 rfl rfl;have y3:=H0.c 0 3 rfl rfl;have y30:=H0.c 0 30 rfl rfl;have y31:=H0.c 0 31 rfl rfl;have y32:=H0.c 0 32 rfl rfl;have y33:=H0.c 0 33 rfl rfl;have y4:=H0.c 0 4 rfl rfl;have y5:=H0.c 0 5 rfl rfl;have y6:=H0.c 0 6 rfl rfl;have y7:=H0.c 0 7 rfl rfl;have y8:=H0.c 0 8 rfl rfl;have y9:=H0.c 0 9 rfl rfl
                  go_enter Tryz.func7,Tryz.ntmps7
                  go_wp2_with (first | (go_at_call 23;((with_reducible refine (cS _ H0.out.bel).mono ?_);rintro e w1 ⟨rfl,hb1⟩;have H1:=hid (H0.out.below hb1);(clear x0 x1 x10 x11 x12 x13 x14 x15 x16 x17 x18 x19 x2 x20 x21 x22 x23 x24 x25 x26 x27 x28 x29 x3 x30 x31 x32 x33 x4 x5 x6 x7 x8 x9 y0 y1 y10 y11 y12 y13 y14 y15 y16 y17 y18 y19 y2 y20 y21 y22 y23 y24 y25 y26 y27 y28 y29 y3 y30 y31 y32 y33 y4 y5 y6 y7 y8 y9);have x17:=H1.c 1 17 rfl rfl;have x18:=H1.c 1 18 rfl rfl;have x19:=H1.c 1 19 rfl rfl;have x20:=H1.c 1 20 rfl rfl;have x33:=H1.c 1 33 rfl rfl;have y17:=H1.c 0 17 rfl rfl;have y18:=H1.c 0 18 rfl rfl;have y19:=H1.c 0 19 rfl rfl;have y20:=H1.c 0 20 rfl rfl;have y33:=H1.c 0 33 rfl rfl)) | (go_at_call 24;((with_reducible refine (cT _ H1.out.bel).mono ?_);rintro e w2 ⟨rfl,hb2⟩;have H2:=hid (H1.out.below hb2);(clear x17 x18 x19 x20 x33 y17 y18 y19 y20 y33);have x33:=H2.c 1 33 rfl rfl;have y33:=H2.c 0 33 rfl rfl)) | (go_at_call 22;((with_reducible refine (cE _ H2.out.bel).mono ?_);rintro e w3 ⟨rfl,hb3⟩;have H3:=hid (H2.out.below hb3))))
                  go_ret
                  exact ⟨by first | rfl | simp [*],H3.out.bel⟩
                 ·rw [q16] at cE
                  have x0:=H0.c 1 0 rfl rfl;have x1:=H0.c 1 1 rfl rfl;have x10:=H0.c 1 10 rfl rfl;have x11:=H0.c 1 11 rfl rfl;have x12:=H0.c 1 12 rfl rfl;have x13:=H0.c 1 13 rfl rfl;have x14:=H0.c 1 14 rfl rfl;have x15:=H0.c 1 15 rfl rfl;have x16:=H0.c 1 16 rfl rfl;have x17:=H0.c 1 17 rfl rfl;have x18:=H0.c 1 18 rfl rfl;have x19:=H0.c 1 19 rfl rfl;have x2:=H0.c 1 2 rfl rfl;have x20:=H0.c 1 20 rfl rfl;have x21:=H0.c 1 21 rfl rfl;have x22:=H0.c 1 22 rfl rfl;have x23:=H0.c 1 23 rfl rfl;have x24:=H0.c 1 24 rfl rfl;have x25:=H0.c 1 25 rfl rfl;have x26:=H0.c 1 26 rfl rfl;have x27:=H0.c 1 27 rfl rfl;have x28:=H0.c 1 28 rfl rfl;have x29:=H0.c 1 29 rfl rfl;have x3:=H0.c 1 3 rfl rfl;have x30:=H0.c 1 30 rfl rfl;have x31:=H0.c 1 31 rfl rfl;have x32:=H0.c 1 32 rfl rfl;have x33:=H0.c 1 33 rfl rfl;have x4:=H0.c 1 4 rfl rfl;have x5:=H0.c 1 5 rfl rfl;have x6:=H0.c 1 6 rfl rfl;have x7:=H0.c 1 7 rfl rfl;have x8:=H0.c 1 8 rfl rfl;have x9:=H0.c 1 9 rfl rfl;have y0:=H0.c 0 0 rfl rfl;have y1:=H0.c 0 1 rfl rfl;have y10:=H0.c 0 10 rfl rfl;have y11:=H0.c 0 11 rfl rfl;have y12:=H0.c 0 12 rfl rfl;have y13:=H0.c 0 13 rfl rfl;have y14:=H0.c 0 14 rfl rfl;have y15:=H0.c 0 15 rfl rfl;have y16:=H0.c 0 16 rfl rfl;have y17:=H0.c 0 17 rfl rfl;have y18:=H0.c 0 18 rfl rfl;have y19:=H0.c 0 19 rfl rfl;have y2:=H0.c 0 2 rfl rfl;have y20:=H0.c 0 20 rfl rfl;have y21:=H0.c 0 21 rfl rfl;have y22:=H0.c 0 22 rfl rfl;have y23:=H0.c 0 23 rfl rfl;have y24:=H0.c 0 24 rfl rfl;have y25:=H0.c 0 25 rfl rfl;have y26:=H0.c 0 26 rfl rfl;have y27:=H0.c 0 27 rfl rfl;have y28:=H0.c 0 28 rfl rfl;have y29:=H0.c 0 29 rfl rfl;have y3:=H0.c 0 3 rfl rfl;have y30:=H0.c 0 30 rfl rfl;have y31:=H0.c 0 31 rfl rfl;have y32:=H0.c 0 32 rfl rfl;have y33:=H0.c 0 33 rfl rfl;have y4:=H0.c 0 4 rfl rfl;have y5:=H0.c 0 5 rfl rfl;have y6:=H0.c 0 6 rfl rfl;have y7:=H0.c 0 7 rfl rfl;have y8:=H0.c 0 8 rfl rfl;have y9:=H0.c 0 9 rfl rfl
                  go_enter Tryz.func7,Tryz.ntmps7
                  go_wp2_with (first | (go_at_call 23;((with_reducible refine (cS _ H0.out.bel).mono ?_);rintro e w1 ⟨rfl,hb1⟩;have H1:=hid (H0.out.below hb1);(clear x0 x1 x10 x11 x12 x13 x14 x15 x16 x17 x18 x19 x2 x20 x21 x22 x23 x24 x25 x26 x27 x28 x29 x3 x30 x31 x32 x33 x4 x5 x6 x7 x8 x9 y0 y1 y10 y11 y12 y13 y14 y15 y16 y17 y18 y19 y2 y20 y21 y22 y23 y24 y25 y26 y27 y28 y29 y3 y30 y31 y32 y33 y4 y5 y6 y7 y8 y9);have x17:=H1.c 1 17 rfl rfl;have x18:=H1.c 1 18 rfl rfl;have x19:=H1.c 1 19 rfl rfl;have x20:=H1.c 1 20 rfl rfl;have x33:=H1.c 1 33 rfl rfl;have y17:=H1.c 0 17 rfl rfl;have y18:=H1.c 0 18 rfl rfl;have y19:=H1.c 0 19 rfl rfl;have y20:=H1.c 0 20 rfl rfl;have y33:=H1.c 0 33 rfl rfl)) | (go_at_call 24;((with_reducible refine (cT _ H1.out.bel).mono ?_);rintro e w2 ⟨rfl,hb2⟩;have H2:=hid (H1.out.below hb2);(clear x17 x18 x19 x20 x33 y17 y18 y19 y20 y33);have x33:=H2.c 1 33 rfl rfl;have y33:=H2.c 0 33 rfl rfl)) | (go_at_call 22;((with_reducible refine (cE _ H2.out.bel).mono ?_);rintro e w3 ⟨rfl,hb3⟩;have H3:=hid (H2.out.below hb3))))
                  go_ret
                  exact ⟨by first | rfl | simp [*],H3.out.bel⟩
             ·rw [e12]
              clear e12
              have nq12 : (x.vk != y.vk) = true:=by simp only [bne,q12];rfl
              have x0:=H0.c 1 0 rfl rfl;have x1:=H0.c 1 1 rfl rfl;have x2:=H0.c 1 2 rfl rfl;have x21:=H0.c 1 21 rfl rfl;have x22:=H0.c 1 22 rfl rfl;have x23:=H0.c 1 23 rfl rfl;have x24:=H0.c 1 24 rfl rfl;have x25:=H0.c 1 25 rfl rfl;have x26:=H0.c 1 26 rfl rfl;have x27:=H0.c 1 27 rfl rfl;have x28:=H0.c 1 28 rfl rfl;have x29:=H0.c 1 29 rfl rfl;have x3:=H0.c 1 3 rfl rfl;have x30:=H0.c 1 30 rfl rfl;have x31:=H0.c 1 31 rfl rfl;have x4:=H0.c 1 4 rfl rfl;have x5:=H0.c 1 5 rfl rfl;have x6:=H0.c 1 6 rfl rfl;have y0:=H0.c 0 0 rfl rfl;have y1:=H0.c 0 1 rfl rfl;have y2:=H0.c 0 2 rfl rfl;have y21:=H0.c 0 21 rfl rfl;have y22:=H0.c 0 22 rfl rfl;have y23:=H0.c 0 23 rfl rfl;have y24:=H0.c 0 24 rfl rfl;have y25:=H0.c 0 25 rfl rfl;have y26:=H0.c 0 26 rfl rfl;have y27:=H0.c 0 27 rfl rfl;have y28:=H0.c 0 28 rfl rfl;have y29:=H0.c 0 29 rfl rfl;have y3:=H0.c 0 3 rfl rfl;have y30:=H0.c 0 30 rfl rfl;have y31:=H0.c 0 31 rfl rfl;have y4:=H0.c 0 4 rfl rfl;have y5:=H0.c 0 5 rfl rfl;have y6:=H0.c 0 6 rfl rfl
              (clear cS cT cE)
              go_enter Tryz.func7,Tryz.ntmps7
              go_wp2
              go_ret
              exact ⟨by first | rfl | simp [*],H0.out.bel⟩
             ·rw [e12]
              clear e12
              have nq12 : (x.vk != y.vk) = false:=by simp only [bne,q12];rfl
              have nr12 : (((x.vb : Nat) : Int) != ((y.vb : Nat) : Int)) = true:=by simp only [bne,r12];rfl
              have x0:=H0.c 1 0 rfl rfl;have x1:=H0.c 1 1 rfl rfl;have x2:=H0.c 1 2 rfl rfl;have x21:=H0.c 1 21 rfl rfl;have x22:=H0.c 1 22 rfl rfl;have x23:=H0.c 1 23 rfl rfl;have x24:=H0.c 1 24 rfl rfl;have x25:=H0.c 1 25 rfl rfl;have x26:=H0.c 1 26 rfl rfl;have x27:=H0.c 1 27 rfl rfl;have x28:=H0.c 1 28 rfl rfl;have x29:=H0.c 1 29 rfl rfl;have x3:=H0.c 1 3 rfl rfl;have x30:=H0.c 1 30 rfl rfl;have x31:=H0.c 1 31 rfl rfl;have x4:=H0.c 1 4 rfl rfl;have x5:=H0.c 1 5 rfl rfl;have x6:=H0.c 1 6 rfl rfl;have y0:=H0.c 0 0 rfl rfl;have y1:=H0.c 0 1 rfl rfl;have y2:=H0.c 0 2 rfl rfl;have y21:=H0.c 0 21 rfl rfl;have y22:=H0.c 0 22 rfl rfl;have y23:=H0.c 0 23 rfl rfl;have y24:=H0.c 0 24 rfl rfl;have y25:=H0.c 0 25 rfl rfl;have y26:=H0.c 0 26 rfl rfl;have y27:=H0.c 0 27 rfl rfl;have y28:=H0.c 0 28 rfl rfl;have y29:=H0.c 0 29 rfl rfl;have y3:=H0.c 0 3 rfl rfl;have y30:=H0.c 0 30 rfl rfl;have y31:=H0.c 0 31 rfl rfl;have y4:=H0.c 0 4 rfl rfl;have y5:=H0.c 0 5 rfl rfl;have y6:=H0.c 0 6 rfl rfl
              (clear cS cT cE)
              go_enter Tryz.func7,Tryz.ntmps7
              go_wp2
              go_ret
              exact ⟨by first | rfl | simp [*],H0.out.bel⟩
             ·rw [e12]
              clear e12
              have nq12 : (x.vk != y.vk) = false:=by simp only [bne,q12];rfl
              have nr12 : (((x.vb : Nat) : Int) != ((y.vb : Nat) : Int)) = false:=by simp only [bne,r12];rfl
              have ns12 : (x.vt.toList != y.vt.toList) = true:=by simp only [bne,s12];rfl
              have x0:=H0.c 1 0 rfl rfl;have x1:=H0.c 1 1 rfl rfl;have x2:=H0.c 1 2 rfl rfl;have x21:=H0.c 1 21 rfl rfl;have x22:=H0.c 1 22 rfl rfl;have x23:=H0.c 1 23 rfl rfl;have x24:=H0.c 1 24 rfl rfl;have x25:=H0.c 1 25 rfl rfl;have x26:=H0.c 1 26 rfl rfl;have x27:=H0.c 1 27 rfl rfl;have x28:=H0.c 1 28 rfl rfl;have x29:=H0.c 1 29 rfl rfl;have x3:=H0.c 1 3 rfl rfl;have x30:=H0.c 1 30 rfl rfl;have x31:=H0.c 1 31 rfl rfl;have x4:=H0.c 1 4 rfl rfl;have x5:=H0.c 1 5 rfl rfl;have x6:=H0.c 1 6 rfl rfl;have y0:=H0.c 0 0 rfl rfl;have y1:=H0.c 0 1 rfl rfl;have y2:=H0.c 0 2 rfl rfl;have y21:=H0.c 0 21 rfl rfl;have y22:=H0.c 0 22 rfl rfl;have y23:=H0.c 0 23 rfl rfl;have y24:=H0.c 0 24 rfl rfl;have y25:=H0.c 0 25 rfl rfl;have y26:=H0.c 0 26 rfl rfl;have y27:=H0.c 0 27 rfl rfl;have y28:=H0.c 0 28 rfl rfl;have y29:=H0.c 0 29 rfl rfl;have y3:=H0.c 0 3 rfl rfl;have y30:=H0.c 0 30 rfl rfl;have y31:=H0.c 0 31 rfl rfl;have y4:=H0.c 0 4 rfl rfl;have y5:=H0.c 0 5 rfl rfl;have y6:=H0.c 0 6 rfl rfl
              (clear cS cT cE)
              go_enter Tryz.func7,Tryz.ntmps7
              go_wp2
              go_ret
              exact ⟨by first | rfl | simp [*],H0.out.bel⟩
           ·rw [e10]
            clear e10
            have nq10 : (x.key.toList != y.key.toList) = true:=by simp only [bne,q10];rfl
            have x0:=H0.c 1 0 rfl rfl;have x1:=H0.c 1 1 rfl rfl;have x2:=H0.c 1 2 rfl rfl;have x21:=H0.c 1 21 rfl rfl;have x22:=H0.c 1 22 rfl rfl;have x23:=H0.c 1 23 rfl rfl;have x24:=H0.c 1 24 rfl rfl;have x25:=H0.c 1 25 rfl rfl;have x26:=H0.c 1 26 rfl rfl;have x27:=H0.c 1 27 rfl rfl;have x3:=H0.c 1 3 rfl rfl;have x4:=H0.c 1 4 rfl rfl;have x5:=H0.c 1 5 rfl rfl;have x6:=H0.c 1 6 rfl rfl;have y0:=H0.c 0 0 rfl rfl;have y1:=H0.c 0 1 rfl rfl;have y2:=H0.c 0 2 rfl rfl;have y21:=H0.c 0 21 rfl rfl;have y22:=H0.c 0 22 rfl rfl;have y23:=H0.c 0 23 rfl rfl;have y24:=H0.c 0 24 rfl rfl;have y25:=H0.c 0 25 rfl rfl;have y26:=H0.c 0 26 rfl rfl;have y27:=H0.c 0 27 rfl rfl;have y3:=H0.c 0 3 rfl rfl;have y4:=H0.c 0 4 rfl rfl;have y5:=H0.c 0 5 rfl rfl;have y6:=H0.c 0 6 rfl rfl
            (clear cS cT cE)
            go_enter Tryz.func7,Tryz.ntmps7
            go_wp2
            go_ret
            exact ⟨by first | rfl | simp [*],H0.out.bel⟩
      ·rw [e5]
       clear e5
       have nq5 : (x.i != y.i) = true:=by simp only [bne,q5];rfl
       have x0:=H0.c 1 0 rfl rfl;have x1:=H0.c 1 1 rfl rfl;have x2:=H0.c 1 2 rfl rfl;have x21:=H0.c 1 21 rfl rfl;have x22:=H0.c 1 22 rfl rfl;have x3:=H0.c 1 3 rfl rfl;have x4:=H0.c 1 4 rfl rfl;have x5:=H0.c 1 5 rfl rfl;have x6:=H0.c 1 6 rfl rfl;have y0:=H0.c 0 0 rfl rfl;have y1:=H0.c 0 1 rfl rfl;have y2:=H0.c 0 2 rfl rfl;have y21:=H0.c 0 21 rfl rfl;have y22:=H0.c 0 22 rfl rfl;have y3:=H0.c 0 3 rfl rfl;have y4:=H0.c 0 4 rfl rfl;have y5:=H0.c 0 5 rfl rfl;have y6:=H0.c 0 6 rfl rfl
       (clear cS cT cE)
       go_enter Tryz.func7,Tryz.ntmps7
       go_wp2
       go_ret
       exact ⟨by first | rfl | simp [*],H0.out.bel⟩
      ·rw [e5]
       clear e5
       have nq5 : (x.i != y.i) = false:=by simp only [bne,q5];rfl
       have nr5 : (x.j != y.j) = true:=by simp only [bne,r5];rfl
       have x0:=H0.c 1 0 rfl rfl;have x1:=H0.c 1 1 rfl rfl;have x2:=H0.c 1 2 rfl rfl;have x21:=H0.c 1 21 rfl rfl;have x22:=H0.c 1 22 rfl rfl;have x3:=H0.c 1 3 rfl rfl;have x4:=H0.c 1 4 rfl rfl;have x5:=H0.c 1 5 rfl rfl;have x6:=H0.c 1 6 rfl rfl;have y0:=H0.c 0 0 rfl rfl;have y1:=H0.c 0 1 rfl rfl;have y2:=H0.c 0 2 rfl rfl;have y21:=H0.c 0 21 rfl rfl;have y22:=H0.c 0 22 rfl rfl;have y3:=H0.c 0 3 rfl rfl;have y4:=H0.c 0 4 rfl rfl;have y5:=H0.c 0 5 rfl rfl;have y6:=H0.c 0 6 rfl rfl
       (clear cS cT cE)
       go_enter Tryz.func7,Tryz.ntmps7
       go_wp2
       go_ret
       exact ⟨by first | rfl | simp [*],H0.out.bel⟩
     ·rw [e4]
      clear e4
      have nq4 : (((x.vr : Nat) : Int) != ((y.vr : Nat) : Int)) = true:=by simp only [bne,q4];rfl
      have x0:=H0.c 1 0 rfl rfl;have x1:=H0.c 1 1 rfl rfl;have x2:=H0.c 1 2 rfl rfl;have x3:=H0.c 1 3 rfl rfl;have x4:=H0.c 1 4 rfl rfl;have x5:=H0.c 1 5 rfl rfl;have x6:=H0.c 1 6 rfl rfl;have y0:=H0.c 0 0 rfl rfl;have y1:=H0.c 0 1 rfl rfl;have y2:=H0.c 0 2 rfl rfl;have y3:=H0.c 0 3 rfl rfl;have y4:=H0.c 0 4 rfl rfl;have y5:=H0.c 0 5 rfl rfl;have y6:=H0.c 0 6 rfl rfl
      (clear cS cT cE)
      go_enter Tryz.func7,Tryz.ntmps7
      go_wp2
      go_ret
      exact ⟨by first | rfl | simp [*],H0.out.bel⟩
     ·rw [e4]
      clear e4
      have nq4 : (((x.vr : Nat) : Int) != ((y.vr : Nat) : Int)) = false:=by simp only [bne,q4];rfl
      have nr4 : (x.vn != y.vn) = true:=by simp only [bne,r4];rfl
      have x0:=H0.c 1 0 rfl rfl;have x1:=H0.c 1 1 rfl rfl;have x2:=H0.c 1 2 rfl rfl;have x3:=H0.c 1 3 rfl rfl;have x4:=H0.c 1 4 rfl rfl;have x5:=H0.c 1 5 rfl rfl;have x6:=H0.c 1 6 rfl rfl;have y0:=H0.c 0 0 rfl rfl;have y1:=H0.c 0 1 rfl rfl;have y2:=H0.c 0 2 rfl rfl;have y3:=H0.c 0 3 rfl rfl;have y4:=H0.c 0 4 rfl rfl;have y5:=H0.c 0 5 rfl rfl;have y6:=H0.c 0 6 rfl rfl
      (clear cS cT cE)
      go_enter Tryz.func7,Tryz.ntmps7
      go_wp2
      go_ret
      exact ⟨by first | rfl | simp [*],H0.out.bel⟩
  ·rw [e1]
   clear e1
   have nq1 : (((x.br : Nat) : Int) != ((y.br : Nat) : Int)) = true:=by simp only [bne,q1];rfl
   have x0:=H0.c 1 0 rfl rfl;have x1:=H0.c 1 1 rfl rfl;have x2:=H0.c 1 2 rfl rfl;have y0:=H0.c 0 0 rfl rfl;have y1:=H0.c 0 1 rfl rfl;have y2:=H0.c 0 2 rfl rfl
   (clear cS cT cE)
   go_enter Tryz.func7,Tryz.ntmps7
   go_wp2
   go_ret
   exact ⟨by first | rfl | simp [*],H0.out.bel⟩
  ·rw [e1]
   clear e1
   have nq1 : (((x.br : Nat) : Int) != ((y.br : Nat) : Int)) = false:=by simp only [bne,q1];rfl
   have nr1 : (x.bn != y.bn) = true:=by simp only [bne,r1];rfl
   have x0:=H0.c 1 0 rfl rfl;have x1:=H0.c 1 1 rfl rfl;have x2:=H0.c 1 2 rfl rfl;have y0:=H0.c 0 0 rfl rfl;have y1:=H0.c 0 1 rfl rfl;have y2:=H0.c 0 2 rfl rfl
   (clear cS cT cE)
   go_enter Tryz.func7,Tryz.ntmps7
   go_wp2
   go_ret
   exact ⟨by first | rfl | simp [*],H0.out.bel⟩
theorem sameGD_iff (x y : MgM) (L L' : MgL) : sameGD x y L L' = eqB (mgT x L) (mgT y L'):=by
 by_cases e : mgT x L = mgT y L'
 ·obtain ⟨h1,h2,h3,h4⟩:=mgT_inj e
  unfold pxT at h2;unfold dlT at h3;unfold anT at h4
  simp only [Prod.mk.injEq] at h2 h3 h4
  obtain ⟨⟨a1,a2⟩,a3,a4,⟨a5,a6⟩,a7,a8⟩:=h2
  obtain ⟨b1,⟨b2,b3⟩,b4,b5,b6⟩:=h3
  obtain ⟨d1,d2,d3,⟨d4,d5,d6⟩,d7⟩:=h4
  rw [eqB_yes e]
  unfold sameGD
  rw [sameC_eqB,sameM_eqB,eqB_yes a7,eqB_yes b1,eqB_yes a8,h1,a1,a2,a3,a4,a5,a6,b2,b3,b4,b5,b6,d1,d2,d3,d4,d5,d6,d7]
  simp only [eqB_self,beq_self_eq_true,Bool.and_self]
 ·rw [eqB_no e]
  cases q : sameGD x y L L'
  ·rfl
  ·exfalso;apply e
   unfold sameGD at q
   rw [sameC_eqB,sameM_eqB] at q
   simp only [Bool.and_eq_true,beq_iff_eq] at q
   obtain ⟨h1,a1,a3,a4,a5,b2,b4,b5,b6,d1,d2,d3,d4,d7,a7,b1,a8⟩:=q
   have d2':=eqB_of d2
   exact mgT_of h1 (by unfold pxT;rw [eqB_of a1,a3,a4,eqB_of a5,eqB_of a7,eqB_of a8]) (by unfold dlT;rw [eqB_of b1,eqB_of b2,b4,b6,show x.st = y.st by omega]) (by
    have h4:=eqB_of d4
    simp only [Prod.mk.injEq] at h4
    unfold anT;rw [d1,d2',d7,h4.1,h4.2.2,show x.vb = y.vb by omega,show x.ver = y.ver by omega])
theorem rgSame_any (x y : MgM) (L L' : MgL) (w : World) (h : MgAt w x L) (h' : MgAt w y L') (hx : MgF x) (hy : MgF y) :
  Calls Tryz.prog 7 #[.agg (mgV x),.agg (mgV y)] w (Says w (eqB (mgT x L) (mgT y L'))):=by
 rw [← sameGD_iff];exact rgSame_gen x y L L' w h h' hx hy
end Go.Proofs.YtigimmbdlhginaaGreatDoor
