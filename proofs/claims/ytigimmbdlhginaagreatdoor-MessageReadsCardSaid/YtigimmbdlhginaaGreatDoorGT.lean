/- Contracts of message.Same and its parts, and of bytes.Equal. Conditions: the messages' lists lie in memory, and are no longer than a million. Contract of message.Same. Contract of message.drop. Condition: the message lies in a box. Contracts of message.formedVote and formedField. Conditions: the message's lists lie in memory, and are no longer than a million; the tables of utf8 lie there. -/
import Derived.Test.YtigimmbdlhginaaGreatDoorGX
import Derived.Test.YtigimmbdlhginaaGreatDoorGI
import Derived.Test.YtigimmbdlhginaaGreatDoorGA
import Derived.Test.YtigimmbdlhginaaGreatDoorHA
import Derived.Test.YtigimmbdlhginaaGreatDoorGZ
namespace Go.Proofs.YtigimmbdlhginaaGreatDoor
set_option maxRecDepth 100000
set_option maxHeartbeats 4000000
open Go.RowKit
open Go.Lib (hid)
set_option linter.unusedVariables false
theorem str_cases (u v : ByteArray) : (eqB u v = true∧(u.toList == v.toList) = true)∨(eqB u v = false∧(u.toList == v.toList) = false):=by
 rw [bytes_beq]
 cases eqB u v
 ·exact .inr ⟨rfl,rfl⟩
 ·exact .inl ⟨rfl,rfl⟩
theorem val_cases (k k' : Int) (b b' : Nat) (t t' : ByteArray) : (eqB (k,((b : Nat) : Int),t) (k',((b' : Nat) : Int),t') = true∧(k == k') = true∧(((b : Nat) : Int) == ((b' : Nat) : Int)) = true∧(t.toList == t'.toList) = true)∨(eqB (k,((b : Nat) : Int),t) (k',((b' : Nat) : Int),t') = false∧(k == k') = false)∨(eqB (k,((b : Nat) : Int),t) (k',((b' : Nat) : Int),t') = false∧(k == k') = true∧(((b : Nat) : Int) == ((b' : Nat) : Int)) = false)∨(eqB (k,((b : Nat) : Int),t) (k',((b' : Nat) : Int),t') = false∧(k == k') = true∧(((b : Nat) : Int) == ((b' : Nat) : Int)) = true∧(t.toList == t'.toList) = false):=by
 by_cases h1 : k = k'
 ·by_cases h2 : b = b'
  ·by_cases h3 : t = t'
   ·exact .inl ⟨eqB_yes (by rw [h1,h2,h3]),by simpa using h1,beq_iff_eq.2 (by omega),by rw [bytes_beq,eqB_yes h3]⟩
   ·exact .inr (.inr (.inr ⟨eqB_no (fun e=>h3 (by injection e with e1 e2;injection e2)),by simpa using h1,beq_iff_eq.2 (by omega),by rw [bytes_beq,eqB_no h3]⟩))
  ·exact .inr (.inr (.inl ⟨eqB_no (fun e=>h2 (by injection e with e1 e2;injection e2 with e2 e3;omega)),by simpa using h1,by simp only [beq_eq_false_iff_ne,ne_eq];omega⟩))
 ·exact .inr (.inl ⟨eqB_no (fun e=>h1 (by injection e)),by simpa using h1⟩)
theorem bequal_any (a a' : Option Addr) (n n' c c' B B' : Nat) (l l' : List UInt8) (w : World) (h : BAt w B a n l) (h' : BAt w B' a' n' l') :
  Calls Tryz.prog 95 #[.slice a n c,.slice a' n' c'] w fun e w'=>e = .returned (.bool (eqB l l'))∧w = w':=by
 have c1:=run_convert_bytes (P:=Tryz.prog) w 22 5 9 Tryz.underlying22 Tryz.underlying5 Tryz.underlying9 B a n l c h
 have c2:=run_convert_bytes (P:=Tryz.prog) w 22 5 9 Tryz.underlying22 Tryz.underlying5 Tryz.underlying9 B' a' n' l' c' h'
 have e : eqB (⟨l.toArray⟩ : ByteArray) ⟨l'.toArray⟩ = eqB l l':=by
  by_cases hl : l = l'
  ·rw [eqB_yes hl,hl,eqB_self]
  ·rw [eqB_no hl,eqB_no (fun e=>hl (by have h:=congrArg (fun z : ByteArray=>z.data.toList) e;simpa using h))]
 rw [← e]
 clear e h h'
 generalize (⟨l.toArray⟩ : ByteArray) = s at *
 generalize (⟨l'.toArray⟩ : ByteArray) = s' at *
 rcases str_cases s s' with ⟨e,q⟩ | ⟨e,q⟩
 ·rw [e]
  clear e
  go_enter Tryz.func95,Tryz.ntmps95
  go_wp2
  go_ret
  exact ⟨by first | rfl | simp [*],rfl⟩
 ·rw [e]
  clear e
  go_enter Tryz.func95,Tryz.ntmps95
  go_wp2
  go_ret
  exact ⟨by first | rfl | simp [*],rfl⟩
/-- Whether what replicas tell each other is alike; what is told of a transaction; what is asked for by a number. -/
noncomputable def pxB (x y : MgM) (L L' : MgL) : Bool:=eqB (((x.br : Nat) : Int),x.bn) (((y.br : Nat) : Int),y.bn) && ((x.sl == y.sl) && ((x.has == y.has) && (eqB (((x.vr : Nat) : Int),x.vn) (((y.vr : Nat) : Int),y.vn) && (sameC x.cm y.cm L.rs L'.rs L.ws L'.ws && (eqB L.dl L'.dl)))))
noncomputable def dlB (x y : MgM) (L L' : MgL) : Bool:=sameM (x.s,x.q) (y.s,y.q) L.rt L'.rt L.wt L'.wt && (eqB (x.i,x.j) (y.i,y.j) && ((x.g == y.g) && ((((x.st : Nat) : Int) == ((y.st : Nat) : Int)) && ((x.y == y.y)))))
noncomputable def anB (x y : MgM) : Bool:=(x.nu == y.nu) && (eqB x.key y.key && ((((x.ver : Nat) : Int) == ((y.ver : Nat) : Int)) && (eqB (x.vk,((x.vb : Nat) : Int),x.vt) (y.vk,((y.vb : Nat) : Int),y.vt) && ((x.er == y.er)))))
theorem sPaxos_any (x y : MgM) (L L' : MgL) (w : World) (h : MgAt w x L) (h' : MgAt w y L') (hx : MgF x) (hy : MgF y) :
  Calls Tryz.prog 63 #[.agg (mgV x),.agg (mgV y)] w (Says w (pxB x y L L')):=by
 have H0:=hid (((Boxs.start w).more (mgV x) 40).more (mgV y) 40)
 have hs : (w.alloc (.cells (mgV x) 40)).heap.size = w.heap.size + 1:=by simp
 rw [hs] at H0
 clear hs
 have cS : ∀ W,Below w.heap.size w W→Calls Tryz.prog 83 #[.agg (cmV x.cm),.agg (cmV y.cm)] W (Says W (sameC x.cm y.cm L.rs L'.rs L.ws L'.ws)):=fun W hW=>kSame_any x.cm y.cm L.rs L'.rs L.ws L'.ws W (h.cm.later hW) (h'.cm.later hW) hx.n hx.m
 have cE : ∀ W,Below w.heap.size w W→Calls Tryz.prog 95 #[.slice x.da x.dn x.dc,.slice y.da y.dn y.dc] W (Says W (eqB L.dl L'.dl)):=fun W hW=>(bequal_any x.da y.da x.dn y.dn x.dc y.dc w.heap.size w.heap.size L.dl L'.dl W (h.da.below hW (Nat.le_refl _)) (h'.da.below hW (Nat.le_refl _))).mono fun _ _ h=>⟨h.1,h.2 ▸ Below.refl _ _⟩
 clear h h' hx hy
 unfold pxB
 rcases id_cases ((x.br : Nat) : Int) x.bn ((y.br : Nat) : Int) y.bn with ⟨e0,q0,r0⟩ | ⟨e0,q0⟩ | ⟨e0,q0,r0⟩
 ·rw [e0]
  clear e0
  cases q1 : (x.sl == y.sl)
  ·have x1:=H0.c 1 1 rfl rfl;have x2:=H0.c 1 2 rfl rfl;have x3:=H0.c 1 3 rfl rfl;have y1:=H0.c 0 1 rfl rfl;have y2:=H0.c 0 2 rfl rfl;have y3:=H0.c 0 3 rfl rfl
   (clear cS cE)
   go_enter Tryz.func63,Tryz.ntmps63
   go_wp2
   go_ret
   exact ⟨by first | rfl | simp [*],H0.out.bel⟩
  ·cases q2 : (x.has == y.has)
   ·have x1:=H0.c 1 1 rfl rfl;have x2:=H0.c 1 2 rfl rfl;have x3:=H0.c 1 3 rfl rfl;have x4:=H0.c 1 4 rfl rfl;have y1:=H0.c 0 1 rfl rfl;have y2:=H0.c 0 2 rfl rfl;have y3:=H0.c 0 3 rfl rfl;have y4:=H0.c 0 4 rfl rfl
    (clear cS cE)
    go_enter Tryz.func63,Tryz.ntmps63
    go_wp2
    go_ret
    exact ⟨by first | rfl | simp [*],H0.out.bel⟩
   ·rcases id_cases ((x.vr : Nat) : Int) x.vn ((y.vr : Nat) : Int) y.vn with ⟨e3,q3,r3⟩ | ⟨e3,q3⟩ | ⟨e3,q3,r3⟩
    ·rw [e3]
     clear e3
     cases q4 : sameC x.cm y.cm L.rs L'.rs L.ws L'.ws
     ·rw [q4] at cS
      have x1:=H0.c 1 1 rfl rfl;have x10:=H0.c 1 10 rfl rfl;have x11:=H0.c 1 11 rfl rfl;have x12:=H0.c 1 12 rfl rfl;have x13:=H0.c 1 13 rfl rfl;have x14:=H0.c 1 14 rfl rfl;have x15:=H0.c 1 15 rfl rfl;have x16:=H0.c 1 16 rfl rfl;have x2:=H0.c 1 2 rfl rfl;have x3:=H0.c 1 3 rfl rfl;have x4:=H0.c 1 4 rfl rfl;have x5:=H0.c 1 5 rfl rfl;have x6:=H0.c 1 6 rfl rfl;have x7:=H0.c 1 7 rfl rfl;have x8:=H0.c 1 8 rfl rfl;have x9:=H0.c 1 9 rfl rfl;have y1:=H0.c 0 1 rfl rfl;have y10:=H0.c 0 10 rfl rfl;have y11:=H0.c 0 11 rfl rfl;have y12:=H0.c 0 12 rfl rfl;have y13:=H0.c 0 13 rfl rfl;have y14:=H0.c 0 14 rfl rfl;have y15:=H0.c 0 15 rfl rfl;have y16:=H0.c 0 16 rfl rfl;have y2:=H0.c 0 2 rfl rfl;have y3:=H0.c 0 3 rfl rfl;have y4:=H0.c 0 4 rfl rfl;have y5:=H0.c 0 5 rfl rfl;have y6:=H0.c 0 6 rfl rfl;have y7:=H0.c 0 7 rfl rfl;have y8:=H0.c 0 8 rfl rfl;have y9:=H0.c 0 9 rfl rfl
      (clear cE)
      go_enter Tryz.func63,Tryz.ntmps63
      go_wp2_with (go_at_call 83;((with_reducible refine (cS _ H0.out.bel).mono ?_);rintro e w1 ⟨rfl,hb1⟩;have H1:=hid (H0.out.below hb1)))
      go_ret
      exact ⟨by first | rfl | simp [*],H1.out.bel⟩
     ·rw [q4] at cS
      cases q5 : eqB L.dl L'.dl
      ·rw [q5] at cE
       have x1:=H0.c 1 1 rfl rfl;have x10:=H0.c 1 10 rfl rfl;have x11:=H0.c 1 11 rfl rfl;have x12:=H0.c 1 12 rfl rfl;have x13:=H0.c 1 13 rfl rfl;have x14:=H0.c 1 14 rfl rfl;have x15:=H0.c 1 15 rfl rfl;have x16:=H0.c 1 16 rfl rfl;have x2:=H0.c 1 2 rfl rfl;have x3:=H0.c 1 3 rfl rfl;have x33:=H0.c 1 33 rfl rfl;have x4:=H0.c 1 4 rfl rfl;have x5:=H0.c 1 5 rfl rfl;have x6:=H0.c 1 6 rfl rfl;have x7:=H0.c 1 7 rfl rfl;have x8:=H0.c 1 8 rfl rfl;have x9:=H0.c 1 9 rfl rfl;have y1:=H0.c 0 1 rfl rfl;have y10:=H0.c 0 10 rfl rfl;have y11:=H0.c 0 11 rfl rfl;have y12:=H0.c 0 12 rfl rfl;have y13:=H0.c 0 13 rfl rfl;have y14:=H0.c 0 14 rfl rfl;have y15:=H0.c 0 15 rfl rfl;have y16:=H0.c 0 16 rfl rfl;have y2:=H0.c 0 2 rfl rfl;have y3:=H0.c 0 3 rfl rfl;have y33:=H0.c 0 33 rfl rfl;have y4:=H0.c 0 4 rfl rfl;have y5:=H0.c 0 5 rfl rfl;have y6:=H0.c 0 6 rfl rfl;have y7:=H0.c 0 7 rfl rfl;have y8:=H0.c 0 8 rfl rfl;have y9:=H0.c 0 9 rfl rfl
       go_enter Tryz.func63,Tryz.ntmps63
       go_wp2_with (first | (go_at_call 83;((with_reducible refine (cS _ H0.out.bel).mono ?_);rintro e w1 ⟨rfl,hb1⟩;have H1:=hid (H0.out.below hb1);(clear x1 x10 x11 x12 x13 x14 x15 x16 x2 x3 x33 x4 x5 x6 x7 x8 x9 y1 y10 y11 y12 y13 y14 y15 y16 y2 y3 y33 y4 y5 y6 y7 y8 y9);have x33:=H1.c 1 33 rfl rfl;have y33:=H1.c 0 33 rfl rfl)) | (go_at_call 95;((with_reducible refine (cE _ H1.out.bel).mono ?_);rintro e w2 ⟨rfl,hb2⟩;have H2:=hid (H1.out.below hb2))))
       go_ret
       exact ⟨by first | rfl | simp [*],H2.out.bel⟩
      ·rw [q5] at cE
       have x1:=H0.c 1 1 rfl rfl;have x10:=H0.c 1 10 rfl rfl;have x11:=H0.c 1 11 rfl rfl;have x12:=H0.c 1 12 rfl rfl;have x13:=H0.c 1 13 rfl rfl;have x14:=H0.c 1 14 rfl rfl;have x15:=H0.c 1 15 rfl rfl;have x16:=H0.c 1 16 rfl rfl;have x2:=H0.c 1 2 rfl rfl;have x3:=H0.c 1 3 rfl rfl;have x33:=H0.c 1 33 rfl rfl;have x4:=H0.c 1 4 rfl rfl;have x5:=H0.c 1 5 rfl rfl;have x6:=H0.c 1 6 rfl rfl;have x7:=H0.c 1 7 rfl rfl;have x8:=H0.c 1 8 rfl rfl;have x9:=H0.c 1 9 rfl rfl;have y1:=H0.c 0 1 rfl rfl;have y10:=H0.c 0 10 rfl rfl;have y11:=H0.c 0 11 rfl rfl;have y12:=H0.c 0 12 rfl rfl;have y13:=H0.c 0 13 rfl rfl;have y14:=H0.c 0 14 rfl rfl;have y15:=H0.c 0 15 rfl rfl;have y16:=H0.c 0 16 rfl rfl;have y2:=H0.c 0 2 rfl rfl;have y3:=H0.c 0 3 rfl rfl;have y33:=H0.c 0 33 rfl rfl;have y4:=H0.c 0 4 rfl rfl;have y5:=H0.c 0 5 rfl rfl;have y6:=H0.c 0 6 rfl rfl;have y7:=H0.c 0 7 rfl rfl;have y8:=H0.c 0 8 rfl rfl;have y9:=H0.c 0 9 rfl rfl
       go_enter Tryz.func63,Tryz.ntmps63
       go_wp2_with (first | (go_at_call 83;((with_reducible refine (cS _ H0.out.bel).mono ?_);rintro e w1 ⟨rfl,hb1⟩;have H1:=hid (H0.out.below hb1);(clear x1 x10 x11 x12 x13 x14 x15 x16 x2 x3 x33 x4 x5 x6 x7 x8 x9 y1 y10 y11 y12 y13 y14 y15 y16 y2 y3 y33 y4 y5 y6 y7 y8 y9);have x33:=H1.c 1 33 rfl rfl;have y33:=H1.c 0 33 rfl rfl)) | (go_at_call 95;((with_reducible refine (cE _ H1.out.bel).mono ?_);rintro e w2 ⟨rfl,hb2⟩;have H2:=hid (H1.out.below hb2))))
       go_ret
       exact ⟨by first | rfl | simp [*],H2.out.bel⟩
    ·rw [e3]
     clear e3
     have x1:=H0.c 1 1 rfl rfl;have x2:=H0.c 1 2 rfl rfl;have x3:=H0.c 1 3 rfl rfl;have x4:=H0.c 1 4 rfl rfl;have x5:=H0.c 1 5 rfl rfl;have x6:=H0.c 1 6 rfl rfl;have y1:=H0.c 0 1 rfl rfl;have y2:=H0.c 0 2 rfl rfl;have y3:=H0.c 0 3 rfl rfl;have y4:=H0.c 0 4 rfl rfl;have y5:=H0.c 0 5 rfl rfl;have y6:=H0.c 0 6 rfl rfl
     (clear cS cE)
     go_enter Tryz.func63,Tryz.ntmps63
     go_wp2
     go_ret
     exact ⟨by first | rfl | simp [*],H0.out.bel⟩
    ·rw [e3]
     clear e3
     have x1:=H0.c 1 1 rfl rfl;have x2:=H0.c 1 2 rfl rfl;have x3:=H0.c 1 3 rfl rfl;have x4:=H0.c 1 4 rfl rfl;have x5:=H0.c 1 5 rfl rfl;have x6:=H0.c 1 6 rfl rfl;have y1:=H0.c 0 1 rfl rfl;have y2:=H0.c 0 2 rfl rfl;have y3:=H0.c 0 3 rfl rfl;have y4:=H0.c 0 4 rfl rfl;have y5:=H0.c 0 5 rfl rfl;have y6:=H0.c 0 6 rfl rfl
     (clear cS cE)
     go_enter Tryz.func63,Tryz.ntmps63
     go_wp2
     go_ret
     exact ⟨by first | rfl | simp [*],H0.out.bel⟩
 ·rw [e0]
  clear e0
  have x1:=H0.c 1 1 rfl rfl;have x2:=H0.c 1 2 rfl rfl;have y1:=H0.c 0 1 rfl rfl;have y2:=H0.c 0 2 rfl rfl
  (clear cS cE)
  go_enter Tryz.func63,Tryz.ntmps63
  go_wp2
  go_ret
  exact ⟨by first | rfl | simp [*],H0.out.bel⟩
 ·rw [e0]
  clear e0
  have x1:=H0.c 1 1 rfl rfl;have x2:=H0.c 1 2 rfl rfl;have y1:=H0.c 0 1 rfl rfl;have y2:=H0.c 0 2 rfl rfl
  (clear cS cE)
  go_enter Tryz.func63,Tryz.ntmps63
  go_wp2
  go_ret
  exact ⟨by first | rfl | simp [*],H0.out.bel⟩
theorem sDeal_any (x y : MgM) (L L' : MgL) (w : World) (h : MgAt w x L) (h' : MgAt w y L') (hx : MgF x) (hy : MgF y) :
  Calls Tryz.prog 64 #[.agg (mgV x),.agg (mgV y)] w (Says w (dlB x y L L')):=by
 have H0:=hid (((Boxs.start w).more (mgV x) 40).more (mgV y) 40)
 have hs : (w.alloc (.cells (mgV x) 40)).heap.size = w.heap.size + 1:=by simp
 rw [hs] at H0
 clear hs
 have cT : ∀ W,Below w.heap.size w W→Calls Tryz.prog 96 #[.agg (txV x.s x.q x.a x.n x.c x.b x.m x.d),.agg (txV y.s y.q y.a y.n y.c y.b y.m y.d)] W (Says W (sameM (x.s,x.q) (y.s,y.q) L.rt L'.rt L.wt L'.wt)):=fun W hW=>tSame_any x.s x.q x.a x.n x.c x.b x.m x.d L.rt L.wt y.s y.q y.a y.n y.c y.b y.m y.d L'.rt L'.wt W (h.tx.later hW) (h'.tx.later hW) hx.tn hx.tm
 clear h h' hx hy
 unfold dlB
 cases q0 : sameM (x.s,x.q) (y.s,y.q) L.rt L'.rt L.wt L'.wt
 ·rw [q0] at cT
  have x17:=H0.c 1 17 rfl rfl;have x18:=H0.c 1 18 rfl rfl;have x19:=H0.c 1 19 rfl rfl;have x20:=H0.c 1 20 rfl rfl;have y17:=H0.c 0 17 rfl rfl;have y18:=H0.c 0 18 rfl rfl;have y19:=H0.c 0 19 rfl rfl;have y20:=H0.c 0 20 rfl rfl
  go_enter Tryz.func64,Tryz.ntmps64
  go_wp2_with (go_at_call 96;((with_reducible refine (cT _ H0.out.bel).mono ?_);rintro e w1 ⟨rfl,hb1⟩;have H1:=hid (H0.out.below hb1)))
  go_ret
  exact ⟨by first | rfl | simp [*],H1.out.bel⟩
 ·rw [q0] at cT
  rcases id_cases x.i x.j y.i y.j with ⟨e1,q1,r1⟩ | ⟨e1,q1⟩ | ⟨e1,q1,r1⟩
  ·rw [e1]
   clear e1
   cases q2 : (x.g == y.g)
   ·have x17:=H0.c 1 17 rfl rfl;have x18:=H0.c 1 18 rfl rfl;have x19:=H0.c 1 19 rfl rfl;have x20:=H0.c 1 20 rfl rfl;have x21:=H0.c 1 21 rfl rfl;have x22:=H0.c 1 22 rfl rfl;have x23:=H0.c 1 23 rfl rfl;have y17:=H0.c 0 17 rfl rfl;have y18:=H0.c 0 18 rfl rfl;have y19:=H0.c 0 19 rfl rfl;have y20:=H0.c 0 20 rfl rfl;have y21:=H0.c 0 21 rfl rfl;have y22:=H0.c 0 22 rfl rfl;have y23:=H0.c 0 23 rfl rfl
    go_enter Tryz.func64,Tryz.ntmps64
    go_wp2_with (go_at_call 96;((with_reducible refine (cT _ H0.out.bel).mono ?_);rintro e w1 ⟨rfl,hb1⟩;have H1:=hid (H0.out.below hb1);(clear x17 x18 x19 x20 x21 x22 x23 y17 y18 y19 y20 y21 y22 y23);have x21:=H1.c 1 21 rfl rfl;have x22:=H1.c 1 22 rfl rfl;have x23:=H1.c 1 23 rfl rfl;have y21:=H1.c 0 21 rfl rfl;have y22:=H1.c 0 22 rfl rfl;have y23:=H1.c 0 23 rfl rfl))
    go_ret
    exact ⟨by first | rfl | simp [*],H1.out.bel⟩
   ·cases q3 : (((x.st : Nat) : Int) == ((y.st : Nat) : Int))
    ·have x17:=H0.c 1 17 rfl rfl;have x18:=H0.c 1 18 rfl rfl;have x19:=H0.c 1 19 rfl rfl;have x20:=H0.c 1 20 rfl rfl;have x21:=H0.c 1 21 rfl rfl;have x22:=H0.c 1 22 rfl rfl;have x23:=H0.c 1 23 rfl rfl;have x24:=H0.c 1 24 rfl rfl;have y17:=H0.c 0 17 rfl rfl;have y18:=H0.c 0 18 rfl rfl;have y19:=H0.c 0 19 rfl rfl;have y20:=H0.c 0 20 rfl rfl;have y21:=H0.c 0 21 rfl rfl;have y22:=H0.c 0 22 rfl rfl;have y23:=H0.c 0 23 rfl rfl;have y24:=H0.c 0 24 rfl rfl
     go_enter Tryz.func64,Tryz.ntmps64
     go_wp2_with (go_at_call 96;((with_reducible refine (cT _ H0.out.bel).mono ?_);rintro e w1 ⟨rfl,hb1⟩;have H1:=hid (H0.out.below hb1);(clear x17 x18 x19 x20 x21 x22 x23 x24 y17 y18 y19 y20 y21 y22 y23 y24);have x21:=H1.c 1 21 rfl rfl;have x22:=H1.c 1 22 rfl rfl;have x23:=H1.c 1 23 rfl rfl;have x24:=H1.c 1 24 rfl rfl;have y21:=H1.c 0 21 rfl rfl;have y22:=H1.c 0 22 rfl rfl;have y23:=H1.c 0 23 rfl rfl;have y24:=H1.c 0 24 rfl rfl))
     go_ret
     exact ⟨by first | rfl | simp [*],H1.out.bel⟩
    ·cases q4 : (x.y == y.y)
     ·have x17:=H0.c 1 17 rfl rfl;have x18:=H0.c 1 18 rfl rfl;have x19:=H0.c 1 19 rfl rfl;have x20:=H0.c 1 20 rfl rfl;have x21:=H0.c 1 21 rfl rfl;have x22:=H0.c 1 22 rfl rfl;have x23:=H0.c 1 23 rfl rfl;have x24:=H0.c 1 24 rfl rfl;have x25:=H0.c 1 25 rfl rfl;have y17:=H0.c 0 17 rfl rfl;have y18:=H0.c 0 18 rfl rfl;have y19:=H0.c 0 19 rfl rfl;have y20:=H0.c 0 20 rfl rfl;have y21:=H0.c 0 21 rfl rfl;have y22:=H0.c 0 22 rfl rfl;have y23:=H0.c 0 23 rfl rfl;have y24:=H0.c 0 24 rfl rfl;have y25:=H0.c 0 25 rfl rfl
      go_enter Tryz.func64,Tryz.ntmps64
      go_wp2_with (go_at_call 96;((with_reducible refine (cT _ H0.out.bel).mono ?_);rintro e w1 ⟨rfl,hb1⟩;have H1:=hid (H0.out.below hb1);(clear x17 x18 x19 x20 x21 x22 x23 x24 x25 y17 y18 y19 y20 y21 y22 y23 y24 y25);have x21:=H1.c 1 21 rfl rfl;have x22:=H1.c 1 22 rfl rfl;have x23:=H1.c 1 23 rfl rfl;have x24:=H1.c 1 24 rfl rfl;have x25:=H1.c 1 25 rfl rfl;have y21:=H1.c 0 21 rfl rfl;have y22:=H1.c 0 22 rfl rfl;have y23:=H1.c 0 23 rfl rfl;have y24:=H1.c 0 24 rfl rfl;have y25:=H1.c 0 25 rfl rfl))
      go_ret
      exact ⟨by first | rfl | simp [*],H1.out.bel⟩
     ·have x17:=H0.c 1 17 rfl rfl;have x18:=H0.c 1 18 rfl rfl;have x19:=H0.c 1 19 rfl rfl;have x20:=H0.c 1 20 rfl rfl;have x21:=H0.c 1 21 rfl rfl;have x22:=H0.c 1 22 rfl rfl;have x23:=H0.c 1 23 rfl rfl;have x24:=H0.c 1 24 rfl rfl;have x25:=H0.c 1 25 rfl rfl;have y17:=H0.c 0 17 rfl rfl;have y18:=H0.c 0 18 rfl rfl;have y19:=H0.c 0 19 rfl rfl;have y20:=H0.c 0 20 rfl rfl;have y21:=H0.c 0 21 rfl rfl;have y22:=H0.c 0 22 rfl rfl;have y23:=H0.c 0 23 rfl rfl;have y24:=H0.c 0 24 rfl rfl;have y25:=H0.c 0 25 rfl rfl
      go_enter Tryz.func64,Tryz.ntmps64
      go_wp2_with (go_at_call 96;((with_reducible refine (cT _ H0.out.bel).mono ?_);rintro e w1 ⟨rfl,hb1⟩;have H1:=hid (H0.out.below hb1);(clear x17 x18 x19 x20 x21 x22 x23 x24 x25 y17 y18 y19 y20 y21 y22 y23 y24 y25);have x21:=H1.c 1 21 rfl rfl;have x22:=H1.c 1 22 rfl rfl;have x23:=H1.c 1 23 rfl rfl;have x24:=H1.c 1 24 rfl rfl;have x25:=H1.c 1 25 rfl rfl;have y21:=H1.c 0 21 rfl rfl;have y22:=H1.c 0 22 rfl rfl;have y23:=H1.c 0 23 rfl rfl;have y24:=H1.c 0 24 rfl rfl;have y25:=H1.c 0 25 rfl rfl))
      go_ret
      exact ⟨by first | rfl | simp [*],H1.out.bel⟩
  ·rw [e1]
   clear e1
   have x17:=H0.c 1 17 rfl rfl;have x18:=H0.c 1 18 rfl rfl;have x19:=H0.c 1 19 rfl rfl;have x20:=H0.c 1 20 rfl rfl;have x21:=H0.c 1 21 rfl rfl;have x22:=H0.c 1 22 rfl rfl;have y17:=H0.c 0 17 rfl rfl;have y18:=H0.c 0 18 rfl rfl;have y19:=H0.c 0 19 rfl rfl;have y20:=H0.c 0 20 rfl rfl;have y21:=H0.c 0 21 rfl rfl;have y22:=H0.c 0 22 rfl rfl
   go_enter Tryz.func64,Tryz.ntmps64
   go_wp2_with (go_at_call 96;((with_reducible refine (cT _ H0.out.bel).mono ?_);rintro e w1 ⟨rfl,hb1⟩;have H1:=hid (H0.out.below hb1);(clear x17 x18 x19 x20 x21 x22 y17 y18 y19 y20 y21 y22);have x21:=H1.c 1 21 rfl rfl;have x22:=H1.c 1 22 rfl rfl;have y21:=H1.c 0 21 rfl rfl;have y22:=H1.c 0 22 rfl rfl))
   go_ret
   exact ⟨by first | rfl | simp [*],H1.out.bel⟩
  ·rw [e1]
   clear e1
   have x17:=H0.c 1 17 rfl rfl;have x18:=H0.c 1 18 rfl rfl;have x19:=H0.c 1 19 rfl rfl;have x20:=H0.c 1 20 rfl rfl;have x21:=H0.c 1 21 rfl rfl;have x22:=H0.c 1 22 rfl rfl;have y17:=H0.c 0 17 rfl rfl;have y18:=H0.c 0 18 rfl rfl;have y19:=H0.c 0 19 rfl rfl;have y20:=H0.c 0 20 rfl rfl;have y21:=H0.c 0 21 rfl rfl;have y22:=H0.c 0 22 rfl rfl
   go_enter Tryz.func64,Tryz.ntmps64
   go_wp2_with (go_at_call 96;((with_reducible refine (cT _ H0.out.bel).mono ?_);rintro e w1 ⟨rfl,hb1⟩;have H1:=hid (H0.out.below hb1);(clear x17 x18 x19 x20 x21 x22 y17 y18 y19 y20 y21 y22);have x21:=H1.c 1 21 rfl rfl;have x22:=H1.c 1 22 rfl rfl;have y21:=H1.c 0 21 rfl rfl;have y22:=H1.c 0 22 rfl rfl))
   go_ret
   exact ⟨by first | rfl | simp [*],H1.out.bel⟩
theorem sAnswer_any (x y : MgM) (L L' : MgL) (w : World) (h : MgAt w x L) (h' : MgAt w y L') (hx : MgF x) (hy : MgF y) :
  Calls Tryz.prog 65 #[.agg (mgV x),.agg (mgV y)] w (Says w (anB x y)):=by
 have H0:=hid (((Boxs.start w).more (mgV x) 40).more (mgV y) 40)
 have hs : (w.alloc (.cells (mgV x) 40)).heap.size = w.heap.size + 1:=by simp
 rw [hs] at H0
 clear hs
 clear h h' hx hy
 unfold anB
 cases q0 : (x.nu == y.nu)
 ·have x26:=H0.c 1 26 rfl rfl;have y26:=H0.c 0 26 rfl rfl
  go_enter Tryz.func65,Tryz.ntmps65
  go_wp2
  go_ret
  exact ⟨by first | rfl | simp [*],H0.out.bel⟩
 ·rcases str_cases x.key y.key with ⟨e1,q1⟩ | ⟨e1,q1⟩
  ·rw [e1]
   clear e1
   cases q2 : (((x.ver : Nat) : Int) == ((y.ver : Nat) : Int))
   ·have x26:=H0.c 1 26 rfl rfl;have x27:=H0.c 1 27 rfl rfl;have x28:=H0.c 1 28 rfl rfl;have y26:=H0.c 0 26 rfl rfl;have y27:=H0.c 0 27 rfl rfl;have y28:=H0.c 0 28 rfl rfl
    go_enter Tryz.func65,Tryz.ntmps65
    go_wp2
    go_ret
    exact ⟨by first | rfl | simp [*],H0.out.bel⟩
   ·rcases val_cases x.vk y.vk x.vb y.vb x.vt y.vt with ⟨e3,q3,r3,s3⟩ | ⟨e3,q3⟩ | ⟨e3,q3,r3⟩ | ⟨e3,q3,r3,s3⟩
    ·rw [e3]
     clear e3
     cases q4 : (x.er == y.er)
     ·have x26:=H0.c 1 26 rfl rfl;have x27:=H0.c 1 27 rfl rfl;have x28:=H0.c 1 28 rfl rfl;have x29:=H0.c 1 29 rfl rfl;have x30:=H0.c 1 30 rfl rfl;have x31:=H0.c 1 31 rfl rfl;have x32:=H0.c 1 32 rfl rfl;have y26:=H0.c 0 26 rfl rfl;have y27:=H0.c 0 27 rfl rfl;have y28:=H0.c 0 28 rfl rfl;have y29:=H0.c 0 29 rfl rfl;have y30:=H0.c 0 30 rfl rfl;have y31:=H0.c 0 31 rfl rfl;have y32:=H0.c 0 32 rfl rfl
      go_enter Tryz.func65,Tryz.ntmps65
      go_wp2
      go_ret
      exact ⟨by first | rfl | simp [*],H0.out.bel⟩
     ·have x26:=H0.c 1 26 rfl rfl;have x27:=H0.c 1 27 rfl rfl;have x28:=H0.c 1 28 rfl rfl;have x29:=H0.c 1 29 rfl rfl;have x30:=H0.c 1 30 rfl rfl;have x31:=H0.c 1 31 rfl rfl;have x32:=H0.c 1 32 rfl rfl;have y26:=H0.c 0 26 rfl rfl;have y27:=H0.c 0 27 rfl rfl;have y28:=H0.c 0 28 rfl rfl;have y29:=H0.c 0 29 rfl rfl;have y30:=H0.c 0 30 rfl rfl;have y31:=H0.c 0 31 rfl rfl;have y32:=H0.c 0 32 rfl rfl
      go_enter Tryz.func65,Tryz.ntmps65
      go_wp2
      go_ret
      exact ⟨by first | rfl | simp [*],H0.out.bel⟩
    ·rw [e3]
     clear e3
     have x26:=H0.c 1 26 rfl rfl;have x27:=H0.c 1 27 rfl rfl;have x28:=H0.c 1 28 rfl rfl;have x29:=H0.c 1 29 rfl rfl;have x30:=H0.c 1 30 rfl rfl;have x31:=H0.c 1 31 rfl rfl;have y26:=H0.c 0 26 rfl rfl;have y27:=H0.c 0 27 rfl rfl;have y28:=H0.c 0 28 rfl rfl;have y29:=H0.c 0 29 rfl rfl;have y30:=H0.c 0 30 rfl rfl;have y31:=H0.c 0 31 rfl rfl
     go_enter Tryz.func65,Tryz.ntmps65
     go_wp2
     go_ret
     exact ⟨by first | rfl | simp [*],H0.out.bel⟩
    ·rw [e3]
     clear e3
     have x26:=H0.c 1 26 rfl rfl;have x27:=H0.c 1 27 rfl rfl;have x28:=H0.c 1 28 rfl rfl;have x29:=H0.c 1 29 rfl rfl;have x30:=H0.c 1 30 rfl rfl;have x31:=H0.c 1 31 rfl rfl;have y26:=H0.c 0 26 rfl rfl;have y27:=H0.c 0 27 rfl rfl;have y28:=H0.c 0 28 rfl rfl;have y29:=H0.c 0 29 rfl rfl;have y30:=H0.c 0 30 rfl rfl;have y31:=H0.c 0 31 rfl rfl
     go_enter Tryz.func65,Tryz.ntmps65
     go_wp2
     go_ret
     exact ⟨by first | rfl | simp [*],H0.out.bel⟩
    ·rw [e3]
     clear e3
     have x26:=H0.c 1 26 rfl rfl;have x27:=H0.c 1 27 rfl rfl;have x28:=H0.c 1 28 rfl rfl;have x29:=H0.c 1 29 rfl rfl;have x30:=H0.c 1 30 rfl rfl;have x31:=H0.c 1 31 rfl rfl;have y26:=H0.c 0 26 rfl rfl;have y27:=H0.c 0 27 rfl rfl;have y28:=H0.c 0 28 rfl rfl;have y29:=H0.c 0 29 rfl rfl;have y30:=H0.c 0 30 rfl rfl;have y31:=H0.c 0 31 rfl rfl
     go_enter Tryz.func65,Tryz.ntmps65
     go_wp2
     go_ret
     exact ⟨by first | rfl | simp [*],H0.out.bel⟩
  ·rw [e1]
   clear e1
   have x26:=H0.c 1 26 rfl rfl;have x27:=H0.c 1 27 rfl rfl;have y26:=H0.c 0 26 rfl rfl;have y27:=H0.c 0 27 rfl rfl
   go_enter Tryz.func65,Tryz.ntmps65
   go_wp2
   go_ret
   exact ⟨by first | rfl | simp [*],H0.out.bel⟩
/-- Whether two messages in memory are alike. -/
noncomputable def sameG (x y : MgM) (L L' : MgL) : Bool:=(x.k == y.k) && (pxB x y L L' && (dlB x y L L' && (anB x y)))
theorem gSame_any (x y : MgM) (L L' : MgL) (w : World) (h : MgAt w x L) (h' : MgAt w y L') (hx : MgF x) (hy : MgF y) :
  Calls Tryz.prog 27 #[.agg (mgV x),.agg (mgV y)] w (Says w (sameG x y L L')):=by
 have H0:=hid (((Boxs.start w).more (mgV x) 40).more (mgV y) 40)
 have hs : (w.alloc (.cells (mgV x) 40)).heap.size = w.heap.size + 1:=by simp
 rw [hs] at H0
 clear hs
 have c1 : ∀ W,Below w.heap.size w W→Calls Tryz.prog 63 #[.agg (mgV x),.agg (mgV y)] W (Says W (pxB x y L L')):=fun W hW=>sPaxos_any x y L L' W (h.later hW) (h'.later hW) hx hy
 have c2 : ∀ W,Below w.heap.size w W→Calls Tryz.prog 64 #[.agg (mgV x),.agg (mgV y)] W (Says W (dlB x y L L')):=fun W hW=>sDeal_any x y L L' W (h.later hW) (h'.later hW) hx hy
 have c3 : ∀ W,Below w.heap.size w W→Calls Tryz.prog 65 #[.agg (mgV x),.agg (mgV y)] W (Says W (anB x y)):=fun W hW=>sAnswer_any x y L L' W (h.later hW) (h'.later hW) hx hy
 clear h h' hx hy
 unfold sameG
 cases q0 : (x.k == y.k)
 ·have x0:=H0.c 1 0 rfl rfl;have y0:=H0.c 0 0 rfl rfl
  (clear c1 c2 c3)
  go_enter Tryz.func27,Tryz.ntmps27
  go_wp2
  go_ret
  exact ⟨by first | rfl | simp [*],H0.out.bel⟩
 ·cases q1 : pxB x y L L'
  ·rw [q1] at c1
   have x0:=H0.c 1 0 rfl rfl;have xW:=hid ((H0.g 1 rfl).ldM);have y0:=H0.c 0 0 rfl rfl;have yW:=hid ((H0.g 0 rfl).ldM)
   (clear c2 c3)
   go_enter Tryz.func27,Tryz.ntmps27
   go_wp2_with (first | (refine wpList_load_at rfl 40 _ rfl _ _ rfl xW.out ?_) | (refine wpList_load_at rfl 40 _ rfl _ _ rfl yW.out ?_) | (go_at_call 63;((with_reducible refine (c1 _ H0.out.bel).mono ?_);rintro e w1 ⟨rfl,hb1⟩;have H1:=hid (H0.out.below hb1))))
   go_ret
   exact ⟨by first | rfl | simp [*],H1.out.bel⟩
  ·rw [q1] at c1
   cases q2 : dlB x y L L'
   ·rw [q2] at c2
    have x0:=H0.c 1 0 rfl rfl;have xW:=hid ((H0.g 1 rfl).ldM);have y0:=H0.c 0 0 rfl rfl;have yW:=hid ((H0.g 0 rfl).ldM)
    (clear c3)
    go_enter Tryz.func27,Tryz.ntmps27
    go_wp2_with (first | (refine wpList_load_at rfl 40 _ rfl _ _ rfl xW.out ?_) | (refine wpList_load_at rfl 40 _ rfl _ _ rfl yW.out ?_) | (go_at_call 63;((with_reducible refine (c1 _ H0.out.bel).mono ?_);rintro e w1 ⟨rfl,hb1⟩;have H1:=hid (H0.out.below hb1);(clear x0 xW y0 yW);have xW:=hid ((H1.g 1 rfl).ldM);have yW:=hid ((H1.g 0 rfl).ldM))) | (go_at_call 64;((with_reducible refine (c2 _ H1.out.bel).mono ?_);rintro e w2 ⟨rfl,hb2⟩;have H2:=hid (H1.out.below hb2))))
    go_ret
    exact ⟨by first | rfl | simp [*],H2.out.bel⟩
   ·rw [q2] at c2
    cases q3 : anB x y
    ·rw [q3] at c3
     have x0:=H0.c 1 0 rfl rfl;have xW:=hid ((H0.g 1 rfl).ldM);have y0:=H0.c 0 0 rfl rfl;have yW:=hid ((H0.g 0 rfl).ldM)
     go_enter Tryz.func27,Tryz.ntmps27
     go_wp2_with (first | (refine wpList_load_at rfl 40 _ rfl _ _ rfl xW.out ?_) | (refine wpList_load_at rfl 40 _ rfl _ _ rfl yW.out ?_) | (go_at_call 63;((with_reducible refine (c1 _ H0.out.bel).mono ?_);rintro e w1 ⟨rfl,hb1⟩;have H1:=hid (H0.out.below hb1);(clear x0 xW y0 yW);have xW:=hid ((H1.g 1 rfl).ldM);have yW:=hid ((H1.g 0 rfl).ldM))) | (go_at_call 64;((with_reducible refine (c2 _ H1.out.bel).mono ?_);rintro e w2 ⟨rfl,hb2⟩;have H2:=hid (H1.out.below hb2);(clear xW yW);have xW:=hid ((H2.g 1 rfl).ldM);have yW:=hid ((H2.g 0 rfl).ldM))) | (go_at_call 65;((with_reducible refine (c3 _ H2.out.bel).mono ?_);rintro e w3 ⟨rfl,hb3⟩;have H3:=hid (H2.out.below hb3))))
     go_ret
     exact ⟨by first | rfl | simp [*],H3.out.bel⟩
    ·rw [q3] at c3
     have x0:=H0.c 1 0 rfl rfl;have xW:=hid ((H0.g 1 rfl).ldM);have y0:=H0.c 0 0 rfl rfl;have yW:=hid ((H0.g 0 rfl).ldM)
     go_enter Tryz.func27,Tryz.ntmps27
     go_wp2_with (first | (refine wpList_load_at rfl 40 _ rfl _ _ rfl xW.out ?_) | (refine wpList_load_at rfl 40 _ rfl _ _ rfl yW.out ?_) | (go_at_call 63;((with_reducible refine (c1 _ H0.out.bel).mono ?_);rintro e w1 ⟨rfl,hb1⟩;have H1:=hid (H0.out.below hb1);(clear x0 xW y0 yW);have xW:=hid ((H1.g 1 rfl).ldM);have yW:=hid ((H1.g 0 rfl).ldM))) | (go_at_call 64;((with_reducible refine (c2 _ H1.out.bel).mono ?_);rintro e w2 ⟨rfl,hb2⟩;have H2:=hid (H1.out.below hb2);(clear xW yW);have xW:=hid ((H2.g 1 rfl).ldM);have yW:=hid ((H2.g 0 rfl).ldM))) | (go_at_call 65;((with_reducible refine (c3 _ H2.out.bel).mono ?_);rintro e w3 ⟨rfl,hb3⟩;have H3:=hid (H2.out.below hb3))))
     go_ret
     exact ⟨by first | rfl | simp [*],H3.out.bel⟩
theorem sameG_iff (x y : MgM) (L L' : MgL) : sameG x y L L' = eqB (mgT x L) (mgT y L'):=by
 by_cases e : mgT x L = mgT y L'
 ·obtain ⟨h1,h2,h3,h4⟩:=mgT_inj e
  unfold pxT at h2;unfold dlT at h3;unfold anT at h4
  simp only [Prod.mk.injEq] at h2 h3 h4
  obtain ⟨⟨a1,a2⟩,a3,a4,⟨a5,a6⟩,a7,a8⟩:=h2
  obtain ⟨b1,⟨b2,b3⟩,b4,b5,b6⟩:=h3
  obtain ⟨d1,d2,d3,⟨d4,d5,d6⟩,d7⟩:=h4
  rw [eqB_yes e]
  unfold sameG pxB dlB anB
  rw [sameC_eqB,sameM_eqB,eqB_yes a7,eqB_yes b1,eqB_yes a8,h1,a1,a2,a3,a4,a5,a6,b2,b3,b4,b5,b6,d1,d2,d3,d4,d5,d6,d7]
  simp only [eqB_self,beq_self_eq_true,Bool.and_self]
 ·rw [eqB_no e]
  cases q : sameG x y L L'
  ·rfl
  ·exfalso;apply e
   unfold sameG pxB dlB anB at q
   rw [sameC_eqB,sameM_eqB] at q
   simp only [Bool.and_eq_true,beq_iff_eq] at q
   obtain ⟨h1,⟨a1,a3,a4,a5,a7,a8⟩,⟨b1,b2,b4,b5,b6⟩,d1,d2,d3,d4,d7⟩:=q
   have d2':=eqB_of d2
   exact mgT_of h1 (by unfold pxT;rw [eqB_of a1,a3,a4,eqB_of a5,eqB_of a7,eqB_of a8]) (by unfold dlT;rw [eqB_of b1,eqB_of b2,b4,b6,show x.st = y.st by omega]) (by
    have h4:=eqB_of d4
    simp only [Prod.mk.injEq] at h4
    unfold anT;rw [d1,d2',d7,h4.1,h4.2.2,show x.vb = y.vb by omega,show x.ver = y.ver by omega])
/-- A letter of a field. -/
def IsLet (c : Nat) : Prop:=c = 98∨c = 115∨c = 104∨c = 99∨c = 116∨c = 105∨c = 103∨c = 112∨c = 121∨c = 110∨c = 107∨c = 118∨c = 120∨c = 101∨c = 100
/-- A message without the field of a letter; its lists. -/
def dropM (x : MgM) (c : Nat) : MgM :=
 if c = 98 then {x with br:=0,bn:=0} else if c = 115 then {x with sl:=0} else if c = 104 then {x with has:=false,vr:=0,vn:=0,cm:=zeroM} else if c = 99 then {x with cm:=zeroM} else if c = 116 then {x with s:=0,q:=0,a:=none,n:=0,c:=0,b:=none,m:=0,d:=0} else if c = 105 then {x with i:=0,j:=0} else if c = 103 then {x with g:=0} else if c = 112 then {x with st:=0} else if c = 121 then {x with y:=false} else if c = 110 then {x with nu:=0} else if c = 107 then {x with key:=⟨#[]⟩} else if c = 118 then {x with ver:=0} else if c = 120 then {x with vk:=0,vb:=0,vt:=⟨#[]⟩} else if c = 101 then {x with er:=0} else if c = 100 then {x with da:=none,dn:=0,dc:=0} else x
def dropL (L : MgL) (c : Nat) : MgL :=
 if c = 104 then {L with rs:=[],ws:=[]} else if c = 99 then {L with rs:=[],ws:=[]} else if c = 116 then {L with rt:=[],wt:=[]} else if c = 100 then {L with dl:=[]} else L
theorem Only.set {g : Nat} {w w' : World} (h : Only g w w') (i : Nat) (u : Value) : Only g w (w'.setCell ⟨g,i,none⟩ u) :=
 ⟨h.os,h.tape,h.output,by have:=h.size;simpa [World.setCell] using this,fun b hb hne=>(Below.heap_setCell _ _ _ _ (fun e=>hne (by rw [show b = g from e]))).trans (h.block b hb hne)⟩
/-- The message in the box is another one; nothing else was changed. -/
def InBox (g : Nat) (y : MgM) (w : World) (e : Ending) (w' : World) : Prop:=e = .returned (.tuple #[])∧BoxC w' g (mgV y) 40∧Only g w w'
theorem drop_b (x : MgM) (g : Nat) (w : World) (h : BoxC w g (mgV x) 40) :
  Calls Tryz.prog 26 #[.pointer (some ⟨g,0,none⟩),.int .i32 98] w (InBox g {x with br:=0,bn:=0} w):=by
 have x1:=h.cell 1 _ rfl;have f1:=h.frozen 1;have x2:=h.cell 2 _ rfl;have f2:=h.frozen 2
 have o0 : Hid (Only g w w):=Only.refl g w
 have b1 : Hid (BoxC (w.setCell ⟨g,1,none⟩ (.int .u32 0)) g (mgV {x with br:=0}) 40):=h.set 1 (.int .u32 0)
 have o1 : Hid (Only g w (w.setCell ⟨g,1,none⟩ (.int .u32 0))):=o0.out.set 1 (.int .u32 0)
 have b2 : Hid (BoxC ((w.setCell ⟨g,1,none⟩ (.int .u32 0)).setCell ⟨g,2,none⟩ (.int .i64 0)) g (mgV {x with br:=0,bn:=0}) 40):=b1.out.set 2 (.int .i64 0)
 have o2 : Hid (Only g w ((w.setCell ⟨g,1,none⟩ (.int .u32 0)).setCell ⟨g,2,none⟩ (.int .i64 0))):=o1.out.set 2 (.int .i64 0)
 clear h
 go_enter Tryz.func26,Tryz.ntmps26
 go_wp2
 go_end0
 exact ⟨rfl,b2.out,o2.out⟩
theorem drop_s (x : MgM) (g : Nat) (w : World) (h : BoxC w g (mgV x) 40) :
  Calls Tryz.prog 26 #[.pointer (some ⟨g,0,none⟩),.int .i32 115] w (InBox g {x with sl:=0} w):=by
 have x3:=h.cell 3 _ rfl;have f3:=h.frozen 3
 have o0 : Hid (Only g w w):=Only.refl g w
 have b1 : Hid (BoxC (w.setCell ⟨g,3,none⟩ (.int .i64 0)) g (mgV {x with sl:=0}) 40):=h.set 3 (.int .i64 0)
 have o1 : Hid (Only g w (w.setCell ⟨g,3,none⟩ (.int .i64 0))):=o0.out.set 3 (.int .i64 0)
 clear h
 go_enter Tryz.func26,Tryz.ntmps26
 go_wp2
 go_end0
 exact ⟨rfl,b1.out,o1.out⟩
theorem drop_h (x : MgM) (g : Nat) (w : World) (h : BoxC w g (mgV x) 40) :
  Calls Tryz.prog 26 #[.pointer (some ⟨g,0,none⟩),.int .i32 104] w (InBox g {x with has:=false,vr:=0,vn:=0,cm:=zeroM} w):=by
 have x4:=h.cell 4 _ rfl;have f4:=h.frozen 4;have x5:=h.cell 5 _ rfl;have f5:=h.frozen 5;have x6:=h.cell 6 _ rfl;have f6:=h.frozen 6;have x7:=h.cell 7 _ rfl;have f7:=h.frozen 7;have x8:=h.cell 8 _ rfl;have f8:=h.frozen 8;have x9:=h.cell 9 _ rfl;have f9:=h.frozen 9;have x10:=h.cell 10 _ rfl;have f10:=h.frozen 10;have x11:=h.cell 11 _ rfl;have f11:=h.frozen 11;have x12:=h.cell 12 _ rfl;have f12:=h.frozen 12;have x13:=h.cell 13 _ rfl;have f13:=h.frozen 13;have x14:=h.cell 14 _ rfl;have f14:=h.frozen 14;have x15:=h.cell 15 _ rfl;have f15:=h.frozen 15;have x16:=h.cell 16 _ rfl;have f16:=h.frozen 16
 have o0 : Hid (Only g w w):=Only.refl g w
 have b1 : Hid (BoxC (w.setCell ⟨g,4,none⟩ (.bool false)) g (mgV {x with has:=false}) 40):=h.set 4 (.bool false)
 have o1 : Hid (Only g w (w.setCell ⟨g,4,none⟩ (.bool false))):=o0.out.set 4 (.bool false)
 have b2 : Hid (BoxC ((w.setCell ⟨g,4,none⟩ (.bool false)).setCell ⟨g,5,none⟩ (.int .u32 0)) g (mgV {x with has:=false,vr:=0}) 40):=b1.out.set 5 (.int .u32 0)
 have o2 : Hid (Only g w ((w.setCell ⟨g,4,none⟩ (.bool false)).setCell ⟨g,5,none⟩ (.int .u32 0))):=o1.out.set 5 (.int .u32 0)
 have b3 : Hid (BoxC (((w.setCell ⟨g,4,none⟩ (.bool false)).setCell ⟨g,5,none⟩ (.int .u32 0)).setCell ⟨g,6,none⟩ (.int .i64 0)) g (mgV {x with has:=false,vr:=0,vn:=0}) 40):=b2.out.set 6 (.int .i64 0)
 have o3 : Hid (Only g w (((w.setCell ⟨g,4,none⟩ (.bool false)).setCell ⟨g,5,none⟩ (.int .u32 0)).setCell ⟨g,6,none⟩ (.int .i64 0))):=o2.out.set 6 (.int .i64 0)
 have b4 : Hid (BoxC ((((w.setCell ⟨g,4,none⟩ (.bool false)).setCell ⟨g,5,none⟩ (.int .u32 0)).setCell ⟨g,6,none⟩ (.int .i64 0)).setCell ⟨g,7,none⟩ (.int .i64 0)) g (mgV {x with has:=false,vr:=0,vn:=0,cm:={x.cm with k:=0}}) 40):=b3.out.set 7 (.int .i64 0)
 have o4 : Hid (Only g w ((((w.setCell ⟨g,4,none⟩ (.bool false)).setCell ⟨g,5,none⟩ (.int .u32 0)).setCell ⟨g,6,none⟩ (.int .i64 0)).setCell ⟨g,7,none⟩ (.int .i64 0))):=o3.out.set 7 (.int .i64 0)
 have b5 : Hid (BoxC (((((w.setCell ⟨g,4,none⟩ (.bool false)).setCell ⟨g,5,none⟩ (.int .u32 0)).setCell ⟨g,6,none⟩ (.int .i64 0)).setCell ⟨g,7,none⟩ (.int .i64 0)).setCell ⟨g,8,none⟩ (.int .i64 0)) g (mgV {x with has:=false,vr:=0,vn:=0,cm:={x.cm with k:=0,s:=0}}) 40):=b4.out.set 8 (.int .i64 0)
 have o5 : Hid (Only g w (((((w.setCell ⟨g,4,none⟩ (.bool false)).setCell ⟨g,5,none⟩ (.int .u32 0)).setCell ⟨g,6,none⟩ (.int .i64 0)).setCell ⟨g,7,none⟩ (.int .i64 0)).setCell ⟨g,8,none⟩ (.int .i64 0))):=o4.out.set 8 (.int .i64 0)
 have b6 : Hid (BoxC ((((((w.setCell ⟨g,4,none⟩ (.bool false)).setCell ⟨g,5,none⟩ (.int .u32 0)).setCell ⟨g,6,none⟩ (.int .i64 0)).setCell ⟨g,7,none⟩ (.int .i64 0)).setCell ⟨g,8,none⟩ (.int .i64 0)).setCell ⟨g,9,none⟩ (.int .i64 0)) g (mgV {x with has:=false,vr:=0,vn:=0,cm:={x.cm with k:=0,s:=0,q:=0}}) 40):=b5.out.set 9 (.int .i64 0)
 have o6 : Hid (Only g w ((((((w.setCell ⟨g,4,none⟩ (.bool false)).setCell ⟨g,5,none⟩ (.int .u32 0)).setCell ⟨g,6,none⟩ (.int .i64 0)).setCell ⟨g,7,none⟩ (.int .i64 0)).setCell ⟨g,8,none⟩ (.int .i64 0)).setCell ⟨g,9,none⟩ (.int .i64 0))):=o5.out.set 9 (.int .i64 0)
 have b7 : Hid (BoxC (((((((w.setCell ⟨g,4,none⟩ (.bool false)).setCell ⟨g,5,none⟩ (.int .u32 0)).setCell ⟨g,6,none⟩ (.int .i64 0)).setCell ⟨g,7,none⟩ (.int .i64 0)).setCell ⟨g,8,none⟩ (.int .i64 0)).setCell ⟨g,9,none⟩ (.int .i64 0)).setCell ⟨g,10,none⟩ (.slice none 0 0)) g (mgV {x with has:=false,vr:=0,vn:=0,cm:={x.cm with k:=0,s:=0,q:=0,a:=none,n:=0,c:=0}}) 40):=b6.out.set 10 (.slice none 0 0)
 have o7 : Hid (Only g w (((((((w.setCell ⟨g,4,none⟩ (.bool false)).setCell ⟨g,5,none⟩ (.int .u32 0)).setCell ⟨g,6,none⟩ (.int .i64 0)).setCell ⟨g,7,none⟩ (.int .i64 0)).setCell ⟨g,8,none⟩ (.int .i64 0)).setCell ⟨g,9,none⟩ (.int .i64 0)).setCell ⟨g,10,none⟩ (.slice none 0 0))):=o6.out.set 10 (.slice none 0 0)
 have b8 : Hid (BoxC ((((((((w.setCell ⟨g,4,none⟩ (.bool false)).setCell ⟨g,5,none⟩ (.int .u32 0)).setCell ⟨g,6,none⟩ (.int .i64 0)).setCell ⟨g,7,none⟩ (.int .i64 0)).setCell ⟨g,8,none⟩ (.int .i64 0)).setCell ⟨g,9,none⟩ (.int .i64 0)).setCell ⟨g,10,none⟩ (.slice none 0 0)).setCell ⟨g,11,none⟩ (.slice none 0 0)) g (mgV {x with has:=false,vr:=0,vn:=0,cm:={x.cm with k:=0,s:=0,q:=0,a:=none,n:=0,c:=0,b:=none,m:=0,d:=0}}) 40):=b7.out.set 11 (.slice none 0 0)
 have o8 : Hid (Only g w ((((((((w.setCell ⟨g,4,none⟩ (.bool false)).setCell ⟨g,5,none⟩ (.int .u32 0)).setCell ⟨g,6,none⟩ (.int .i64 0)).setCell ⟨g,7,none⟩ (.int .i64 0)).setCell ⟨g,8,none⟩ (.int .i64 0)).setCell ⟨g,9,none⟩ (.int .i64 0)).setCell ⟨g,10,none⟩ (.slice none 0 0)).setCell ⟨g,11,none⟩ (.slice none 0 0))):=o7.out.set 11 (.slice none 0 0)
 have b9 : Hid (BoxC (((((((((w.setCell ⟨g,4,none⟩ (.bool false)).setCell ⟨g,5,none⟩ (.int .u32 0)).setCell ⟨g,6,none⟩ (.int .i64 0)).setCell ⟨g,7,none⟩ (.int .i64 0)).setCell ⟨g,8,none⟩ (.int .i64 0)).setCell ⟨g,9,none⟩ (.int .i64 0)).setCell ⟨g,10,none⟩ (.slice none 0 0)).setCell ⟨g,11,none⟩ (.slice none 0 0)).setCell ⟨g,12,none⟩ (.int .i64 0)) g (mgV {x with has:=false,vr:=0,vn:=0,cm:={x.cm with k:=0,s:=0,q:=0,a:=none,n:=0,c:=0,b:=none,m:=0,d:=0,i:=0}}) 40):=b8.out.set 12 (.int .i64 0)
 have o9 : Hid (Only g w (((((((((w.setCell ⟨g,4,none⟩ (.bool false)).setCell ⟨g,5,none⟩ (.int .u32 0)).setCell ⟨g,6,none⟩ (.int .i64 0)).setCell ⟨g,7,none⟩ (.int .i64 0)).setCell ⟨g,8,none⟩ (.int .i64 0)).setCell ⟨g,9,none⟩ (.int .i64 0)).setCell ⟨g,10,none⟩ (.slice none 0 0)).setCell ⟨g,11,none⟩ (.slice none 0 0)).setCell ⟨g,12,none⟩ (.int .i64 0))):=o8.out.set 12 (.int .i64 0)
 have b10 : Hid (BoxC ((((((((((w.setCell ⟨g,4,none⟩ (.bool false)).setCell ⟨g,5,none⟩ (.int .u32 0)).setCell ⟨g,6,none⟩ (.int .i64 0)).setCell ⟨g,7,none⟩ (.int .i64 0)).setCell ⟨g,8,none⟩ (.int .i64 0)).setCell ⟨g,9,none⟩ (.int .i64 0)).setCell ⟨g,10,none⟩ (.slice none 0 0)).setCell ⟨g,11,none⟩ (.slice none 0 0)).setCell ⟨g,12,none⟩ (.int .i64 0)).setCell ⟨g,13,none⟩ (.int .i64 0)) g (mgV {x with has:=false,vr:=0,vn:=0,cm:={x.cm with k:=0,s:=0,q:=0,a:=none,n:=0,c:=0,b:=none,m:=0,d:=0,i:=0,j:=0}}) 40):=b9.out.set 13 (.int .i64 0)
 have o10 : Hid (Only g w ((((((((((w.setCell ⟨g,4,none⟩ (.bool false)).setCell ⟨g,5,none⟩ (.int .u32 0)).setCell ⟨g,6,none⟩ (.int .i64 0)).setCell ⟨g,7,none⟩ (.int .i64 0)).setCell ⟨g,8,none⟩ (.int .i64 0)).setCell ⟨g,9,none⟩ (.int .i64 0)).setCell ⟨g,10,none⟩ (.slice none 0 0)).setCell ⟨g,11,none⟩ (.slice none 0 0)).setCell ⟨g,12,none⟩ (.int .i64 0)).setCell ⟨g,13,none⟩ (.int .i64 0))):=o9.out.set 13 (.int .i64 0)
 have b11 : Hid (BoxC (((((((((((w.setCell ⟨g,4,none⟩ (.bool false)).setCell ⟨g,5,none⟩ (.int .u32 0)).setCell ⟨g,6,none⟩ (.int .i64 0)).setCell ⟨g,7,none⟩ (.int .i64 0)).setCell ⟨g,8,none⟩ (.int .i64 0)).setCell ⟨g,9,none⟩ (.int .i64 0)).setCell ⟨g,10,none⟩ (.slice none 0 0)).setCell ⟨g,11,none⟩ (.slice none 0 0)).setCell ⟨g,12,none⟩ (.int .i64 0)).setCell ⟨g,13,none⟩ (.int .i64 0)).setCell ⟨g,14,none⟩ (.int .i64 0)) g (mgV {x with has:=false,vr:=0,vn:=0,cm:={x.cm with k:=0,s:=0,q:=0,a:=none,n:=0,c:=0,b:=none,m:=0,d:=0,i:=0,j:=0,g:=0}}) 40):=b10.out.set 14 (.int .i64 0)
 have o11 : Hid (Only g w (((((((((((w.setCell ⟨g,4,none⟩ (.bool false)).setCell ⟨g,5,none⟩ (.int .u32 0)).setCell ⟨g,6,none⟩ (.int .i64 0)).setCell ⟨g,7,none⟩ (.int .i64 0)).setCell ⟨g,8,none⟩ (.int .i64 0)).setCell ⟨g,9,none⟩ (.int .i64 0)).setCell ⟨g,10,none⟩ (.slice none 0 0)).setCell ⟨g,11,none⟩ (.slice none 0 0)).setCell ⟨g,12,none⟩ (.int .i64 0)).setCell ⟨g,13,none⟩ (.int .i64 0)).setCell ⟨g,14,none⟩ (.int .i64 0))):=o10.out.set 14 (.int .i64 0)
 have b12 : Hid (BoxC ((((((((((((w.setCell ⟨g,4,none⟩ (.bool false)).setCell ⟨g,5,none⟩ (.int .u32 0)).setCell ⟨g,6,none⟩ (.int .i64 0)).setCell ⟨g,7,none⟩ (.int .i64 0)).setCell ⟨g,8,none⟩ (.int .i64 0)).setCell ⟨g,9,none⟩ (.int .i64 0)).setCell ⟨g,10,none⟩ (.slice none 0 0)).setCell ⟨g,11,none⟩ (.slice none 0 0)).setCell ⟨g,12,none⟩ (.int .i64 0)).setCell ⟨g,13,none⟩ (.int .i64 0)).setCell ⟨g,14,none⟩ (.int .i64 0)).setCell ⟨g,15,none⟩ (.int .u64 0)) g (mgV {x with has:=false,vr:=0,vn:=0,cm:={x.cm with k:=0,s:=0,q:=0,a:=none,n:=0,c:=0,b:=none,m:=0,d:=0,i:=0,j:=0,g:=0,st:=0}}) 40):=b11.out.set 15 (.int .u64 0)
 have o12 : Hid (Only g w ((((((((((((w.setCell ⟨g,4,none⟩ (.bool false)).setCell ⟨g,5,none⟩ (.int .u32 0)).setCell ⟨g,6,none⟩ (.int .i64 0)).setCell ⟨g,7,none⟩ (.int .i64 0)).setCell ⟨g,8,none⟩ (.int .i64 0)).setCell ⟨g,9,none⟩ (.int .i64 0)).setCell ⟨g,10,none⟩ (.slice none 0 0)).setCell ⟨g,11,none⟩ (.slice none 0 0)).setCell ⟨g,12,none⟩ (.int .i64 0)).setCell ⟨g,13,none⟩ (.int .i64 0)).setCell ⟨g,14,none⟩ (.int .i64 0)).setCell ⟨g,15,none⟩ (.int .u64 0))):=o11.out.set 15 (.int .u64 0)
 have b13 : Hid (BoxC (((((((((((((w.setCell ⟨g,4,none⟩ (.bool false)).setCell ⟨g,5,none⟩ (.int .u32 0)).setCell ⟨g,6,none⟩ (.int .i64 0)).setCell ⟨g,7,none⟩ (.int .i64 0)).setCell ⟨g,8,none⟩ (.int .i64 0)).setCell ⟨g,9,none⟩ (.int .i64 0)).setCell ⟨g,10,none⟩ (.slice none 0 0)).setCell ⟨g,11,none⟩ (.slice none 0 0)).setCell ⟨g,12,none⟩ (.int .i64 0)).setCell ⟨g,13,none⟩ (.int .i64 0)).setCell ⟨g,14,none⟩ (.int .i64 0)).setCell ⟨g,15,none⟩ (.int .u64 0)).setCell ⟨g,16,none⟩ (.bool false)) g (mgV {x with has:=false,vr:=0,vn:=0,cm:=zeroM}) 40):=b12.out.set 16 (.bool false)
 have o13 : Hid (Only g w (((((((((((((w.setCell ⟨g,4,none⟩ (.bool false)).setCell ⟨g,5,none⟩ (.int .u32 0)).setCell ⟨g,6,none⟩ (.int .i64 0)).setCell ⟨g,7,none⟩ (.int .i64 0)).setCell ⟨g,8,none⟩ (.int .i64 0)).setCell ⟨g,9,none⟩ (.int .i64 0)).setCell ⟨g,10,none⟩ (.slice none 0 0)).setCell ⟨g,11,none⟩ (.slice none 0 0)).setCell ⟨g,12,none⟩ (.int .i64 0)).setCell ⟨g,13,none⟩ (.int .i64 0)).setCell ⟨g,14,none⟩ (.int .i64 0)).setCell ⟨g,15,none⟩ (.int .u64 0)).setCell ⟨g,16,none⟩ (.bool false))):=o12.out.set 16 (.bool false)
 clear h
 go_enter Tryz.func26,Tryz.ntmps26
 go_wp2
 go_end0
 exact ⟨rfl,b13.out,o13.out⟩
theorem drop_c (x : MgM) (g : Nat) (w : World) (h : BoxC w g (mgV x) 40) :
  Calls Tryz.prog 26 #[.pointer (some ⟨g,0,none⟩),.int .i32 99] w (InBox g {x with cm:=zeroM} w):=by
 have x7:=h.cell 7 _ rfl;have f7:=h.frozen 7;have x8:=h.cell 8 _ rfl;have f8:=h.frozen 8;have x9:=h.cell 9 _ rfl;have f9:=h.frozen 9;have x10:=h.cell 10 _ rfl;have f10:=h.frozen 10;have x11:=h.cell 11 _ rfl;have f11:=h.frozen 11;have x12:=h.cell 12 _ rfl;have f12:=h.frozen 12;have x13:=h.cell 13 _ rfl;have f13:=h.frozen 13;have x14:=h.cell 14 _ rfl;have f14:=h.frozen 14;have x15:=h.cell 15 _ rfl;have f15:=h.frozen 15;have x16:=h.cell 16 _ rfl;have f16:=h.frozen 16
 have o0 : Hid (Only g w w):=Only.refl g w
 have b1 : Hid (BoxC (w.setCell ⟨g,7,none⟩ (.int .i64 0)) g (mgV {x with cm:={x.cm with k:=0}}) 40):=h.set 7 (.int .i64 0)
 have o1 : Hid (Only g w (w.setCell ⟨g,7,none⟩ (.int .i64 0))):=o0.out.set 7 (.int .i64 0)
 have b2 : Hid (BoxC ((w.setCell ⟨g,7,none⟩ (.int .i64 0)).setCell ⟨g,8,none⟩ (.int .i64 0)) g (mgV {x with cm:={x.cm with k:=0,s:=0}}) 40):=b1.out.set 8 (.int .i64 0)
 have o2 : Hid (Only g w ((w.setCell ⟨g,7,none⟩ (.int .i64 0)).setCell ⟨g,8,none⟩ (.int .i64 0))):=o1.out.set 8 (.int .i64 0)
 have b3 : Hid (BoxC (((w.setCell ⟨g,7,none⟩ (.int .i64 0)).setCell ⟨g,8,none⟩ (.int .i64 0)).setCell ⟨g,9,none⟩ (.int .i64 0)) g (mgV {x with cm:={x.cm with k:=0,s:=0,q:=0}}) 40):=b2.out.set 9 (.int .i64 0)
 have o3 : Hid (Only g w (((w.setCell ⟨g,7,none⟩ (.int .i64 0)).setCell ⟨g,8,none⟩ (.int .i64 0)).setCell ⟨g,9,none⟩ (.int .i64 0))):=o2.out.set 9 (.int .i64 0)
 have b4 : Hid (BoxC ((((w.setCell ⟨g,7,none⟩ (.int .i64 0)).setCell ⟨g,8,none⟩ (.int .i64 0)).setCell ⟨g,9,none⟩ (.int .i64 0)).setCell ⟨g,10,none⟩ (.slice none 0 0)) g (mgV {x with cm:={x.cm with k:=0,s:=0,q:=0,a:=none,n:=0,c:=0}}) 40):=b3.out.set 10 (.slice none 0 0)
 have o4 : Hid (Only g w ((((w.setCell ⟨g,7,none⟩ (.int .i64 0)).setCell ⟨g,8,none⟩ (.int .i64 0)).setCell ⟨g,9,none⟩ (.int .i64 0)).setCell ⟨g,10,none⟩ (.slice none 0 0))):=o3.out.set 10 (.slice none 0 0)
 have b5 : Hid (BoxC (((((w.setCell ⟨g,7,none⟩ (.int .i64 0)).setCell ⟨g,8,none⟩ (.int .i64 0)).setCell ⟨g,9,none⟩ (.int .i64 0)).setCell ⟨g,10,none⟩ (.slice none 0 0)).setCell ⟨g,11,none⟩ (.slice none 0 0)) g (mgV {x with cm:={x.cm with k:=0,s:=0,q:=0,a:=none,n:=0,c:=0,b:=none,m:=0,d:=0}}) 40):=b4.out.set 11 (.slice none 0 0)
 have o5 : Hid (Only g w (((((w.setCell ⟨g,7,none⟩ (.int .i64 0)).setCell ⟨g,8,none⟩ (.int .i64 0)).setCell ⟨g,9,none⟩ (.int .i64 0)).setCell ⟨g,10,none⟩ (.slice none 0 0)).setCell ⟨g,11,none⟩ (.slice none 0 0))):=o4.out.set 11 (.slice none 0 0)
 have b6 : Hid (BoxC ((((((w.setCell ⟨g,7,none⟩ (.int .i64 0)).setCell ⟨g,8,none⟩ (.int .i64 0)).setCell ⟨g,9,none⟩ (.int .i64 0)).setCell ⟨g,10,none⟩ (.slice none 0 0)).setCell ⟨g,11,none⟩ (.slice none 0 0)).setCell ⟨g,12,none⟩ (.int .i64 0)) g (mgV {x with cm:={x.cm with k:=0,s:=0,q:=0,a:=none,n:=0,c:=0,b:=none,m:=0,d:=0,i:=0}}) 40):=b5.out.set 12 (.int .i64 0)
 have o6 : Hid (Only g w ((((((w.setCell ⟨g,7,none⟩ (.int .i64 0)).setCell ⟨g,8,none⟩ (.int .i64 0)).setCell ⟨g,9,none⟩ (.int .i64 0)).setCell ⟨g,10,none⟩ (.slice none 0 0)).setCell ⟨g,11,none⟩ (.slice none 0 0)).setCell ⟨g,12,none⟩ (.int .i64 0))):=o5.out.set 12 (.int .i64 0)
 have b7 : Hid (BoxC (((((((w.setCell ⟨g,7,none⟩ (.int .i64 0)).setCell ⟨g,8,none⟩ (.int .i64 0)).setCell ⟨g,9,none⟩ (.int .i64 0)).setCell ⟨g,10,none⟩ (.slice none 0 0)).setCell ⟨g,11,none⟩ (.slice none 0 0)).setCell ⟨g,12,none⟩ (.int .i64 0)).setCell ⟨g,13,none⟩ (.int .i64 0)) g (mgV {x with cm:={x.cm with k:=0,s:=0,q:=0,a:=none,n:=0,c:=0,b:=none,m:=0,d:=0,i:=0,j:=0}}) 40):=b6.out.set 13 (.int .i64 0)
 have o7 : Hid (Only g w (((((((w.setCell ⟨g,7,none⟩ (.int .i64 0)).setCell ⟨g,8,none⟩ (.int .i64 0)).setCell ⟨g,9,none⟩ (.int .i64 0)).setCell ⟨g,10,none⟩ (.slice none 0 0)).setCell ⟨g,11,none⟩ (.slice none 0 0)).setCell ⟨g,12,none⟩ (.int .i64 0)).setCell ⟨g,13,none⟩ (.int .i64 0))):=o6.out.set 13 (.int .i64 0)
 have b8 : Hid (BoxC ((((((((w.setCell ⟨g,7,none⟩ (.int .i64 0)).setCell ⟨g,8,none⟩ (.int .i64 0)).setCell ⟨g,9,none⟩ (.int .i64 0)).setCell ⟨g,10,none⟩ (.slice none 0 0)).setCell ⟨g,11,none⟩ (.slice none 0 0)).setCell ⟨g,12,none⟩ (.int .i64 0)).setCell ⟨g,13,none⟩ (.int .i64 0)).setCell ⟨g,14,none⟩ (.int .i64 0)) g (mgV {x with cm:={x.cm with k:=0,s:=0,q:=0,a:=none,n:=0,c:=0,b:=none,m:=0,d:=0,i:=0,j:=0,g:=0}}) 40):=b7.out.set 14 (.int .i64 0)
 have o8 : Hid (Only g w ((((((((w.setCell ⟨g,7,none⟩ (.int .i64 0)).setCell ⟨g,8,none⟩ (.int .i64 0)).setCell ⟨g,9,none⟩ (.int .i64 0)).setCell ⟨g,10,none⟩ (.slice none 0 0)).setCell ⟨g,11,none⟩ (.slice none 0 0)).setCell ⟨g,12,none⟩ (.int .i64 0)).setCell ⟨g,13,none⟩ (.int .i64 0)).setCell ⟨g,14,none⟩ (.int .i64 0))):=o7.out.set 14 (.int .i64 0)
 have b9 : Hid (BoxC (((((((((w.setCell ⟨g,7,none⟩ (.int .i64 0)).setCell ⟨g,8,none⟩ (.int .i64 0)).setCell ⟨g,9,none⟩ (.int .i64 0)).setCell ⟨g,10,none⟩ (.slice none 0 0)).setCell ⟨g,11,none⟩ (.slice none 0 0)).setCell ⟨g,12,none⟩ (.int .i64 0)).setCell ⟨g,13,none⟩ (.int .i64 0)).setCell ⟨g,14,none⟩ (.int .i64 0)).setCell ⟨g,15,none⟩ (.int .u64 0)) g (mgV {x with cm:={x.cm with k:=0,s:=0,q:=0,a:=none,n:=0,c:=0,b:=none,m:=0,d:=0,i:=0,j:=0,g:=0,st:=0}}) 40):=b8.out.set 15 (.int .u64 0)
 have o9 : Hid (Only g w (((((((((w.setCell ⟨g,7,none⟩ (.int .i64 0)).setCell ⟨g,8,none⟩ (.int .i64 0)).setCell ⟨g,9,none⟩ (.int .i64 0)).setCell ⟨g,10,none⟩ (.slice none 0 0)).setCell ⟨g,11,none⟩ (.slice none 0 0)).setCell ⟨g,12,none⟩ (.int .i64 0)).setCell ⟨g,13,none⟩ (.int .i64 0)).setCell ⟨g,14,none⟩ (.int .i64 0)).setCell ⟨g,15,none⟩ (.int .u64 0))):=o8.out.set 15 (.int .u64 0)
 have b10 : Hid (BoxC ((((((((((w.setCell ⟨g,7,none⟩ (.int .i64 0)).setCell ⟨g,8,none⟩ (.int .i64 0)).setCell ⟨g,9,none⟩ (.int .i64 0)).setCell ⟨g,10,none⟩ (.slice none 0 0)).setCell ⟨g,11,none⟩ (.slice none 0 0)).setCell ⟨g,12,none⟩ (.int .i64 0)).setCell ⟨g,13,none⟩ (.int .i64 0)).setCell ⟨g,14,none⟩ (.int .i64 0)).setCell ⟨g,15,none⟩ (.int .u64 0)).setCell ⟨g,16,none⟩ (.bool false)) g (mgV {x with cm:=zeroM}) 40):=b9.out.set 16 (.bool false)
 have o10 : Hid (Only g w ((((((((((w.setCell ⟨g,7,none⟩ (.int .i64 0)).setCell ⟨g,8,none⟩ (.int .i64 0)).setCell ⟨g,9,none⟩ (.int .i64 0)).setCell ⟨g,10,none⟩ (.slice none 0 0)).setCell ⟨g,11,none⟩ (.slice none 0 0)).setCell ⟨g,12,none⟩ (.int .i64 0)).setCell ⟨g,13,none⟩ (.int .i64 0)).setCell ⟨g,14,none⟩ (.int .i64 0)).setCell ⟨g,15,none⟩ (.int .u64 0)).setCell ⟨g,16,none⟩ (.bool false))):=o9.out.set 16 (.bool false)
 clear h
 go_enter Tryz.func26,Tryz.ntmps26
 go_wp2
 go_end0
 exact ⟨rfl,b10.out,o10.out⟩
theorem drop_t (x : MgM) (g : Nat) (w : World) (h : BoxC w g (mgV x) 40) :
  Calls Tryz.prog 26 #[.pointer (some ⟨g,0,none⟩),.int .i32 116] w (InBox g {x with s:=0,q:=0,a:=none,n:=0,c:=0,b:=none,m:=0,d:=0} w):=by
 have x17:=h.cell 17 _ rfl;have f17:=h.frozen 17;have x18:=h.cell 18 _ rfl;have f18:=h.frozen 18;have x19:=h.cell 19 _ rfl;have f19:=h.frozen 19;have x20:=h.cell 20 _ rfl;have f20:=h.frozen 20
 have o0 : Hid (Only g w w):=Only.refl g w
 have b1 : Hid (BoxC (w.setCell ⟨g,17,none⟩ (.int .i64 0)) g (mgV {x with s:=0}) 40):=h.set 17 (.int .i64 0)
 have o1 : Hid (Only g w (w.setCell ⟨g,17,none⟩ (.int .i64 0))):=o0.out.set 17 (.int .i64 0)
 have b2 : Hid (BoxC ((w.setCell ⟨g,17,none⟩ (.int .i64 0)).setCell ⟨g,18,none⟩ (.int .i64 0)) g (mgV {x with s:=0,q:=0}) 40):=b1.out.set 18 (.int .i64 0)
 have o2 : Hid (Only g w ((w.setCell ⟨g,17,none⟩ (.int .i64 0)).setCell ⟨g,18,none⟩ (.int .i64 0))):=o1.out.set 18 (.int .i64 0)
 have b3 : Hid (BoxC (((w.setCell ⟨g,17,none⟩ (.int .i64 0)).setCell ⟨g,18,none⟩ (.int .i64 0)).setCell ⟨g,19,none⟩ (.slice none 0 0)) g (mgV {x with s:=0,q:=0,a:=none,n:=0,c:=0}) 40):=b2.out.set 19 (.slice none 0 0)
 have o3 : Hid (Only g w (((w.setCell ⟨g,17,none⟩ (.int .i64 0)).setCell ⟨g,18,none⟩ (.int .i64 0)).setCell ⟨g,19,none⟩ (.slice none 0 0))):=o2.out.set 19 (.slice none 0 0)
 have b4 : Hid (BoxC ((((w.setCell ⟨g,17,none⟩ (.int .i64 0)).setCell ⟨g,18,none⟩ (.int .i64 0)).setCell ⟨g,19,none⟩ (.slice none 0 0)).setCell ⟨g,20,none⟩ (.slice none 0 0)) g (mgV {x with s:=0,q:=0,a:=none,n:=0,c:=0,b:=none,m:=0,d:=0}) 40):=b3.out.set 20 (.slice none 0 0)
 have o4 : Hid (Only g w ((((w.setCell ⟨g,17,none⟩ (.int .i64 0)).setCell ⟨g,18,none⟩ (.int .i64 0)).setCell ⟨g,19,none⟩ (.slice none 0 0)).setCell ⟨g,20,none⟩ (.slice none 0 0))):=o3.out.set 20 (.slice none 0 0)
 clear h
 go_enter Tryz.func26,Tryz.ntmps26
 go_wp2
 go_end0
 exact ⟨rfl,b4.out,o4.out⟩
theorem drop_i (x : MgM) (g : Nat) (w : World) (h : BoxC w g (mgV x) 40) :
  Calls Tryz.prog 26 #[.pointer (some ⟨g,0,none⟩),.int .i32 105] w (InBox g {x with i:=0,j:=0} w):=by
 have x21:=h.cell 21 _ rfl;have f21:=h.frozen 21;have x22:=h.cell 22 _ rfl;have f22:=h.frozen 22
 have o0 : Hid (Only g w w):=Only.refl g w
 have b1 : Hid (BoxC (w.setCell ⟨g,21,none⟩ (.int .i64 0)) g (mgV {x with i:=0}) 40):=h.set 21 (.int .i64 0)
 have o1 : Hid (Only g w (w.setCell ⟨g,21,none⟩ (.int .i64 0))):=o0.out.set 21 (.int .i64 0)
 have b2 : Hid (BoxC ((w.setCell ⟨g,21,none⟩ (.int .i64 0)).setCell ⟨g,22,none⟩ (.int .i64 0)) g (mgV {x with i:=0,j:=0}) 40):=b1.out.set 22 (.int .i64 0)
 have o2 : Hid (Only g w ((w.setCell ⟨g,21,none⟩ (.int .i64 0)).setCell ⟨g,22,none⟩ (.int .i64 0))):=o1.out.set 22 (.int .i64 0)
 clear h
 go_enter Tryz.func26,Tryz.ntmps26
 go_wp2
 go_end0
 exact ⟨rfl,b2.out,o2.out⟩
theorem drop_g (x : MgM) (g : Nat) (w : World) (h : BoxC w g (mgV x) 40) :
  Calls Tryz.prog 26 #[.pointer (some ⟨g,0,none⟩),.int .i32 103] w (InBox g {x with g:=0} w):=by
 have x23:=h.cell 23 _ rfl;have f23:=h.frozen 23
 have o0 : Hid (Only g w w):=Only.refl g w
 have b1 : Hid (BoxC (w.setCell ⟨g,23,none⟩ (.int .i64 0)) g (mgV {x with g:=0}) 40):=h.set 23 (.int .i64 0)
 have o1 : Hid (Only g w (w.setCell ⟨g,23,none⟩ (.int .i64 0))):=o0.out.set 23 (.int .i64 0)
 clear h
 go_enter Tryz.func26,Tryz.ntmps26
 go_wp2
 go_end0
 exact ⟨rfl,b1.out,o1.out⟩
theorem drop_p (x : MgM) (g : Nat) (w : World) (h : BoxC w g (mgV x) 40) :
  Calls Tryz.prog 26 #[.pointer (some ⟨g,0,none⟩),.int .i32 112] w (InBox g {x with st:=0} w):=by
 have x24:=h.cell 24 _ rfl;have f24:=h.frozen 24
 have o0 : Hid (Only g w w):=Only.refl g w
 have b1 : Hid (BoxC (w.setCell ⟨g,24,none⟩ (.int .u64 0)) g (mgV {x with st:=0}) 40):=h.set 24 (.int .u64 0)
 have o1 : Hid (Only g w (w.setCell ⟨g,24,none⟩ (.int .u64 0))):=o0.out.set 24 (.int .u64 0)
 clear h
 go_enter Tryz.func26,Tryz.ntmps26
 go_wp2
 go_end0
 exact ⟨rfl,b1.out,o1.out⟩
theorem drop_y (x : MgM) (g : Nat) (w : World) (h : BoxC w g (mgV x) 40) :
  Calls Tryz.prog 26 #[.pointer (some ⟨g,0,none⟩),.int .i32 121] w (InBox g {x with y:=false} w):=by
 have x25:=h.cell 25 _ rfl;have f25:=h.frozen 25
 have o0 : Hid (Only g w w):=Only.refl g w
 have b1 : Hid (BoxC (w.setCell ⟨g,25,none⟩ (.bool false)) g (mgV {x with y:=false}) 40):=h.set 25 (.bool false)
 have o1 : Hid (Only g w (w.setCell ⟨g,25,none⟩ (.bool false))):=o0.out.set 25 (.bool false)
 clear h
 go_enter Tryz.func26,Tryz.ntmps26
 go_wp2
 go_end0
 exact ⟨rfl,b1.out,o1.out⟩
theorem drop_n (x : MgM) (g : Nat) (w : World) (h : BoxC w g (mgV x) 40) :
  Calls Tryz.prog 26 #[.pointer (some ⟨g,0,none⟩),.int .i32 110] w (InBox g {x with nu:=0} w):=by
 have x26:=h.cell 26 _ rfl;have f26:=h.frozen 26
 have o0 : Hid (Only g w w):=Only.refl g w
 have b1 : Hid (BoxC (w.setCell ⟨g,26,none⟩ (.int .i64 0)) g (mgV {x with nu:=0}) 40):=h.set 26 (.int .i64 0)
 have o1 : Hid (Only g w (w.setCell ⟨g,26,none⟩ (.int .i64 0))):=o0.out.set 26 (.int .i64 0)
 clear h
 go_enter Tryz.func26,Tryz.ntmps26
 go_wp2
 go_end0
 exact ⟨rfl,b1.out,o1.out⟩
theorem drop_k (x : MgM) (g : Nat) (w : World) (h : BoxC w g (mgV x) 40) :
  Calls Tryz.prog 26 #[.pointer (some ⟨g,0,none⟩),.int .i32 107] w (InBox g {x with key:=⟨#[]⟩} w):=by
 have x27:=h.cell 27 _ rfl;have f27:=h.frozen 27
 have o0 : Hid (Only g w w):=Only.refl g w
 have b1 : Hid (BoxC (w.setCell ⟨g,27,none⟩ (.string ⟨#[]⟩)) g (mgV {x with key:=⟨#[]⟩}) 40):=h.set 27 (.string ⟨#[]⟩)
 have o1 : Hid (Only g w (w.setCell ⟨g,27,none⟩ (.string ⟨#[]⟩))):=o0.out.set 27 (.string ⟨#[]⟩)
 clear h
 go_enter Tryz.func26,Tryz.ntmps26
 go_wp2
 go_end0
 exact ⟨rfl,b1.out,o1.out⟩
theorem drop_v (x : MgM) (g : Nat) (w : World) (h : BoxC w g (mgV x) 40) :
  Calls Tryz.prog 26 #[.pointer (some ⟨g,0,none⟩),.int .i32 118] w (InBox g {x with ver:=0} w):=by
 have x28:=h.cell 28 _ rfl;have f28:=h.frozen 28
 have o0 : Hid (Only g w w):=Only.refl g w
 have b1 : Hid (BoxC (w.setCell ⟨g,28,none⟩ (.int .u64 0)) g (mgV {x with ver:=0}) 40):=h.set 28 (.int .u64 0)
 have o1 : Hid (Only g w (w.setCell ⟨g,28,none⟩ (.int .u64 0))):=o0.out.set 28 (.int .u64 0)
 clear h
 go_enter Tryz.func26,Tryz.ntmps26
 go_wp2
 go_end0
 exact ⟨rfl,b1.out,o1.out⟩
theorem drop_x (x : MgM) (g : Nat) (w : World) (h : BoxC w g (mgV x) 40) :
  Calls Tryz.prog 26 #[.pointer (some ⟨g,0,none⟩),.int .i32 120] w (InBox g {x with vk:=0,vb:=0,vt:=⟨#[]⟩} w):=by
 have x29:=h.cell 29 _ rfl;have f29:=h.frozen 29;have x30:=h.cell 30 _ rfl;have f30:=h.frozen 30;have x31:=h.cell 31 _ rfl;have f31:=h.frozen 31
 have o0 : Hid (Only g w w):=Only.refl g w
 have b1 : Hid (BoxC (w.setCell ⟨g,29,none⟩ (.int .i64 0)) g (mgV {x with vk:=0}) 40):=h.set 29 (.int .i64 0)
 have o1 : Hid (Only g w (w.setCell ⟨g,29,none⟩ (.int .i64 0))):=o0.out.set 29 (.int .i64 0)
 have b2 : Hid (BoxC ((w.setCell ⟨g,29,none⟩ (.int .i64 0)).setCell ⟨g,30,none⟩ (.int .u64 0)) g (mgV {x with vk:=0,vb:=0}) 40):=b1.out.set 30 (.int .u64 0)
 have o2 : Hid (Only g w ((w.setCell ⟨g,29,none⟩ (.int .i64 0)).setCell ⟨g,30,none⟩ (.int .u64 0))):=o1.out.set 30 (.int .u64 0)
 have b3 : Hid (BoxC (((w.setCell ⟨g,29,none⟩ (.int .i64 0)).setCell ⟨g,30,none⟩ (.int .u64 0)).setCell ⟨g,31,none⟩ (.string ⟨#[]⟩)) g (mgV {x with vk:=0,vb:=0,vt:=⟨#[]⟩}) 40):=b2.out.set 31 (.string ⟨#[]⟩)
 have o3 : Hid (Only g w (((w.setCell ⟨g,29,none⟩ (.int .i64 0)).setCell ⟨g,30,none⟩ (.int .u64 0)).setCell ⟨g,31,none⟩ (.string ⟨#[]⟩))):=o2.out.set 31 (.string ⟨#[]⟩)
 clear h
 go_enter Tryz.func26,Tryz.ntmps26
 go_wp2
 go_end0
 exact ⟨rfl,b3.out,o3.out⟩
theorem drop_e (x : MgM) (g : Nat) (w : World) (h : BoxC w g (mgV x) 40) :
  Calls Tryz.prog 26 #[.pointer (some ⟨g,0,none⟩),.int .i32 101] w (InBox g {x with er:=0} w):=by
 have x32:=h.cell 32 _ rfl;have f32:=h.frozen 32
 have o0 : Hid (Only g w w):=Only.refl g w
 have b1 : Hid (BoxC (w.setCell ⟨g,32,none⟩ (.int .i64 0)) g (mgV {x with er:=0}) 40):=h.set 32 (.int .i64 0)
 have o1 : Hid (Only g w (w.setCell ⟨g,32,none⟩ (.int .i64 0))):=o0.out.set 32 (.int .i64 0)
 clear h
 go_enter Tryz.func26,Tryz.ntmps26
 go_wp2
 go_end0
 exact ⟨rfl,b1.out,o1.out⟩
theorem drop_d (x : MgM) (g : Nat) (w : World) (h : BoxC w g (mgV x) 40) :
  Calls Tryz.prog 26 #[.pointer (some ⟨g,0,none⟩),.int .i32 100] w (InBox g {x with da:=none,dn:=0,dc:=0} w):=by
 have x33:=h.cell 33 _ rfl;have f33:=h.frozen 33
 have o0 : Hid (Only g w w):=Only.refl g w
 have b1 : Hid (BoxC (w.setCell ⟨g,33,none⟩ (.slice none 0 0)) g (mgV {x with da:=none,dn:=0,dc:=0}) 40):=h.set 33 (.slice none 0 0)
 have o1 : Hid (Only g w (w.setCell ⟨g,33,none⟩ (.slice none 0 0))):=o0.out.set 33 (.slice none 0 0)
 clear h
 go_enter Tryz.func26,Tryz.ntmps26
 go_wp2
 go_end0
 exact ⟨rfl,b1.out,o1.out⟩
theorem drop_any (x : MgM) (c : Nat) (g : Nat) (w : World) (hc : IsLet c) (h : BoxC w g (mgV x) 40) :
  Calls Tryz.prog 26 #[.pointer (some ⟨g,0,none⟩),.int .i32 ((c : Nat) : Int)] w (InBox g (dropM x c) w):=by
 rcases hc with rfl | rfl | rfl | rfl | rfl | rfl | rfl | rfl | rfl | rfl | rfl | rfl | rfl | rfl | rfl
 ·exact drop_b x g w h
 ·exact drop_s x g w h
 ·exact drop_h x g w h
 ·exact drop_c x g w h
 ·exact drop_t x g w h
 ·exact drop_i x g w h
 ·exact drop_g x g w h
 ·exact drop_p x g w h
 ·exact drop_y x g w h
 ·exact drop_n x g w h
 ·exact drop_k x g w h
 ·exact drop_v x g w h
 ·exact drop_x x g w h
 ·exact drop_e x g w h
 ·exact drop_d x g w h
/-- Whether a command in memory is the zero one. -/
noncomputable def zeroCM (x : CmM) (rs : List RdM) (ws : List WrM) : Bool:=eqB (cmT x rs ws) zeroC
theorem zeroC_T : cmT zeroM [] [] = zeroC:=rfl
theorem kZero_any (x : CmM) (rs : List RdM) (ws : List WrM) (w : World) (h : CmAt w x rs ws) (hn : x.n≤1000000) (hm : x.m≤1000000) :
  Calls Tryz.prog 83 #[.agg (cmV x),.agg zeroV] w (Says w (zeroCM x rs ws)):=by
 have h1:=kSame_any x zeroM rs [] ws [] w h CmAt.zero hn hm
 rw [sameC_eqB,zeroC_T] at h1;exact h1
/-- What a message tells of a vote is well. -/
noncomputable def voteB (x : MgM) (L : MgL) : Bool:=if x.has then formB x.vn && formCm (cmT x.cm L.rs L.ws) else eqB (((x.vr : Nat) : Int),x.vn) (0,0) && zeroCM x.cm L.rs L.ws
theorem mVote_any (x : MgM) (L : MgL) (w : World) (h : MgAt w x L) (hf : MgF x) (hU : Tabs w) :
  Calls Tryz.prog 57 #[.agg (mgV x)] w (Says w (voteB x L)):=by
 have H0:=hid ((Boxs.start w).more (mgV x) 40)
 have cB:=fun W=>bFormed_any ((x.vr : Nat) : Int) x.vn W
 have cF : ∀ W,Below w.heap.size w W→Calls Tryz.prog 58 #[.agg (cmV x.cm)] W (Says W (formCm (cmT x.cm L.rs L.ws))):=fun W hW=>kFormed_any x.cm L.rs L.ws W (h.cm.later hW) hf.n hf.m (hU.below hW)
 have cS : ∀ W,Below w.heap.size w W→Calls Tryz.prog 83 #[.agg (cmV x.cm),.agg zeroV] W (Says W (zeroCM x.cm L.rs L.ws)):=fun W hW=>kZero_any x.cm L.rs L.ws W (h.cm.later hW) hf.n hf.m
 have x4:=H0.c 0 4 rfl rfl;have x5:=H0.c 0 5 rfl rfl;have x6:=H0.c 0 6 rfl rfl;have x7:=H0.c 0 7 rfl rfl;have x8:=H0.c 0 8 rfl rfl;have x9:=H0.c 0 9 rfl rfl;have x10:=H0.c 0 10 rfl rfl;have x11:=H0.c 0 11 rfl rfl;have x12:=H0.c 0 12 rfl rfl;have x13:=H0.c 0 13 rfl rfl;have x14:=H0.c 0 14 rfl rfl;have x15:=H0.c 0 15 rfl rfl;have x16:=H0.c 0 16 rfl rfl
 clear h hf hU
 unfold voteB
 generalize formCm (cmT x.cm L.rs L.ws) = FB at *
 generalize zeroCM x.cm L.rs L.ws = Z at *
 cases hh : x.has
 ·rw [if_neg (by decide)]
  clear cF cB
  rcases id_cases ((x.vr : Nat) : Int) x.vn 0 0 with ⟨e,q2,q3⟩ | ⟨e,q2⟩ | ⟨e,q2,q3⟩
  ·rw [e]
   go_enter Tryz.func57,Tryz.ntmps57
   go_wp2_with (go_at_call 83;((with_reducible refine (cS _ H0.out.bel).mono ?_);rintro e w1 ⟨rfl,hb1⟩;have H1:=hid (H0.out.below hb1)))
   go_ret
   exact ⟨rfl,H1.out.bel⟩
  ·rw [e]
   clear cS
   go_enter Tryz.func57,Tryz.ntmps57
   go_wp2
   go_ret
   exact ⟨rfl,H0.out.bel⟩
  ·rw [e]
   clear cS
   go_enter Tryz.func57,Tryz.ntmps57
   go_wp2
   go_ret
   exact ⟨rfl,H0.out.bel⟩
 ·rw [if_pos rfl]
  clear cS
  cases hB : formB x.vn
  ·rw [hB] at cB
   go_enter Tryz.func57,Tryz.ntmps57
   go_wp2_with (go_at_call 56;((with_reducible refine (cB _).mono ?_);rintro e w1 ⟨rfl,hb1⟩;have H1:=hid (H0.out.below hb1)))
   go_ret
   exact ⟨rfl,H1.out.bel⟩
  ·rw [hB] at cB
   go_enter Tryz.func57,Tryz.ntmps57
   go_wp2_with (first | (go_at_call 56;((with_reducible refine (cB _).mono ?_);rintro e w1 ⟨rfl,hb1⟩;have H1:=hid (H0.out.below hb1);(clear x4 x5 x6 x7 x8 x9 x10 x11 x12 x13 x14 x15 x16);have x4:=H1.c 0 4 rfl rfl;have x5:=H1.c 0 5 rfl rfl;have x6:=H1.c 0 6 rfl rfl;have x7:=H1.c 0 7 rfl rfl;have x8:=H1.c 0 8 rfl rfl;have x9:=H1.c 0 9 rfl rfl;have x10:=H1.c 0 10 rfl rfl;have x11:=H1.c 0 11 rfl rfl;have x12:=H1.c 0 12 rfl rfl;have x13:=H1.c 0 13 rfl rfl;have x14:=H1.c 0 14 rfl rfl;have x15:=H1.c 0 15 rfl rfl;have x16:=H1.c 0 16 rfl rfl)) | (go_at_call 58;((with_reducible refine (cF _ H1.out.bel).mono ?_);rintro e w2 ⟨rfl,hb2⟩;have H2:=hid (H1.out.below hb2))))
   go_ret
   exact ⟨rfl,H2.out.bel⟩
/-- The letters' numbers; whether the field of a letter is well. -/
noncomputable def wellF (x : MgM) (L : MgL) (c : Nat) : Bool :=
 if c = 98 then formB x.bn else if c = 115 then decide (0≤x.sl) && decide (x.sl≤1000000) else if c = 104 then voteB x L
 else if c = 99 then formCm (cmT x.cm L.rs L.ws) else if c = 116 then formT formedB (txT (x.s,x.q) L.rt L.wt) else if c = 105 then idB (x.i,x.j)
 else if c = 103 then decide (0≤x.g) && decide (x.g < 4) else if c = 110 then decide (0≤x.nu) && decide (x.nu≤2147483647)
 else if c = 107 then keyB x.key.data.toList || (decide (x.k = 13) && eqB x.key ⟨#[]⟩) else if c = 120 then formedB ⟨x.vk,x.vb,x.vt.data.toList⟩
 else if c = 101 then decide (0≤x.er) && decide (x.er≤11) else if c = 100 then decide (x.dn≤59900) else true
theorem well_b (x : MgM) (L : MgL) (w : World) :
  Calls Tryz.prog 25 #[.agg (mgV x),.int .i32 98] w (Says w (formB x.bn)):=by
 have H0:=hid ((Boxs.start w).more (mgV x) 40)
 have cF:=fun W=>bFormed_any ((x.br : Nat) : Int) x.bn W
 have x1:=H0.c 0 1 rfl rfl;have x2:=H0.c 0 2 rfl rfl
 generalize formB x.bn = B at *
 go_enter Tryz.func25,Tryz.ntmps25
 go_wp2_with (go_at_call 56;((with_reducible refine (cF _).mono ?_);rintro e w1 ⟨rfl,hb1⟩;have H1:=hid (H0.out.below hb1)))
 go_ret
 exact ⟨rfl,H1.out.bel⟩
theorem well_h (x : MgM) (L : MgL) (w : World) (h : MgAt w x L) (hf : MgF x) (hU : Tabs w) :
  Calls Tryz.prog 25 #[.agg (mgV x),.int .i32 104] w (Says w (voteB x L)):=by
 have H0:=hid ((Boxs.start w).more (mgV x) 40)
 have cF:=fun W (hW : Below w.heap.size w W)=>mVote_any x L W (h.later hW) hf (hU.below hW)
 have xW:=hid ((H0.g 0 rfl).ldM)
 generalize voteB x L = B at *
 clear h hf hU
 go_enter Tryz.func25,Tryz.ntmps25
 go_wp2_with (first | (refine wpList_load_at rfl 40 _ rfl _ _ rfl xW.out ?_) | (go_at_call 57;((with_reducible refine (cF _ H0.out.bel).mono ?_);rintro e w1 ⟨rfl,hb1⟩;have H1:=hid (H0.out.below hb1))))
 go_ret
 exact ⟨rfl,H1.out.bel⟩
theorem well_c (x : MgM) (L : MgL) (w : World) (h : MgAt w x L) (hf : MgF x) (hU : Tabs w) :
  Calls Tryz.prog 25 #[.agg (mgV x),.int .i32 99] w (Says w (formCm (cmT x.cm L.rs L.ws))):=by
 have H0:=hid ((Boxs.start w).more (mgV x) 40)
 have cF:=fun W (hW : Below w.heap.size w W)=>kFormed_any x.cm L.rs L.ws W (h.cm.later hW) hf.n hf.m (hU.below hW)
 have x7:=H0.c 0 7 rfl rfl;have x8:=H0.c 0 8 rfl rfl;have x9:=H0.c 0 9 rfl rfl;have x10:=H0.c 0 10 rfl rfl;have x11:=H0.c 0 11 rfl rfl;have x12:=H0.c 0 12 rfl rfl;have x13:=H0.c 0 13 rfl rfl;have x14:=H0.c 0 14 rfl rfl;have x15:=H0.c 0 15 rfl rfl;have x16:=H0.c 0 16 rfl rfl
 generalize formCm (cmT x.cm L.rs L.ws) = B at *
 clear h hf hU
 go_enter Tryz.func25,Tryz.ntmps25
 go_wp2_with (go_at_call 58;((with_reducible refine (cF _ H0.out.bel).mono ?_);rintro e w1 ⟨rfl,hb1⟩;have H1:=hid (H0.out.below hb1)))
 go_ret
 exact ⟨rfl,H1.out.bel⟩
theorem well_t (x : MgM) (L : MgL) (w : World) (h : MgAt w x L) (hf : MgF x) (hU : Tabs w) :
  Calls Tryz.prog 25 #[.agg (mgV x),.int .i32 116] w (Says w (formT formedB (txT (x.s,x.q) L.rt L.wt))):=by
 have H0:=hid ((Boxs.start w).more (mgV x) 40)
 have cF:=fun W (hW : Below w.heap.size w W)=>tFormed_any x.s x.q x.a x.n x.c x.b x.m x.d L.rt L.wt W (h.tx.later hW) (hU.below hW)
 have x17:=H0.c 0 17 rfl rfl;have x18:=H0.c 0 18 rfl rfl;have x19:=H0.c 0 19 rfl rfl;have x20:=H0.c 0 20 rfl rfl
 generalize formT formedB (txT (x.s,x.q) L.rt L.wt) = B at *
 clear h hf hU
 go_enter Tryz.func25,Tryz.ntmps25
 go_wp2_with (go_at_call 59;((with_reducible refine (cF _ H0.out.bel).mono ?_);rintro e w1 ⟨rfl,hb1⟩;have H1:=hid (H0.out.below hb1)))
 go_ret
 exact ⟨rfl,H1.out.bel⟩
theorem well_i (x : MgM) (L : MgL) (w : World) :
  Calls Tryz.prog 25 #[.agg (mgV x),.int .i32 105] w (Says w (idB (x.i,x.j))):=by
 have H0:=hid ((Boxs.start w).more (mgV x) 40)
 have cF:=fun W=>tId_any x.i x.j W
 have x21:=H0.c 0 21 rfl rfl;have x22:=H0.c 0 22 rfl rfl
 generalize idB (x.i,x.j) = B at *
 go_enter Tryz.func25,Tryz.ntmps25
 go_wp2_with (go_at_call 60;((with_reducible refine (cF _).mono ?_);rintro e w1 ⟨rfl,hb1⟩;have H1:=hid (H0.out.below hb1)))
 go_ret
 exact ⟨rfl,H1.out.bel⟩
theorem well_x (x : MgM) (L : MgL) (w : World) (h : MgAt w x L) (hf : MgF x) (hU : Tabs w) :
  Calls Tryz.prog 25 #[.agg (mgV x),.int .i32 120] w (Says w (formedB ⟨x.vk,x.vb,x.vt.data.toList⟩)):=by
 have H0:=hid ((Boxs.start w).more (mgV x) 40)
 have cF:=fun W (hW : Below w.heap.size w W)=>formed_any x.vk x.vb x.vt W h.nb.vb h.nb.vt (hU.below hW)
 have x29:=H0.c 0 29 rfl rfl;have x30:=H0.c 0 30 rfl rfl;have x31:=H0.c 0 31 rfl rfl
 generalize formedB ⟨x.vk,x.vb,x.vt.data.toList⟩ = B at *
 clear h hf hU
 go_enter Tryz.func25,Tryz.ntmps25
 go_wp2_with (go_at_call 62;((with_reducible refine (cF _ H0.out.bel).mono ?_);rintro e w1 ⟨rfl,hb1⟩;have H1:=hid (H0.out.below hb1)))
 go_ret
 exact ⟨rfl,H1.out.bel⟩
theorem well_s (x : MgM) (L : MgL) (w : World) :
  Calls Tryz.prog 25 #[.agg (mgV x),.int .i32 115] w (Says w (decide (0≤x.sl) && decide (x.sl≤1000000))):=by
 have H0:=hid ((Boxs.start w).more (mgV x) 40)
 have x3:=H0.c 0 3 rfl rfl
 by_cases h1 : 0≤x.sl
 ·by_cases h2 : x.sl≤1000000
  ·rw [decide_eq_true h1,decide_eq_true h2]
   go_enter Tryz.func25,Tryz.ntmps25
   go_wp2
   go_ret
   exact ⟨rfl,H0.out.bel⟩
  ·rw [decide_eq_true h1,decide_eq_false h2]
   have h3 : decide (x.sl≤1000000) = false:=decide_eq_false h2
   go_enter Tryz.func25,Tryz.ntmps25
   go_wp2
   go_ret
   exact ⟨rfl,H0.out.bel⟩
 ·have h3 : decide (0≤x.sl) = false:=decide_eq_false h1
  rw [h3]
  go_enter Tryz.func25,Tryz.ntmps25
  go_wp2
  go_ret
  exact ⟨rfl,H0.out.bel⟩
theorem well_g (x : MgM) (L : MgL) (w : World) :
  Calls Tryz.prog 25 #[.agg (mgV x),.int .i32 103] w (Says w (decide (0≤x.g) && decide (x.g < 4))):=by
 have H0:=hid ((Boxs.start w).more (mgV x) 40)
 have x23:=H0.c 0 23 rfl rfl
 by_cases h1 : 0≤x.g
 ·by_cases h2 : x.g < 4
  ·rw [decide_eq_true h1,decide_eq_true h2]
   go_enter Tryz.func25,Tryz.ntmps25
   go_wp2
   go_ret
   exact ⟨rfl,H0.out.bel⟩
  ·rw [decide_eq_true h1,decide_eq_false h2]
   have h3 : decide (x.g < 4) = false:=decide_eq_false h2
   go_enter Tryz.func25,Tryz.ntmps25
   go_wp2
   go_ret
   exact ⟨rfl,H0.out.bel⟩
 ·have h3 : decide (0≤x.g) = false:=decide_eq_false h1
  rw [h3]
  go_enter Tryz.func25,Tryz.ntmps25
  go_wp2
  go_ret
  exact ⟨rfl,H0.out.bel⟩
theorem well_n (x : MgM) (L : MgL) (w : World) :
  Calls Tryz.prog 25 #[.agg (mgV x),.int .i32 110] w (Says w (decide (0≤x.nu) && decide (x.nu≤2147483647))):=by
 have H0:=hid ((Boxs.start w).more (mgV x) 40)
 have x26:=H0.c 0 26 rfl rfl
 by_cases h1 : 0≤x.nu
 ·by_cases h2 : x.nu≤2147483647
  ·rw [decide_eq_true h1,decide_eq_true h2]
   go_enter Tryz.func25,Tryz.ntmps25
   go_wp2
   go_ret
   exact ⟨rfl,H0.out.bel⟩
  ·rw [decide_eq_true h1,decide_eq_false h2]
   have h3 : decide (x.nu≤2147483647) = false:=decide_eq_false h2
   go_enter Tryz.func25,Tryz.ntmps25
   go_wp2
   go_ret
   exact ⟨rfl,H0.out.bel⟩
 ·have h3 : decide (0≤x.nu) = false:=decide_eq_false h1
  rw [h3]
  go_enter Tryz.func25,Tryz.ntmps25
  go_wp2
  go_ret
  exact ⟨rfl,H0.out.bel⟩
theorem well_e (x : MgM) (L : MgL) (w : World) :
  Calls Tryz.prog 25 #[.agg (mgV x),.int .i32 101] w (Says w (decide (0≤x.er) && decide (x.er≤11))):=by
 have H0:=hid ((Boxs.start w).more (mgV x) 40)
 have x32:=H0.c 0 32 rfl rfl
 by_cases h1 : 0≤x.er
 ·by_cases h2 : x.er≤11
  ·rw [decide_eq_true h1,decide_eq_true h2]
   go_enter Tryz.func25,Tryz.ntmps25
   go_wp2
   go_ret
   exact ⟨rfl,H0.out.bel⟩
  ·rw [decide_eq_true h1,decide_eq_false h2]
   have h3 : decide (x.er≤11) = false:=decide_eq_false h2
   go_enter Tryz.func25,Tryz.ntmps25
   go_wp2
   go_ret
   exact ⟨rfl,H0.out.bel⟩
 ·have h3 : decide (0≤x.er) = false:=decide_eq_false h1
  rw [h3]
  go_enter Tryz.func25,Tryz.ntmps25
  go_wp2
  go_ret
  exact ⟨rfl,H0.out.bel⟩
theorem well_k (x : MgM) (L : MgL) (w : World) (h : MgAt w x L) :
  Calls Tryz.prog 25 #[.agg (mgV x),.int .i32 107] w (Says w (keyB x.key.data.toList || (decide (x.k = 13) && eqB x.key ⟨#[]⟩))):=by
 have H0:=hid ((Boxs.start w).more (mgV x) 40)
 have cK:=fun W=>key_any x.key W h.nb.key
 have x0:=H0.c 0 0 rfl rfl;have x27:=H0.c 0 27 rfl rfl
 clear h
 have e0 : ([] : List UInt8) = (⟨#[]⟩ : ByteArray).toList:=by rw [ByteArray.toList_eq]
 cases hK : keyB x.key.data.toList
 ·rw [hK] at cK
  by_cases h1 : x.k = 13
  ·have q1 : (x.k == 13) = true:=by simpa using h1
   by_cases h2 : x.key = ⟨#[]⟩
   ·have q2 : (x.key.toList == []) = true:=by rw [e0,bytes_beq,eqB_yes h2]
    rw [decide_eq_true h1,eqB_yes h2]
    clear h1 h2 e0
    go_enter Tryz.func25,Tryz.ntmps25
    go_wp2_with (go_at_call 61;((with_reducible refine (cK _).mono ?_);rintro e w1 ⟨rfl,hb1⟩;have H1:=hid (H0.out.below hb1);(clear x0 x27);have x0:=H1.c 0 0 rfl rfl;have x27:=H1.c 0 27 rfl rfl))
    go_ret
    exact ⟨rfl,H1.out.bel⟩
   ·have q2 : (x.key.toList == []) = false:=by rw [e0,bytes_beq,eqB_no h2]
    rw [decide_eq_true h1,eqB_no h2]
    clear h1 h2 e0
    go_enter Tryz.func25,Tryz.ntmps25
    go_wp2_with (go_at_call 61;((with_reducible refine (cK _).mono ?_);rintro e w1 ⟨rfl,hb1⟩;have H1:=hid (H0.out.below hb1);(clear x0 x27);have x0:=H1.c 0 0 rfl rfl;have x27:=H1.c 0 27 rfl rfl))
    go_ret
    exact ⟨rfl,H1.out.bel⟩
  ·have q1 : (x.k == 13) = false:=by simpa using h1
   rw [decide_eq_false h1]
   clear h1 e0
   go_enter Tryz.func25,Tryz.ntmps25
   go_wp2_with (go_at_call 61;((with_reducible refine (cK _).mono ?_);rintro e w1 ⟨rfl,hb1⟩;have H1:=hid (H0.out.below hb1);(clear x0 x27);have x0:=H1.c 0 0 rfl rfl;have x27:=H1.c 0 27 rfl rfl))
   go_ret
   exact ⟨rfl,H1.out.bel⟩
 ·rw [hK] at cK
  clear e0
  go_enter Tryz.func25,Tryz.ntmps25
  go_wp2_with (go_at_call 61;((with_reducible refine (cK _).mono ?_);rintro e w1 ⟨rfl,hb1⟩;have H1:=hid (H0.out.below hb1)))
  go_ret
  exact ⟨rfl,H1.out.bel⟩
theorem well_d (x : MgM) (L : MgL) (w : World) :
  Calls Tryz.prog 25 #[.agg (mgV x),.int .i32 100] w (Says w (decide (x.dn≤59900))):=by
 have H0:=hid ((Boxs.start w).more (mgV x) 40)
 have x33:=H0.c 0 33 rfl rfl
 by_cases h1 : x.dn≤59900
 ·have i1 : ((x.dn : Nat) : Int)≤59900:=by omega
  rw [decide_eq_true h1]
  go_enter Tryz.func25,Tryz.ntmps25
  go_wp2
  go_ret
  exact ⟨rfl,H0.out.bel⟩
 ·have i1 : ¬ ((x.dn : Nat) : Int)≤59900:=by omega
  have i2 : decide (((x.dn : Nat) : Int)≤59900) = false:=decide_eq_false i1
  rw [decide_eq_false h1]
  go_enter Tryz.func25,Tryz.ntmps25
  go_wp2
  go_ret
  exact ⟨rfl,H0.out.bel⟩
theorem well_p (x : MgM) (L : MgL) (w : World) :
  Calls Tryz.prog 25 #[.agg (mgV x),.int .i32 112] w (Says w (true)):=by
 have H0:=hid ((Boxs.start w).more (mgV x) 40)
 go_enter Tryz.func25,Tryz.ntmps25
 go_wp2
 go_ret
 exact ⟨rfl,H0.out.bel⟩
theorem well_y (x : MgM) (L : MgL) (w : World) :
  Calls Tryz.prog 25 #[.agg (mgV x),.int .i32 121] w (Says w (true)):=by
 have H0:=hid ((Boxs.start w).more (mgV x) 40)
 go_enter Tryz.func25,Tryz.ntmps25
 go_wp2
 go_ret
 exact ⟨rfl,H0.out.bel⟩
theorem well_v (x : MgM) (L : MgL) (w : World) :
  Calls Tryz.prog 25 #[.agg (mgV x),.int .i32 118] w (Says w (true)):=by
 have H0:=hid ((Boxs.start w).more (mgV x) 40)
 go_enter Tryz.func25,Tryz.ntmps25
 go_wp2
 go_ret
 exact ⟨rfl,H0.out.bel⟩
theorem well_any (x : MgM) (L : MgL) (c : Nat) (w : World) (hc : IsLet c) (h : MgAt w x L) (hf : MgF x) (hU : Tabs w) :
  Calls Tryz.prog 25 #[.agg (mgV x),.int .i32 ((c : Nat) : Int)] w (Says w (wellF x L c)):=by
 rcases hc with rfl | rfl | rfl | rfl | rfl | rfl | rfl | rfl | rfl | rfl | rfl | rfl | rfl | rfl | rfl
 ·exact well_b x L w
 ·exact well_s x L w
 ·exact well_h x L w h hf hU
 ·exact well_c x L w h hf hU
 ·exact well_t x L w h hf hU
 ·exact well_i x L w
 ·exact well_g x L w
 ·exact well_p x L w
 ·exact well_y x L w
 ·exact well_n x L w
 ·exact well_k x L w h
 ·exact well_v x L w
 ·exact well_x x L w h hf hU
 ·exact well_e x L w
 ·exact well_d x L w
end Go.Proofs.YtigimmbdlhginaaGreatDoor
