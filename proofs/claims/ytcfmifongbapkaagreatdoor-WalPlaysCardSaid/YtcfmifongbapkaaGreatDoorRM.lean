/- Contracts of wal.Same and of the document's. Conditions: the records' lists lie in memory, and are no longer than a million. Plain mathematics of keys that rise, and of formed transactions in memory. No condition. What came in, opened: an array of two integers; a slice of bytes. What came in, opened: lists of integers and of texts, also as fields of a struct. Contracts of config's own small functions: sizes, keys, order, counts and sums. Conditions: the lists lie in memory. -/
import Derived.Test.YtcfmifongbapkaaGreatDoorRK
import Derived.Test.YtcfmifongbapkaaGreatDoorRL
import Derived.Laws.ResultCell
import Derived.Test.YtcfmifongbapkaaGreatDoorRE
import Derived.Test.YtcfmifongbapkaaGreatDoorRC
import Derived.Test.YtcfmifongbapkaaGreatDoorRB
import Derived.OpenShut
import Derived.ChangeOld
import Derived.ProofKit
import Derived.Test.YtcfmifongbapkaaGreatDoorRD
import Derived.Deep.Slices
import Derived.Tactics2
import Derived.Deep.DeepCutAuto
import Derived.Deep.QuietTactic
import Derived.BigQuiet
import Derived.WalkLawsBesides
namespace Go.Proofs.YtcfmifongbapkaaGreatDoor
set_option maxRecDepth 100000
set_option maxHeartbeats 4000000
open Go.RowKit
open Go.Lib (hid)
set_option linter.unusedVariables false
set_option linter.unusedSimpArgs false
theorem wSame_any (x y : RcM) (L L' : RcL) (w : World) (h : RcAt w x L) (h' : RcAt w y L') (hx : RcF x) (hy : RcF y) :
  Calls Tryz.prog 17 #[.agg (rcV x),.agg (rcV y)] w (Says w (sameR x y L L')):=by
 have H0:=hid (((Boxs.start w).more (rcV x) 36).more (rcV y) 36)
 have hs : (w.alloc (.cells (rcV x) 36)).heap.size = w.heap.size + 1:=by simp
 rw [hs] at H0
 clear hs
 have cS : ∀ W,Below w.heap.size w W→Calls Tryz.prog 54 #[.agg (cmV x.cm),.agg (cmV y.cm)] W (Says W (sameC x.cm y.cm L.rs L'.rs L.ws L'.ws)):=fun W hW=>kSame_any x.cm y.cm L.rs L'.rs L.ws L'.ws W (h.cm.later hW) (h'.cm.later hW) hx.n hx.m
 have cE : ∀ W,Below w.heap.size w W→Calls Tryz.prog 55 #[.slice x.da x.dn x.dc,.slice y.da y.dn y.dc] W (Says W (eqB L.dl L'.dl)):=fun W hW=>(bequal_any x.da y.da x.dn y.dn x.dc y.dc w.heap.size w.heap.size L.dl L'.dl W (h.da.below hW (Nat.le_refl _)) (h'.da.below hW (Nat.le_refl _))).mono fun _ _ h=>⟨h.1,h.2 ▸ Below.refl _ _⟩
 clear h h' hx hy
 unfold sameR
 generalize sameC x.cm y.cm L.rs L'.rs L.ws L'.ws = SC at *
 generalize eqB L.dl L'.dl = SD at *
 cases q0 : (x.k == y.k)
 ·have x0:=(H0.out.get 1 _ _ _ rfl).cell 0 _ rfl;have x1:=(H0.out.get 1 _ _ _ rfl).cell 1 _ rfl;have x2:=(H0.out.get 1 _ _ _ rfl).cell 2 _ rfl;have x3:=(H0.out.get 1 _ _ _ rfl).cell 3 _ rfl;have x4:=(H0.out.get 1 _ _ _ rfl).cell 4 _ rfl;have x5:=(H0.out.get 1 _ _ _ rfl).cell 5 _ rfl;have x6:=(H0.out.get 1 _ _ _ rfl).cell 6 _ rfl;have x7:=(H0.out.get 1 _ _ _ rfl).cell 7 _ rfl;have x8:=(H0.out.get 1 _ _ _ rfl).cell 8 _ rfl;have x9:=(H0.out.get 1 _ _ _ rfl).cell 9 _ rfl;have x10:=(H0.out.get 1 _ _ _ rfl).cell 10 _ rfl;have x11:=(H0.out.get 1 _ _ _ rfl).cell 11 _ rfl;have x12:=(H0.out.get 1 _ _ _ rfl).cell 12 _ rfl;have x13:=(H0.out.get 1 _ _ _ rfl).cell 13 _ rfl;have x14:=(H0.out.get 1 _ _ _ rfl).cell 14 _ rfl;have y0:=(H0.out.get 0 _ _ _ rfl).cell 0 _ rfl;have y1:=(H0.out.get 0 _ _ _ rfl).cell 1 _ rfl;have y2:=(H0.out.get 0 _ _ _ rfl).cell 2 _ rfl;have y3:=(H0.out.get 0 _ _ _ rfl).cell 3 _ rfl;have y4:=(H0.out.get 0 _ _ _ rfl).cell 4 _ rfl;have y5:=(H0.out.get 0 _ _ _ rfl).cell 5 _ rfl;have y6:=(H0.out.get 0 _ _ _ rfl).cell 6 _ rfl;have y7:=(H0.out.get 0 _ _ _ rfl).cell 7 _ rfl;have y8:=(H0.out.get 0 _ _ _ rfl).cell 8 _ rfl;have y9:=(H0.out.get 0 _ _ _ rfl).cell 9 _ rfl;have y10:=(H0.out.get 0 _ _ _ rfl).cell 10 _ rfl;have y11:=(H0.out.get 0 _ _ _ rfl).cell 11 _ rfl;have y12:=(H0.out.get 0 _ _ _ rfl).cell 12 _ rfl;have y13:=(H0.out.get 0 _ _ _ rfl).cell 13 _ rfl;have y14:=(H0.out.get 0 _ _ _ rfl).cell 14 _ rfl
  clear cS cE
  go_enter Tryz.func17,Tryz.ntmps17
  go_wp2
  go_ret
  exact ⟨by first | rfl | simp [*],H0.out.bel⟩
 rcases id_cases ((x.br : Nat) : Int) x.bn ((y.br : Nat) : Int) y.bn with ⟨e,q1,q2⟩ | ⟨e,q1⟩ | ⟨e,q1,q2⟩
 rotate_left
 ·rw [e]
  have x0:=(H0.out.get 1 _ _ _ rfl).cell 0 _ rfl;have x1:=(H0.out.get 1 _ _ _ rfl).cell 1 _ rfl;have x2:=(H0.out.get 1 _ _ _ rfl).cell 2 _ rfl;have x3:=(H0.out.get 1 _ _ _ rfl).cell 3 _ rfl;have x4:=(H0.out.get 1 _ _ _ rfl).cell 4 _ rfl;have x5:=(H0.out.get 1 _ _ _ rfl).cell 5 _ rfl;have x6:=(H0.out.get 1 _ _ _ rfl).cell 6 _ rfl;have x7:=(H0.out.get 1 _ _ _ rfl).cell 7 _ rfl;have x8:=(H0.out.get 1 _ _ _ rfl).cell 8 _ rfl;have x9:=(H0.out.get 1 _ _ _ rfl).cell 9 _ rfl;have x10:=(H0.out.get 1 _ _ _ rfl).cell 10 _ rfl;have x11:=(H0.out.get 1 _ _ _ rfl).cell 11 _ rfl;have x12:=(H0.out.get 1 _ _ _ rfl).cell 12 _ rfl;have x13:=(H0.out.get 1 _ _ _ rfl).cell 13 _ rfl;have x14:=(H0.out.get 1 _ _ _ rfl).cell 14 _ rfl;have y0:=(H0.out.get 0 _ _ _ rfl).cell 0 _ rfl;have y1:=(H0.out.get 0 _ _ _ rfl).cell 1 _ rfl;have y2:=(H0.out.get 0 _ _ _ rfl).cell 2 _ rfl;have y3:=(H0.out.get 0 _ _ _ rfl).cell 3 _ rfl;have y4:=(H0.out.get 0 _ _ _ rfl).cell 4 _ rfl;have y5:=(H0.out.get 0 _ _ _ rfl).cell 5 _ rfl;have y6:=(H0.out.get 0 _ _ _ rfl).cell 6 _ rfl;have y7:=(H0.out.get 0 _ _ _ rfl).cell 7 _ rfl;have y8:=(H0.out.get 0 _ _ _ rfl).cell 8 _ rfl;have y9:=(H0.out.get 0 _ _ _ rfl).cell 9 _ rfl;have y10:=(H0.out.get 0 _ _ _ rfl).cell 10 _ rfl;have y11:=(H0.out.get 0 _ _ _ rfl).cell 11 _ rfl;have y12:=(H0.out.get 0 _ _ _ rfl).cell 12 _ rfl;have y13:=(H0.out.get 0 _ _ _ rfl).cell 13 _ rfl;have y14:=(H0.out.get 0 _ _ _ rfl).cell 14 _ rfl
  clear cS cE
  go_enter Tryz.func17,Tryz.ntmps17
  go_wp2
  go_ret
  exact ⟨by first | rfl | simp [*],H0.out.bel⟩
 ·rw [e]
  have x0:=(H0.out.get 1 _ _ _ rfl).cell 0 _ rfl;have x1:=(H0.out.get 1 _ _ _ rfl).cell 1 _ rfl;have x2:=(H0.out.get 1 _ _ _ rfl).cell 2 _ rfl;have x3:=(H0.out.get 1 _ _ _ rfl).cell 3 _ rfl;have x4:=(H0.out.get 1 _ _ _ rfl).cell 4 _ rfl;have x5:=(H0.out.get 1 _ _ _ rfl).cell 5 _ rfl;have x6:=(H0.out.get 1 _ _ _ rfl).cell 6 _ rfl;have x7:=(H0.out.get 1 _ _ _ rfl).cell 7 _ rfl;have x8:=(H0.out.get 1 _ _ _ rfl).cell 8 _ rfl;have x9:=(H0.out.get 1 _ _ _ rfl).cell 9 _ rfl;have x10:=(H0.out.get 1 _ _ _ rfl).cell 10 _ rfl;have x11:=(H0.out.get 1 _ _ _ rfl).cell 11 _ rfl;have x12:=(H0.out.get 1 _ _ _ rfl).cell 12 _ rfl;have x13:=(H0.out.get 1 _ _ _ rfl).cell 13 _ rfl;have x14:=(H0.out.get 1 _ _ _ rfl).cell 14 _ rfl;have y0:=(H0.out.get 0 _ _ _ rfl).cell 0 _ rfl;have y1:=(H0.out.get 0 _ _ _ rfl).cell 1 _ rfl;have y2:=(H0.out.get 0 _ _ _ rfl).cell 2 _ rfl;have y3:=(H0.out.get 0 _ _ _ rfl).cell 3 _ rfl;have y4:=(H0.out.get 0 _ _ _ rfl).cell 4 _ rfl;have y5:=(H0.out.get 0 _ _ _ rfl).cell 5 _ rfl;have y6:=(H0.out.get 0 _ _ _ rfl).cell 6 _ rfl;have y7:=(H0.out.get 0 _ _ _ rfl).cell 7 _ rfl;have y8:=(H0.out.get 0 _ _ _ rfl).cell 8 _ rfl;have y9:=(H0.out.get 0 _ _ _ rfl).cell 9 _ rfl;have y10:=(H0.out.get 0 _ _ _ rfl).cell 10 _ rfl;have y11:=(H0.out.get 0 _ _ _ rfl).cell 11 _ rfl;have y12:=(H0.out.get 0 _ _ _ rfl).cell 12 _ rfl;have y13:=(H0.out.get 0 _ _ _ rfl).cell 13 _ rfl;have y14:=(H0.out.get 0 _ _ _ rfl).cell 14 _ rfl
  clear cS cE
  go_enter Tryz.func17,Tryz.ntmps17
  go_wp2
  go_ret
  exact ⟨by first | rfl | simp [*],H0.out.bel⟩
 rw [e]
 clear e
 cases q3 : (x.sl == y.sl)
 ·have x0:=(H0.out.get 1 _ _ _ rfl).cell 0 _ rfl;have x1:=(H0.out.get 1 _ _ _ rfl).cell 1 _ rfl;have x2:=(H0.out.get 1 _ _ _ rfl).cell 2 _ rfl;have x3:=(H0.out.get 1 _ _ _ rfl).cell 3 _ rfl;have x4:=(H0.out.get 1 _ _ _ rfl).cell 4 _ rfl;have x5:=(H0.out.get 1 _ _ _ rfl).cell 5 _ rfl;have x6:=(H0.out.get 1 _ _ _ rfl).cell 6 _ rfl;have x7:=(H0.out.get 1 _ _ _ rfl).cell 7 _ rfl;have x8:=(H0.out.get 1 _ _ _ rfl).cell 8 _ rfl;have x9:=(H0.out.get 1 _ _ _ rfl).cell 9 _ rfl;have x10:=(H0.out.get 1 _ _ _ rfl).cell 10 _ rfl;have x11:=(H0.out.get 1 _ _ _ rfl).cell 11 _ rfl;have x12:=(H0.out.get 1 _ _ _ rfl).cell 12 _ rfl;have x13:=(H0.out.get 1 _ _ _ rfl).cell 13 _ rfl;have x14:=(H0.out.get 1 _ _ _ rfl).cell 14 _ rfl;have y0:=(H0.out.get 0 _ _ _ rfl).cell 0 _ rfl;have y1:=(H0.out.get 0 _ _ _ rfl).cell 1 _ rfl;have y2:=(H0.out.get 0 _ _ _ rfl).cell 2 _ rfl;have y3:=(H0.out.get 0 _ _ _ rfl).cell 3 _ rfl;have y4:=(H0.out.get 0 _ _ _ rfl).cell 4 _ rfl;have y5:=(H0.out.get 0 _ _ _ rfl).cell 5 _ rfl;have y6:=(H0.out.get 0 _ _ _ rfl).cell 6 _ rfl;have y7:=(H0.out.get 0 _ _ _ rfl).cell 7 _ rfl;have y8:=(H0.out.get 0 _ _ _ rfl).cell 8 _ rfl;have y9:=(H0.out.get 0 _ _ _ rfl).cell 9 _ rfl;have y10:=(H0.out.get 0 _ _ _ rfl).cell 10 _ rfl;have y11:=(H0.out.get 0 _ _ _ rfl).cell 11 _ rfl;have y12:=(H0.out.get 0 _ _ _ rfl).cell 12 _ rfl;have y13:=(H0.out.get 0 _ _ _ rfl).cell 13 _ rfl;have y14:=(H0.out.get 0 _ _ _ rfl).cell 14 _ rfl
  clear cS cE
  go_enter Tryz.func17,Tryz.ntmps17
  go_wp2
  go_ret
  exact ⟨by first | rfl | simp [*],H0.out.bel⟩
 cases SC
 ·have x0:=(H0.out.get 1 _ _ _ rfl).cell 0 _ rfl;have x1:=(H0.out.get 1 _ _ _ rfl).cell 1 _ rfl;have x2:=(H0.out.get 1 _ _ _ rfl).cell 2 _ rfl;have x3:=(H0.out.get 1 _ _ _ rfl).cell 3 _ rfl;have x4:=(H0.out.get 1 _ _ _ rfl).cell 4 _ rfl;have x5:=(H0.out.get 1 _ _ _ rfl).cell 5 _ rfl;have x6:=(H0.out.get 1 _ _ _ rfl).cell 6 _ rfl;have x7:=(H0.out.get 1 _ _ _ rfl).cell 7 _ rfl;have x8:=(H0.out.get 1 _ _ _ rfl).cell 8 _ rfl;have x9:=(H0.out.get 1 _ _ _ rfl).cell 9 _ rfl;have x10:=(H0.out.get 1 _ _ _ rfl).cell 10 _ rfl;have x11:=(H0.out.get 1 _ _ _ rfl).cell 11 _ rfl;have x12:=(H0.out.get 1 _ _ _ rfl).cell 12 _ rfl;have x13:=(H0.out.get 1 _ _ _ rfl).cell 13 _ rfl;have x14:=(H0.out.get 1 _ _ _ rfl).cell 14 _ rfl;have y0:=(H0.out.get 0 _ _ _ rfl).cell 0 _ rfl;have y1:=(H0.out.get 0 _ _ _ rfl).cell 1 _ rfl;have y2:=(H0.out.get 0 _ _ _ rfl).cell 2 _ rfl;have y3:=(H0.out.get 0 _ _ _ rfl).cell 3 _ rfl;have y4:=(H0.out.get 0 _ _ _ rfl).cell 4 _ rfl;have y5:=(H0.out.get 0 _ _ _ rfl).cell 5 _ rfl;have y6:=(H0.out.get 0 _ _ _ rfl).cell 6 _ rfl;have y7:=(H0.out.get 0 _ _ _ rfl).cell 7 _ rfl;have y8:=(H0.out.get 0 _ _ _ rfl).cell 8 _ rfl;have y9:=(H0.out.get 0 _ _ _ rfl).cell 9 _ rfl;have y10:=(H0.out.get 0 _ _ _ rfl).cell 10 _ rfl;have y11:=(H0.out.get 0 _ _ _ rfl).cell 11 _ rfl;have y12:=(H0.out.get 0 _ _ _ rfl).cell 12 _ rfl;have y13:=(H0.out.get 0 _ _ _ rfl).cell 13 _ rfl;have y14:=(H0.out.get 0 _ _ _ rfl).cell 14 _ rfl
  clear cE
  go_enter Tryz.func17,Tryz.ntmps17
  go_wp2_with (go_at_call 54;((with_reducible refine (cS _ H0.out.bel).mono ?_);rintro e w1 ⟨rfl,hb1⟩;have H1:=hid (H0.out.below hb1);(clear x0 x1 x2 x3 x4 x5 x6 x7 x8 x9 x10 x11 x12 x13 x14 y0 y1 y2 y3 y4 y5 y6 y7 y8 y9 y10 y11 y12 y13 y14);have x0:=(H1.out.get 1 _ _ _ rfl).cell 0 _ rfl;have x1:=(H1.out.get 1 _ _ _ rfl).cell 1 _ rfl;have x2:=(H1.out.get 1 _ _ _ rfl).cell 2 _ rfl;have x3:=(H1.out.get 1 _ _ _ rfl).cell 3 _ rfl;have x4:=(H1.out.get 1 _ _ _ rfl).cell 4 _ rfl;have x5:=(H1.out.get 1 _ _ _ rfl).cell 5 _ rfl;have x6:=(H1.out.get 1 _ _ _ rfl).cell 6 _ rfl;have x7:=(H1.out.get 1 _ _ _ rfl).cell 7 _ rfl;have x8:=(H1.out.get 1 _ _ _ rfl).cell 8 _ rfl;have x9:=(H1.out.get 1 _ _ _ rfl).cell 9 _ rfl;have x10:=(H1.out.get 1 _ _ _ rfl).cell 10 _ rfl;have x11:=(H1.out.get 1 _ _ _ rfl).cell 11 _ rfl;have x12:=(H1.out.get 1 _ _ _ rfl).cell 12 _ rfl;have x13:=(H1.out.get 1 _ _ _ rfl).cell 13 _ rfl;have x14:=(H1.out.get 1 _ _ _ rfl).cell 14 _ rfl;have y0:=(H1.out.get 0 _ _ _ rfl).cell 0 _ rfl;have y1:=(H1.out.get 0 _ _ _ rfl).cell 1 _ rfl;have y2:=(H1.out.get 0 _ _ _ rfl).cell 2 _ rfl;have y3:=(H1.out.get 0 _ _ _ rfl).cell 3 _ rfl;have y4:=(H1.out.get 0 _ _ _ rfl).cell 4 _ rfl;have y5:=(H1.out.get 0 _ _ _ rfl).cell 5 _ rfl;have y6:=(H1.out.get 0 _ _ _ rfl).cell 6 _ rfl;have y7:=(H1.out.get 0 _ _ _ rfl).cell 7 _ rfl;have y8:=(H1.out.get 0 _ _ _ rfl).cell 8 _ rfl;have y9:=(H1.out.get 0 _ _ _ rfl).cell 9 _ rfl;have y10:=(H1.out.get 0 _ _ _ rfl).cell 10 _ rfl;have y11:=(H1.out.get 0 _ _ _ rfl).cell 11 _ rfl;have y12:=(H1.out.get 0 _ _ _ rfl).cell 12 _ rfl;have y13:=(H1.out.get 0 _ _ _ rfl).cell 13 _ rfl;have y14:=(H1.out.get 0 _ _ _ rfl).cell 14 _ rfl))
  go_ret
  exact ⟨by first | rfl | simp [*],H1.out.bel⟩
 ·have x0:=(H0.out.get 1 _ _ _ rfl).cell 0 _ rfl;have x1:=(H0.out.get 1 _ _ _ rfl).cell 1 _ rfl;have x2:=(H0.out.get 1 _ _ _ rfl).cell 2 _ rfl;have x3:=(H0.out.get 1 _ _ _ rfl).cell 3 _ rfl;have x4:=(H0.out.get 1 _ _ _ rfl).cell 4 _ rfl;have x5:=(H0.out.get 1 _ _ _ rfl).cell 5 _ rfl;have x6:=(H0.out.get 1 _ _ _ rfl).cell 6 _ rfl;have x7:=(H0.out.get 1 _ _ _ rfl).cell 7 _ rfl;have x8:=(H0.out.get 1 _ _ _ rfl).cell 8 _ rfl;have x9:=(H0.out.get 1 _ _ _ rfl).cell 9 _ rfl;have x10:=(H0.out.get 1 _ _ _ rfl).cell 10 _ rfl;have x11:=(H0.out.get 1 _ _ _ rfl).cell 11 _ rfl;have x12:=(H0.out.get 1 _ _ _ rfl).cell 12 _ rfl;have x13:=(H0.out.get 1 _ _ _ rfl).cell 13 _ rfl;have x14:=(H0.out.get 1 _ _ _ rfl).cell 14 _ rfl;have y0:=(H0.out.get 0 _ _ _ rfl).cell 0 _ rfl;have y1:=(H0.out.get 0 _ _ _ rfl).cell 1 _ rfl;have y2:=(H0.out.get 0 _ _ _ rfl).cell 2 _ rfl;have y3:=(H0.out.get 0 _ _ _ rfl).cell 3 _ rfl;have y4:=(H0.out.get 0 _ _ _ rfl).cell 4 _ rfl;have y5:=(H0.out.get 0 _ _ _ rfl).cell 5 _ rfl;have y6:=(H0.out.get 0 _ _ _ rfl).cell 6 _ rfl;have y7:=(H0.out.get 0 _ _ _ rfl).cell 7 _ rfl;have y8:=(H0.out.get 0 _ _ _ rfl).cell 8 _ rfl;have y9:=(H0.out.get 0 _ _ _ rfl).cell 9 _ rfl;have y10:=(H0.out.get 0 _ _ _ rfl).cell 10 _ rfl;have y11:=(H0.out.get 0 _ _ _ rfl).cell 11 _ rfl;have y12:=(H0.out.get 0 _ _ _ rfl).cell 12 _ rfl;have y13:=(H0.out.get 0 _ _ _ rfl).cell 13 _ rfl;have y14:=(H0.out.get 0 _ _ _ rfl).cell 14 _ rfl
  go_enter Tryz.func17,Tryz.ntmps17
  go_wp2_with (first | (go_at_call 54;((with_reducible refine (cS _ H0.out.bel).mono ?_);rintro e w1 ⟨rfl,hb1⟩;have H1:=hid (H0.out.below hb1);(clear x0 x1 x2 x3 x4 x5 x6 x7 x8 x9 x10 x11 x12 x13 x14 y0 y1 y2 y3 y4 y5 y6 y7 y8 y9 y10 y11 y12 y13 y14);have x0:=(H1.out.get 1 _ _ _ rfl).cell 0 _ rfl;have x1:=(H1.out.get 1 _ _ _ rfl).cell 1 _ rfl;have x2:=(H1.out.get 1 _ _ _ rfl).cell 2 _ rfl;have x3:=(H1.out.get 1 _ _ _ rfl).cell 3 _ rfl;have x4:=(H1.out.get 1 _ _ _ rfl).cell 4 _ rfl;have x5:=(H1.out.get 1 _ _ _ rfl).cell 5 _ rfl;have x6:=(H1.out.get 1 _ _ _ rfl).cell 6 _ rfl;have x7:=(H1.out.get 1 _ _ _ rfl).cell 7 _ rfl;have x8:=(H1.out.get 1 _ _ _ rfl).cell 8 _ rfl;have x9:=(H1.out.get 1 _ _ _ rfl).cell 9 _ rfl;have x10:=(H1.out.get 1 _ _ _ rfl).cell 10 _ rfl;have x11:=(H1.out.get 1 _ _ _ rfl).cell 11 _ rfl;have x12:=(H1.out.get 1 _ _ _ rfl).cell 12 _ rfl;have x13:=(H1.out.get 1 _ _ _ rfl).cell 13 _ rfl;have x14:=(H1.out.get 1 _ _ _ rfl).cell 14 _ rfl;have y0:=(H1.out.get 0 _ _ _ rfl).cell 0 _ rfl;have y1:=(H1.out.get 0 _ _ _ rfl).cell 1 _ rfl;have y2:=(H1.out.get 0 _ _ _ rfl).cell 2 _ rfl;have y3:=(H1.out.get 0 _ _ _ rfl).cell 3 _ rfl;have y4:=(H1.out.get 0 _ _ _ rfl).cell 4 _ rfl;have y5:=(H1.out.get 0 _ _ _ rfl).cell 5 _ rfl;have y6:=(H1.out.get 0 _ _ _ rfl).cell 6 _ rfl;have y7:=(H1.out.get 0 _ _ _ rfl).cell 7 _ rfl;have y8:=(H1.out.get 0 _ _ _ rfl).cell 8 _ rfl;have y9:=(H1.out.get 0 _ _ _ rfl).cell 9 _ rfl;have y10:=(H1.out.get 0 _ _ _ rfl).cell 10 _ rfl;have y11:=(H1.out.get 0 _ _ _ rfl).cell 11 _ rfl;have y12:=(H1.out.get 0 _ _ _ rfl).cell 12 _ rfl;have y13:=(H1.out.get 0 _ _ _ rfl).cell 13 _ rfl;have y14:=(H1.out.get 0 _ _ _ rfl).cell 14 _ rfl)) | (go_at_call 55;((with_reducible refine (cE _ H1.out.bel).mono ?_);rintro e w2 ⟨rfl,hb2⟩;have H2:=hid (H1.out.below hb2))))
  go_ret
  exact ⟨by first | rfl | simp [*],H2.out.bel⟩
theorem rSameR_any (x y : RcM) (L L' : RcL) (w : World) (h : RcAt w x L) (h' : RcAt w y L') (hx : RcF x) (hy : RcF y) :
  Calls Tryz.prog 18 #[.agg (rcV x),.agg (rcV y)] w (Says w (sameR x y L L')):=by
 have H0:=hid (((Boxs.start w).more (rcV x) 47).more (rcV y) 47)
 have hs : (w.alloc (.cells (rcV x) 47)).heap.size = w.heap.size + 1:=by simp
 rw [hs] at H0
 clear hs
 have cS : ∀ W,Below w.heap.size w W→Calls Tryz.prog 51 #[.agg (cmV x.cm),.agg (cmV y.cm)] W (Says W (sameC x.cm y.cm L.rs L'.rs L.ws L'.ws)):=fun W hW=>dSame_any x.cm y.cm L.rs L'.rs L.ws L'.ws W (h.cm.later hW) (h'.cm.later hW) hx.n hx.m
 have cE : ∀ W,Below w.heap.size w W→Calls Tryz.prog 19 #[.slice x.da x.dn x.dc,.slice y.da y.dn y.dc] W (Says W (eqB L.dl L'.dl)):=fun W hW=>(same_any x.da y.da x.dn y.dn x.dc y.dc w.heap.size w.heap.size L.dl L'.dl W (h.da.below hW (Nat.le_refl _)) (h'.da.below hW (Nat.le_refl _)) (by have:=hx.dn;unfold maxLen;omega) (by have:=hy.dn;unfold maxLen;omega)).mono fun _ _ h=>⟨by rw [eqB_dec];exact h.1,by obtain ⟨k,hk⟩:=h.2;rw [hk];exact below_drewN k (Below.refl _ _)⟩
 clear h h' hx hy
 unfold sameR
 generalize sameC x.cm y.cm L.rs L'.rs L.ws L'.ws = SC at *
 generalize eqB L.dl L'.dl = SD at *
 cases q0 : (x.k == y.k)
 ·have x0:=(H0.out.get 1 _ _ _ rfl).cell 0 _ rfl;have x1:=(H0.out.get 1 _ _ _ rfl).cell 1 _ rfl;have x2:=(H0.out.get 1 _ _ _ rfl).cell 2 _ rfl;have x3:=(H0.out.get 1 _ _ _ rfl).cell 3 _ rfl;have x4:=(H0.out.get 1 _ _ _ rfl).cell 4 _ rfl;have x5:=(H0.out.get 1 _ _ _ rfl).cell 5 _ rfl;have x6:=(H0.out.get 1 _ _ _ rfl).cell 6 _ rfl;have x7:=(H0.out.get 1 _ _ _ rfl).cell 7 _ rfl;have x8:=(H0.out.get 1 _ _ _ rfl).cell 8 _ rfl;have x9:=(H0.out.get 1 _ _ _ rfl).cell 9 _ rfl;have x10:=(H0.out.get 1 _ _ _ rfl).cell 10 _ rfl;have x11:=(H0.out.get 1 _ _ _ rfl).cell 11 _ rfl;have x12:=(H0.out.get 1 _ _ _ rfl).cell 12 _ rfl;have x13:=(H0.out.get 1 _ _ _ rfl).cell 13 _ rfl;have x14:=(H0.out.get 1 _ _ _ rfl).cell 14 _ rfl;have y0:=(H0.out.get 0 _ _ _ rfl).cell 0 _ rfl;have y1:=(H0.out.get 0 _ _ _ rfl).cell 1 _ rfl;have y2:=(H0.out.get 0 _ _ _ rfl).cell 2 _ rfl;have y3:=(H0.out.get 0 _ _ _ rfl).cell 3 _ rfl;have y4:=(H0.out.get 0 _ _ _ rfl).cell 4 _ rfl;have y5:=(H0.out.get 0 _ _ _ rfl).cell 5 _ rfl;have y6:=(H0.out.get 0 _ _ _ rfl).cell 6 _ rfl;have y7:=(H0.out.get 0 _ _ _ rfl).cell 7 _ rfl;have y8:=(H0.out.get 0 _ _ _ rfl).cell 8 _ rfl;have y9:=(H0.out.get 0 _ _ _ rfl).cell 9 _ rfl;have y10:=(H0.out.get 0 _ _ _ rfl).cell 10 _ rfl;have y11:=(H0.out.get 0 _ _ _ rfl).cell 11 _ rfl;have y12:=(H0.out.get 0 _ _ _ rfl).cell 12 _ rfl;have y13:=(H0.out.get 0 _ _ _ rfl).cell 13 _ rfl;have y14:=(H0.out.get 0 _ _ _ rfl).cell 14 _ rfl
  clear cS cE
  go_enter Tryz.func18,Tryz.ntmps18
  go_wp2
  go_ret
  exact ⟨by first | rfl | simp [*],H0.out.bel⟩
 rcases id_cases ((x.br : Nat) : Int) x.bn ((y.br : Nat) : Int) y.bn with ⟨e,q1,q2⟩ | ⟨e,q1⟩ | ⟨e,q1,q2⟩
 rotate_left
 ·rw [e]
  have x0:=(H0.out.get 1 _ _ _ rfl).cell 0 _ rfl;have x1:=(H0.out.get 1 _ _ _ rfl).cell 1 _ rfl;have x2:=(H0.out.get 1 _ _ _ rfl).cell 2 _ rfl;have x3:=(H0.out.get 1 _ _ _ rfl).cell 3 _ rfl;have x4:=(H0.out.get 1 _ _ _ rfl).cell 4 _ rfl;have x5:=(H0.out.get 1 _ _ _ rfl).cell 5 _ rfl;have x6:=(H0.out.get 1 _ _ _ rfl).cell 6 _ rfl;have x7:=(H0.out.get 1 _ _ _ rfl).cell 7 _ rfl;have x8:=(H0.out.get 1 _ _ _ rfl).cell 8 _ rfl;have x9:=(H0.out.get 1 _ _ _ rfl).cell 9 _ rfl;have x10:=(H0.out.get 1 _ _ _ rfl).cell 10 _ rfl;have x11:=(H0.out.get 1 _ _ _ rfl).cell 11 _ rfl;have x12:=(H0.out.get 1 _ _ _ rfl).cell 12 _ rfl;have x13:=(H0.out.get 1 _ _ _ rfl).cell 13 _ rfl;have x14:=(H0.out.get 1 _ _ _ rfl).cell 14 _ rfl;have y0:=(H0.out.get 0 _ _ _ rfl).cell 0 _ rfl;have y1:=(H0.out.get 0 _ _ _ rfl).cell 1 _ rfl;have y2:=(H0.out.get 0 _ _ _ rfl).cell 2 _ rfl;have y3:=(H0.out.get 0 _ _ _ rfl).cell 3 _ rfl;have y4:=(H0.out.get 0 _ _ _ rfl).cell 4 _ rfl;have y5:=(H0.out.get 0 _ _ _ rfl).cell 5 _ rfl;have y6:=(H0.out.get 0 _ _ _ rfl).cell 6 _ rfl;have y7:=(H0.out.get 0 _ _ _ rfl).cell 7 _ rfl;have y8:=(H0.out.get 0 _ _ _ rfl).cell 8 _ rfl;have y9:=(H0.out.get 0 _ _ _ rfl).cell 9 _ rfl;have y10:=(H0.out.get 0 _ _ _ rfl).cell 10 _ rfl;have y11:=(H0.out.get 0 _ _ _ rfl).cell 11 _ rfl;have y12:=(H0.out.get 0 _ _ _ rfl).cell 12 _ rfl;have y13:=(H0.out.get 0 _ _ _ rfl).cell 13 _ rfl;have y14:=(H0.out.get 0 _ _ _ rfl).cell 14 _ rfl
  clear cS cE
  go_enter Tryz.func18,Tryz.ntmps18
  go_wp2
  go_ret
  exact ⟨by first | rfl | simp [*],H0.out.bel⟩
 ·rw [e]
  have x0:=(H0.out.get 1 _ _ _ rfl).cell 0 _ rfl;have x1:=(H0.out.get 1 _ _ _ rfl).cell 1 _ rfl;have x2:=(H0.out.get 1 _ _ _ rfl).cell 2 _ rfl;have x3:=(H0.out.get 1 _ _ _ rfl).cell 3 _ rfl;have x4:=(H0.out.get 1 _ _ _ rfl).cell 4 _ rfl;have x5:=(H0.out.get 1 _ _ _ rfl).cell 5 _ rfl;have x6:=(H0.out.get 1 _ _ _ rfl).cell 6 _ rfl;have x7:=(H0.out.get 1 _ _ _ rfl).cell 7 _ rfl;have x8:=(H0.out.get 1 _ _ _ rfl).cell 8 _ rfl;have x9:=(H0.out.get 1 _ _ _ rfl).cell 9 _ rfl;have x10:=(H0.out.get 1 _ _ _ rfl).cell 10 _ rfl;have x11:=(H0.out.get 1 _ _ _ rfl).cell 11 _ rfl;have x12:=(H0.out.get 1 _ _ _ rfl).cell 12 _ rfl;have x13:=(H0.out.get 1 _ _ _ rfl).cell 13 _ rfl;have x14:=(H0.out.get 1 _ _ _ rfl).cell 14 _ rfl;have y0:=(H0.out.get 0 _ _ _ rfl).cell 0 _ rfl;have y1:=(H0.out.get 0 _ _ _ rfl).cell 1 _ rfl;have y2:=(H0.out.get 0 _ _ _ rfl).cell 2 _ rfl;have y3:=(H0.out.get 0 _ _ _ rfl).cell 3 _ rfl;have y4:=(H0.out.get 0 _ _ _ rfl).cell 4 _ rfl;have y5:=(H0.out.get 0 _ _ _ rfl).cell 5 _ rfl;have y6:=(H0.out.get 0 _ _ _ rfl).cell 6 _ rfl;have y7:=(H0.out.get 0 _ _ _ rfl).cell 7 _ rfl;have y8:=(H0.out.get 0 _ _ _ rfl).cell 8 _ rfl;have y9:=(H0.out.get 0 _ _ _ rfl).cell 9 _ rfl;have y10:=(H0.out.get 0 _ _ _ rfl).cell 10 _ rfl;have y11:=(H0.out.get 0 _ _ _ rfl).cell 11 _ rfl;have y12:=(H0.out.get 0 _ _ _ rfl).cell 12 _ rfl;have y13:=(H0.out.get 0 _ _ _ rfl).cell 13 _ rfl;have y14:=(H0.out.get 0 _ _ _ rfl).cell 14 _ rfl
  clear cS cE
  go_enter Tryz.func18,Tryz.ntmps18
  go_wp2
  go_ret
  exact ⟨by first | rfl | simp [*],H0.out.bel⟩
 rw [e]
 clear e
 cases q3 : (x.sl == y.sl)
 ·have x0:=(H0.out.get 1 _ _ _ rfl).cell 0 _ rfl;have x1:=(H0.out.get 1 _ _ _ rfl).cell 1 _ rfl;have x2:=(H0.out.get 1 _ _ _ rfl).cell 2 _ rfl;have x3:=(H0.out.get 1 _ _ _ rfl).cell 3 _ rfl;have x4:=(H0.out.get 1 _ _ _ rfl).cell 4 _ rfl;have x5:=(H0.out.get 1 _ _ _ rfl).cell 5 _ rfl;have x6:=(H0.out.get 1 _ _ _ rfl).cell 6 _ rfl;have x7:=(H0.out.get 1 _ _ _ rfl).cell 7 _ rfl;have x8:=(H0.out.get 1 _ _ _ rfl).cell 8 _ rfl;have x9:=(H0.out.get 1 _ _ _ rfl).cell 9 _ rfl;have x10:=(H0.out.get 1 _ _ _ rfl).cell 10 _ rfl;have x11:=(H0.out.get 1 _ _ _ rfl).cell 11 _ rfl;have x12:=(H0.out.get 1 _ _ _ rfl).cell 12 _ rfl;have x13:=(H0.out.get 1 _ _ _ rfl).cell 13 _ rfl;have x14:=(H0.out.get 1 _ _ _ rfl).cell 14 _ rfl;have y0:=(H0.out.get 0 _ _ _ rfl).cell 0 _ rfl;have y1:=(H0.out.get 0 _ _ _ rfl).cell 1 _ rfl;have y2:=(H0.out.get 0 _ _ _ rfl).cell 2 _ rfl;have y3:=(H0.out.get 0 _ _ _ rfl).cell 3 _ rfl;have y4:=(H0.out.get 0 _ _ _ rfl).cell 4 _ rfl;have y5:=(H0.out.get 0 _ _ _ rfl).cell 5 _ rfl;have y6:=(H0.out.get 0 _ _ _ rfl).cell 6 _ rfl;have y7:=(H0.out.get 0 _ _ _ rfl).cell 7 _ rfl;have y8:=(H0.out.get 0 _ _ _ rfl).cell 8 _ rfl;have y9:=(H0.out.get 0 _ _ _ rfl).cell 9 _ rfl;have y10:=(H0.out.get 0 _ _ _ rfl).cell 10 _ rfl;have y11:=(H0.out.get 0 _ _ _ rfl).cell 11 _ rfl;have y12:=(H0.out.get 0 _ _ _ rfl).cell 12 _ rfl;have y13:=(H0.out.get 0 _ _ _ rfl).cell 13 _ rfl;have y14:=(H0.out.get 0 _ _ _ rfl).cell 14 _ rfl
  clear cS cE
  go_enter Tryz.func18,Tryz.ntmps18
  go_wp2
  go_ret
  exact ⟨by first | rfl | simp [*],H0.out.bel⟩
 cases SC
 ·have x0:=(H0.out.get 1 _ _ _ rfl).cell 0 _ rfl;have x1:=(H0.out.get 1 _ _ _ rfl).cell 1 _ rfl;have x2:=(H0.out.get 1 _ _ _ rfl).cell 2 _ rfl;have x3:=(H0.out.get 1 _ _ _ rfl).cell 3 _ rfl;have x4:=(H0.out.get 1 _ _ _ rfl).cell 4 _ rfl;have x5:=(H0.out.get 1 _ _ _ rfl).cell 5 _ rfl;have x6:=(H0.out.get 1 _ _ _ rfl).cell 6 _ rfl;have x7:=(H0.out.get 1 _ _ _ rfl).cell 7 _ rfl;have x8:=(H0.out.get 1 _ _ _ rfl).cell 8 _ rfl;have x9:=(H0.out.get 1 _ _ _ rfl).cell 9 _ rfl;have x10:=(H0.out.get 1 _ _ _ rfl).cell 10 _ rfl;have x11:=(H0.out.get 1 _ _ _ rfl).cell 11 _ rfl;have x12:=(H0.out.get 1 _ _ _ rfl).cell 12 _ rfl;have x13:=(H0.out.get 1 _ _ _ rfl).cell 13 _ rfl;have x14:=(H0.out.get 1 _ _ _ rfl).cell 14 _ rfl;have y0:=(H0.out.get 0 _ _ _ rfl).cell 0 _ rfl;have y1:=(H0.out.get 0 _ _ _ rfl).cell 1 _ rfl;have y2:=(H0.out.get 0 _ _ _ rfl).cell 2 _ rfl;have y3:=(H0.out.get 0 _ _ _ rfl).cell 3 _ rfl;have y4:=(H0.out.get 0 _ _ _ rfl).cell 4 _ rfl;have y5:=(H0.out.get 0 _ _ _ rfl).cell 5 _ rfl;have y6:=(H0.out.get 0 _ _ _ rfl).cell 6 _ rfl;have y7:=(H0.out.get 0 _ _ _ rfl).cell 7 _ rfl;have y8:=(H0.out.get 0 _ _ _ rfl).cell 8 _ rfl;have y9:=(H0.out.get 0 _ _ _ rfl).cell 9 _ rfl;have y10:=(H0.out.get 0 _ _ _ rfl).cell 10 _ rfl;have y11:=(H0.out.get 0 _ _ _ rfl).cell 11 _ rfl;have y12:=(H0.out.get 0 _ _ _ rfl).cell 12 _ rfl;have y13:=(H0.out.get 0 _ _ _ rfl).cell 13 _ rfl;have y14:=(H0.out.get 0 _ _ _ rfl).cell 14 _ rfl
  clear cE
  go_enter Tryz.func18,Tryz.ntmps18
  go_wp2_with (go_at_call 51;((with_reducible refine (cS _ H0.out.bel).mono ?_);rintro e w1 ⟨rfl,hb1⟩;have H1:=hid (H0.out.below hb1);(clear x0 x1 x2 x3 x4 x5 x6 x7 x8 x9 x10 x11 x12 x13 x14 y0 y1 y2 y3 y4 y5 y6 y7 y8 y9 y10 y11 y12 y13 y14);have x0:=(H1.out.get 1 _ _ _ rfl).cell 0 _ rfl;have x1:=(H1.out.get 1 _ _ _ rfl).cell 1 _ rfl;have x2:=(H1.out.get 1 _ _ _ rfl).cell 2 _ rfl;have x3:=(H1.out.get 1 _ _ _ rfl).cell 3 _ rfl;have x4:=(H1.out.get 1 _ _ _ rfl).cell 4 _ rfl;have x5:=(H1.out.get 1 _ _ _ rfl).cell 5 _ rfl;have x6:=(H1.out.get 1 _ _ _ rfl).cell 6 _ rfl;have x7:=(H1.out.get 1 _ _ _ rfl).cell 7 _ rfl;have x8:=(H1.out.get 1 _ _ _ rfl).cell 8 _ rfl;have x9:=(H1.out.get 1 _ _ _ rfl).cell 9 _ rfl;have x10:=(H1.out.get 1 _ _ _ rfl).cell 10 _ rfl;have x11:=(H1.out.get 1 _ _ _ rfl).cell 11 _ rfl;have x12:=(H1.out.get 1 _ _ _ rfl).cell 12 _ rfl;have x13:=(H1.out.get 1 _ _ _ rfl).cell 13 _ rfl;have x14:=(H1.out.get 1 _ _ _ rfl).cell 14 _ rfl;have y0:=(H1.out.get 0 _ _ _ rfl).cell 0 _ rfl;have y1:=(H1.out.get 0 _ _ _ rfl).cell 1 _ rfl;have y2:=(H1.out.get 0 _ _ _ rfl).cell 2 _ rfl;have y3:=(H1.out.get 0 _ _ _ rfl).cell 3 _ rfl;have y4:=(H1.out.get 0 _ _ _ rfl).cell 4 _ rfl;have y5:=(H1.out.get 0 _ _ _ rfl).cell 5 _ rfl;have y6:=(H1.out.get 0 _ _ _ rfl).cell 6 _ rfl;have y7:=(H1.out.get 0 _ _ _ rfl).cell 7 _ rfl;have y8:=(H1.out.get 0 _ _ _ rfl).cell 8 _ rfl;have y9:=(H1.out.get 0 _ _ _ rfl).cell 9 _ rfl;have y10:=(H1.out.get 0 _ _ _ rfl).cell 10 _ rfl;have y11:=(H1.out.get 0 _ _ _ rfl).cell 11 _ rfl;have y12:=(H1.out.get 0 _ _ _ rfl).cell 12 _ rfl;have y13:=(H1.out.get 0 _ _ _ rfl).cell 13 _ rfl;have y14:=(H1.out.get 0 _ _ _ rfl).cell 14 _ rfl))
  go_ret
  exact ⟨by first | rfl | simp [*],H1.out.bel⟩
 ·have x0:=(H0.out.get 1 _ _ _ rfl).cell 0 _ rfl;have x1:=(H0.out.get 1 _ _ _ rfl).cell 1 _ rfl;have x2:=(H0.out.get 1 _ _ _ rfl).cell 2 _ rfl;have x3:=(H0.out.get 1 _ _ _ rfl).cell 3 _ rfl;have x4:=(H0.out.get 1 _ _ _ rfl).cell 4 _ rfl;have x5:=(H0.out.get 1 _ _ _ rfl).cell 5 _ rfl;have x6:=(H0.out.get 1 _ _ _ rfl).cell 6 _ rfl;have x7:=(H0.out.get 1 _ _ _ rfl).cell 7 _ rfl;have x8:=(H0.out.get 1 _ _ _ rfl).cell 8 _ rfl;have x9:=(H0.out.get 1 _ _ _ rfl).cell 9 _ rfl;have x10:=(H0.out.get 1 _ _ _ rfl).cell 10 _ rfl;have x11:=(H0.out.get 1 _ _ _ rfl).cell 11 _ rfl;have x12:=(H0.out.get 1 _ _ _ rfl).cell 12 _ rfl;have x13:=(H0.out.get 1 _ _ _ rfl).cell 13 _ rfl;have x14:=(H0.out.get 1 _ _ _ rfl).cell 14 _ rfl;have y0:=(H0.out.get 0 _ _ _ rfl).cell 0 _ rfl;have y1:=(H0.out.get 0 _ _ _ rfl).cell 1 _ rfl;have y2:=(H0.out.get 0 _ _ _ rfl).cell 2 _ rfl;have y3:=(H0.out.get 0 _ _ _ rfl).cell 3 _ rfl;have y4:=(H0.out.get 0 _ _ _ rfl).cell 4 _ rfl;have y5:=(H0.out.get 0 _ _ _ rfl).cell 5 _ rfl;have y6:=(H0.out.get 0 _ _ _ rfl).cell 6 _ rfl;have y7:=(H0.out.get 0 _ _ _ rfl).cell 7 _ rfl;have y8:=(H0.out.get 0 _ _ _ rfl).cell 8 _ rfl;have y9:=(H0.out.get 0 _ _ _ rfl).cell 9 _ rfl;have y10:=(H0.out.get 0 _ _ _ rfl).cell 10 _ rfl;have y11:=(H0.out.get 0 _ _ _ rfl).cell 11 _ rfl;have y12:=(H0.out.get 0 _ _ _ rfl).cell 12 _ rfl;have y13:=(H0.out.get 0 _ _ _ rfl).cell 13 _ rfl;have y14:=(H0.out.get 0 _ _ _ rfl).cell 14 _ rfl
  go_enter Tryz.func18,Tryz.ntmps18
  go_wp2_with (first | (go_at_call 51;((with_reducible refine (cS _ H0.out.bel).mono ?_);rintro e w1 ⟨rfl,hb1⟩;have H1:=hid (H0.out.below hb1);(clear x0 x1 x2 x3 x4 x5 x6 x7 x8 x9 x10 x11 x12 x13 x14 y0 y1 y2 y3 y4 y5 y6 y7 y8 y9 y10 y11 y12 y13 y14);have x0:=(H1.out.get 1 _ _ _ rfl).cell 0 _ rfl;have x1:=(H1.out.get 1 _ _ _ rfl).cell 1 _ rfl;have x2:=(H1.out.get 1 _ _ _ rfl).cell 2 _ rfl;have x3:=(H1.out.get 1 _ _ _ rfl).cell 3 _ rfl;have x4:=(H1.out.get 1 _ _ _ rfl).cell 4 _ rfl;have x5:=(H1.out.get 1 _ _ _ rfl).cell 5 _ rfl;have x6:=(H1.out.get 1 _ _ _ rfl).cell 6 _ rfl;have x7:=(H1.out.get 1 _ _ _ rfl).cell 7 _ rfl;have x8:=(H1.out.get 1 _ _ _ rfl).cell 8 _ rfl;have x9:=(H1.out.get 1 _ _ _ rfl).cell 9 _ rfl;have x10:=(H1.out.get 1 _ _ _ rfl).cell 10 _ rfl;have x11:=(H1.out.get 1 _ _ _ rfl).cell 11 _ rfl;have x12:=(H1.out.get 1 _ _ _ rfl).cell 12 _ rfl;have x13:=(H1.out.get 1 _ _ _ rfl).cell 13 _ rfl;have x14:=(H1.out.get 1 _ _ _ rfl).cell 14 _ rfl;have y0:=(H1.out.get 0 _ _ _ rfl).cell 0 _ rfl;have y1:=(H1.out.get 0 _ _ _ rfl).cell 1 _ rfl;have y2:=(H1.out.get 0 _ _ _ rfl).cell 2 _ rfl;have y3:=(H1.out.get 0 _ _ _ rfl).cell 3 _ rfl;have y4:=(H1.out.get 0 _ _ _ rfl).cell 4 _ rfl;have y5:=(H1.out.get 0 _ _ _ rfl).cell 5 _ rfl;have y6:=(H1.out.get 0 _ _ _ rfl).cell 6 _ rfl;have y7:=(H1.out.get 0 _ _ _ rfl).cell 7 _ rfl;have y8:=(H1.out.get 0 _ _ _ rfl).cell 8 _ rfl;have y9:=(H1.out.get 0 _ _ _ rfl).cell 9 _ rfl;have y10:=(H1.out.get 0 _ _ _ rfl).cell 10 _ rfl;have y11:=(H1.out.get 0 _ _ _ rfl).cell 11 _ rfl;have y12:=(H1.out.get 0 _ _ _ rfl).cell 12 _ rfl;have y13:=(H1.out.get 0 _ _ _ rfl).cell 13 _ rfl;have y14:=(H1.out.get 0 _ _ _ rfl).cell 14 _ rfl)) | (go_at_call 19;((with_reducible refine (cE _ H1.out.bel).mono ?_);rintro e w2 ⟨rfl,hb2⟩;have H2:=hid (H1.out.below hb2))))
  go_ret
  exact ⟨by first | rfl | simp [*],H2.out.bel⟩
theorem keysM_len (rs : List RdM) : (keysM rs).length = rs.length:=by simp [keysM]
theorem keysV_len (ws : List WrM) : (keysV ws).length = ws.length:=by simp [keysV]
/-- All texts are keys, strictly rising. -/
def riseB (L : List (List UInt8)) : Bool:=L.all keyB && adjB L
theorem rise_key (L : List (List UInt8)) (k : Nat) (h : k < L.length) (hp : keyB L[k] = false) : riseB L = false:=by unfold riseB;rw [all_bad keyB L k h hp];rfl
theorem rise_adj (L : List (List UInt8)) (k : Nat) (h : k + 1 < L.length) (hp : leB L[k + 1] L[k] = true) : riseB L = false:=by unfold riseB;rw [adj_bad L k h hp,Bool.and_false]
/-- The first k of them are. -/
def RiseP (L : List (List UInt8)) (k : Nat) : Prop:=(L.take k).all keyB = true∧∀ j (hj : j + 1 < L.length),j + 1 < k→leB L[j + 1] L[j] = false
theorem RiseP.start (L : List (List UInt8)) : RiseP L 0:=⟨rfl,fun j _ h=>by omega⟩
theorem RiseP.first (L : List (List UInt8)) (h : 0 < L.length) (hk : keyB L[0] = true) : RiseP L 1:=⟨all_next keyB L 0 h rfl hk,fun j _ h=>by omega⟩
theorem RiseP.next {L : List (List UInt8)} {k : Nat} (h : RiseP L (k + 1)) (hl : k + 1 < L.length) (hk : keyB L[k + 1] = true) (ha : leB L[k + 1] L[k] = false) : RiseP L (k + 1 + 1):=by
 refine ⟨all_next keyB L (k + 1) hl h.1 hk,fun j hj hlt=>?_⟩
 by_cases e : j = k
 ·subst e;exact ha
 ·exact h.2 j hj (by omega)
theorem RiseP.done {L : List (List UInt8)} {k : Nat} (h : RiseP L k) (hl : L.length≤k) : riseB L = true:=by
 unfold riseB
 rw [all_done keyB L k hl h.1,adj_all L fun j hj=>h.2 j hj (by omega)];rfl
def valsB (ws : List WrM) : Bool:=ws.all fun x=>formedB (valM x)
theorem vals_all (i : IdN) (rs : List RdM) (ws : List WrM) : ((txT i rs ws).ws.all fun x=>formedB x.2) = valsB ws:=by
 unfold txT txW valsB
 rw [List.all_map];rfl
theorem form_len (i : IdN) (rs : List RdM) (ws : List WrM) (h : idB i = false∨6 < rs.length∨6 < ws.length∨(rs.length = 0∧ws.length = 0)) : formT formedB (txT i rs ws) = false:=by
 cases e : formT formedB (txT i rs ws)
 ·rfl
 ·have hf:=(formT_iff _ _).1 e
  have h1:=hf.id
  have h2:=hf.rlen
  have h3:=hf.wlen
  have h4:=hf.some
  simp only [txT,txR,txW,List.length_map] at h1 h2 h3 h4
  rcases h with h | h | h | h
  ·rw [h] at h1;cases h1
  ·omega
  ·omega
  ·omega
theorem form_parts (i : IdN) (rs : List RdM) (ws : List WrM) (hi : idB i = true) (h1 : rs.length≤6) (h2 : ws.length≤6) (h3 : ¬ (rs.length = 0∧ws.length = 0)) :
  formT formedB (txT i rs ws) = (riseB (txt (keysM rs)) && (riseB (txt (keysV ws)) && valsB ws)):=by
 have e1 : idB (txT i rs ws).id = true:=hi
 have e2 : (txT i rs ws).rs.length = rs.length:=by simp [txT,txR]
 have e3 : (txT i rs ws).ws.length = ws.length:=by simp [txT,txW]
 have e4 : (decide (rs.length = 0) && decide (ws.length = 0)) = false:=by
  rw [Bool.and_eq_false_iff,decide_eq_false_iff_not,decide_eq_false_iff_not];omega
 unfold formT
 rw [e1,e2,e3,decide_eq_true h1,decide_eq_true h2,e4,keysM_txt,keysV_txt,vals_all]
 unfold riseB
 cases (txt (keysM rs)).all keyB <;> cases adjB (txt (keysM rs)) <;> cases (txt (keysV ws)).all keyB <;> cases adjB (txt (keysV ws)) <;> cases valsB ws <;> rfl
theorem keysM_ok {rs : List RdM} (h : ∀ x ∈ rs,RdOk x) : ∀ z ∈ keysM rs,z.size≤maxLen:=by
 intro z hz
 obtain ⟨x,hx,rfl⟩:=List.mem_map.1 hz
 exact (h x hx).1
theorem keysV_ok {ws : List WrM} (h : ∀ x ∈ ws,WrOk x) : ∀ z ∈ keysV ws,z.size≤maxLen:=by
 intro z hz
 obtain ⟨x,hx,rfl⟩:=List.mem_map.1 hz
 exact (h x hx).1
open Go.ChangeShapes Go.WideShapes Go.ChangeAt Go.RowKit
section
variable {H : Type} {enc : TypeId×Value→H} {P : Program} {w : World} {base : Nat} {spare : Nat→Bool} {held : Bool}
end
/-- A slice of integers, of texts, reads as the list l. -/
def IntsAt (w : World) (B : Nat) (a : Option Addr) (n : Nat) (l : List Int) : Prop:=l.length = n∧RowAt w B a n 1 (l.map (Value.int .i64))
def StrsAt (w : World) (B : Nat) (a : Option Addr) (n : Nat) (l : List ByteArray) : Prop:=l.length = n∧RowAt w B a n 1 (l.map Value.string)
section
variable {w w' : World} {B B' n : Nat} {a : Option Addr}
theorem StrsAt.at_ {l : List ByteArray} (h : StrsAt w B a n l) {i : Nat} (hi : i < l.length) : ∃ b off,a = some ⟨b,off,none⟩∧b < B∧w.cell? ⟨b,off + i,none⟩ = some (.string l[i]):=by
 obtain ⟨b,off,ha,hb,hc⟩:=h.2.addr (by have:=h.1;omega)
 exact ⟨b,off,ha,hb,hc i _ (by simp [hi])⟩
end
section
variable {H : Type} {enc : TypeId×Value→H} {P : Program} {w : World} {base : Nat} {spare : Nat→Bool} {held : Bool}
theorem trod_row1 {α : Type} (f : α→Value) (Q : α→Prop) {t e : TypeId} {fuel : Nat} {u : Value} {x : DataW H×List MemPlace} (ht : P.underlying t = some (.slice e)) (hc : P.cellsOf e = 1) (h : DataW.trod enc P w base spare held fuel t [u] = some x)
  (hf : ∀ (k : Nat) (v : Value) (y : DataW H×List MemPlace),DataW.trod enc P w base spare held k e [v] = some y→∃ z : α,v = f z∧Q z) :
  ∃ a n c,u = .slice a n c∧n≤c∧c≤maxLen∧∃ l : List α,l.length = n∧RowAt w w.heap.size a n 1 (l.map f)∧∀ z ∈ l,Q z:=by
 rcases Deep.open_slice1 ht hc h with ⟨h0,_⟩ | ⟨ad,len,cap,m,n',V,D,Pl,h0,hb,hl,hm,hmm,_,hi⟩
 ·injection h0 with h0
  exact ⟨_,_,_,h0,Nat.le_refl _,by unfold maxLen;omega,[],rfl,RowAt.nil,fun z hz=>by cases hz⟩
 ·injection h0 with h0
  have hnm : len≤m:=by rw [hmm];split <;> omega
  have key : ∀ i, ∃ z : Option α,i < len→∃ z',z = some z'∧w.cell? (ad.add i) = some (f z')∧Q z':=by
   intro i
   by_cases hil : i < len
   ·obtain ⟨h1,h2⟩:=hi i (by omega)
    obtain ⟨z,hz,hq⟩:=hf _ _ _ h2
    exact ⟨some z,fun _=>⟨z,rfl,by rw [h1,hz],hq⟩⟩
   ·exact ⟨none,fun h=>absurd h hil⟩
  obtain ⟨Z,hZ⟩:=Classical.axiomOfChoice key
  by_cases h00 : len = 0
  ·subst h00
   exact ⟨_,_,_,h0,hl,hm,[],rfl,RowAt.nil,fun z hz=>by cases hz⟩
  ·obtain ⟨b,off,spot⟩:=ad
   have hspot : spot = none:=by
    obtain ⟨z,_,hc0,_⟩:=hZ 0 (by omega)
    simpa [Addr.add] using World.cell?_spot hc0
   subst hspot
   have hbl : b < w.heap.size:=by
    obtain ⟨z,_,hc0,_⟩:=hZ 0 (by omega)
    simpa [Addr.add] using block_lt hc0
   have hlen : ((List.range len).filterMap Z).length = len∧∀ i,i < len→∃ z,((List.range len).filterMap Z)[i]? = some z∧Z i = some z:=by
    have : ∀ k,k≤len→((List.range k).filterMap Z).length = k∧∀ i,i < k→∃ z,((List.range k).filterMap Z)[i]? = some z∧Z i = some z:=by
     intro k
     induction k with
     | zero=>intro _;exact ⟨rfl,fun i hi=>by omega⟩
     | succ k ih =>
      intro hk
      obtain ⟨h1,h2⟩:=ih (by omega)
      obtain ⟨z,hz,_⟩:=hZ k (by omega)
      have e : (List.range (k + 1)).filterMap Z = (List.range k).filterMap Z ++ [z]:=by rw [List.range_succ,List.filterMap_append];simp [hz]
      refine ⟨by rw [e];simp [h1],fun i hi=>?_⟩
      rw [e]
      by_cases hik : i < k
      ·obtain ⟨z',hz',hz''⟩:=h2 i hik
       exact ⟨z',by rw [List.getElem?_append_left (by omega)];exact hz',hz''⟩
      ·obtain rfl : i = k:=by omega
       exact ⟨z,by rw [List.getElem?_append_right (by omega)];simp [h1],hz⟩
    exact this len (Nat.le_refl _)
   refine ⟨_,_,_,h0,hl,hm,(List.range len).filterMap Z,hlen.1,⟨by simp [hlen.1],.inr ⟨b,off,rfl,hbl,fun j u hu=>?_⟩⟩,fun z hz=>?_⟩
   ·have hj : j < len:=by
     rcases Nat.lt_or_ge j len with h | h
     ·exact h
     ·rw [List.getElem?_eq_none (by simpa [hlen.1] using h)] at hu;cases hu
    obtain ⟨z,h1,h2⟩:=hlen.2 j hj
    obtain ⟨z',h3,h4,_⟩:=hZ j hj
    rw [h2] at h3;injection h3 with h3;subst h3
    rw [List.getElem?_map,h1] at hu
    injection hu with hu
    rw [← hu]
    rw [add_plain] at h4
    exact h4
   ·obtain ⟨i,hi',hz'⟩:=List.mem_filterMap.1 hz
    have hi2 : i < len:=by simpa using hi'
    obtain ⟨z',h3,_,h5⟩:=hZ i hi2
    rw [h3] at hz';injection hz' with hz';subst hz'
    exact h5
end
end Go.Proofs.YtcfmifongbapkaaGreatDoor
