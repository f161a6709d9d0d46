/- Contracts of the document's first, second and Formed of messages. Conditions: the message's lists lie in memory, and are no longer than a million. Contracts of the document's second and Formed of messages. The document's Formed of messages is what FormMg says. Condition: the message lies in memory. -/
import Derived.Test.YtigimmbdlhginaaGreatDoorGT
import Derived.Test.YtigimmbdlhginaaGreatDoorHB
import Derived.Test.YtigimmbdlhginaaGreatDoorTxnRefFormed
import Derived.Test.YtigimmbdlhginaaGreatDoorValueKey
import Derived.Deep.DeepCutAuto
namespace Go.Proofs.YtigimmbdlhginaaGreatDoor
set_option maxRecDepth 100000
set_option maxHeartbeats 4000000
open Go.RowKit
open Go.Lib (hid)
set_option linter.unusedVariables false
set_option linter.unusedSimpArgs false
theorem str0_cases (u : ByteArray) : (eqB u ⟨#[]⟩ = true∧(u.toList == []) = true∧(u.toList != []) = false)∨(eqB u ⟨#[]⟩ = false∧(u.toList == []) = false∧(u.toList != []) = true):=by
 have e0 : ([] : List UInt8) = (⟨#[]⟩ : ByteArray).toList:=by rw [ByteArray.toList_eq]
 rcases str_cases u ⟨#[]⟩ with ⟨h1,h2⟩ | ⟨h1,h2⟩
 ·rw [← e0] at h2
  exact .inl ⟨h1,h2,by simp only [bne,h2];rfl⟩
 ·rw [← e0] at h2
  exact .inr ⟨h1,h2,by simp only [bne,h2];rfl⟩
theorem val0_cases (k : Int) (b : Nat) (t : ByteArray) : (eqB (k,((b : Nat) : Int),t) (0,0,⟨#[]⟩) = true∧(k == 0) = true∧(((b : Nat) : Int) == 0) = true∧(t.toList == []) = true)∨(eqB (k,((b : Nat) : Int),t) (0,0,⟨#[]⟩) = false∧(k == 0) = false)∨(eqB (k,((b : Nat) : Int),t) (0,0,⟨#[]⟩) = false∧(k == 0) = true∧(((b : Nat) : Int) == 0) = false)∨(eqB (k,((b : Nat) : Int),t) (0,0,⟨#[]⟩) = false∧(k == 0) = true∧(((b : Nat) : Int) == 0) = true∧(t.toList == []) = false):=by
 have e0 : ([] : List UInt8) = (⟨#[]⟩ : ByteArray).toList:=by rw [ByteArray.toList_eq]
 have h:=val_cases k 0 b 0 t ⟨#[]⟩
 rw [← e0] at h
 exact h
theorem dZero_any (x : CmM) (rs : List RdM) (ws : List WrM) (w : World) (h : CmAt w x rs ws) (hn : x.n≤1000000) (hm : x.m≤1000000) :
  Calls Tryz.prog 23 #[.agg (cmV x),.agg zeroV] w (Says w (zeroCM x rs ws)):=by
 have h1:=dSame_any x zeroM rs [] ws [] w h CmAt.zero hn hm
 rw [sameC_eqB,zeroC_T] at h1;exact h1
/-- Whether a transaction in memory is the zero one. -/
noncomputable def zeroTM (x : MgM) (L : MgL) : Bool:=eqB (txT (x.s,x.q) L.rt L.wt) zeroT
/-- The tests of the document, in its order. -/
noncomputable def bad1 (x : MgM) : Bool:=((uBal x.k && !(formB x.bn)) || (!(uBal x.k) && !(eqB (((x.br : Nat) : Int),x.bn) (0,0))))
noncomputable def bad2 (x : MgM) : Bool:=(((decide (x.sl < 0) || decide (1000000 < x.sl)) || (!(uSlot x.k) && !(x.sl == 0))) || (x.has && !(uHas x.k)))
noncomputable def bad3 (x : MgM) : Bool:=((x.has && !(formB x.vn)) || (!(x.has) && !(eqB (((x.vr : Nat) : Int),x.vn) (0,0))))
noncomputable def with4 (x : MgM) : Bool:=(x.has || uCmd x.k)
noncomputable def firstB (x : MgM) (L : MgL) : Bool := !bad1 x && (!bad2 x && (!bad3 x && (if with4 x then formCm (cmT x.cm L.rs L.ws) else zeroCM x.cm L.rs L.ws)))
noncomputable def bad5 (x : MgM) (L : MgL) : Bool:=((uTxn x.k && !(formT formedB (txT (x.s,x.q) L.rt L.wt))) || (!(uTxn x.k) && !(zeroTM x L)))
noncomputable def bad6 (x : MgM) : Bool:=((uId x.k && !(idB (x.i,x.j))) || (!(uId x.k) && !(eqB (x.i,x.j) (0,0))))
noncomputable def bad7 (x : MgM) : Bool:=((((decide (x.g < 0) || decide (4≤x.g)) || (!(uGrp x.k) && !(x.g == 0))) || (!(uStp x.k) && !(((x.st : Nat) : Int) == 0))) || (x.y && !(uYes x.k)))
noncomputable def good8 (x : MgM) : Bool:=((decide (0≤x.nu) && decide (x.nu≤2147483647)) && (uNum x.k || (x.nu == 0)))
noncomputable def secondB (x : MgM) (L : MgL) : Bool := !bad5 x L && (!bad6 x && (!bad7 x && good8 x))
noncomputable def bad9 (x : MgM) (L : MgL) : Bool:=(((decide (x.k < 1) || decide (15 < x.k)) || !(firstB x L)) || !(secondB x L))
noncomputable def bad10 (x : MgM) : Bool:=(((uKey x.k && !(keyB x.key.data.toList)) && (!(x.k == 13) || !(eqB x.key ⟨#[]⟩))) || (!(uKey x.k) && !(eqB x.key ⟨#[]⟩)))
noncomputable def bad11 (x : MgM) : Bool:=(!(uVal x.k) && ((!(((x.ver : Nat) : Int) == 0) || !(eqB (x.vk,((x.vb : Nat) : Int),x.vt) (0,0,⟨#[]⟩))) || !(x.er == 0)))
noncomputable def bad12 (x : MgM) : Bool:=((!(formedB ⟨x.vk,x.vb,x.vt.data.toList⟩) || decide (x.er < 0)) || decide (11 < x.er))
noncomputable def good13 (x : MgM) : Bool:=(decide (((x.dn : Nat) : Int)≤59900) && (uDat x.k || (((x.dn : Nat) : Int) == 0)))
noncomputable def formedD (x : MgM) (L : MgL) : Bool := !bad9 x L && (!bad10 x && (!bad11 x && (!bad12 x && good13 x)))
theorem rFirst_any (x : MgM) (L : MgL) (w : World) (h : MgAt w x L) (hf : MgF x) :
  Calls Tryz.prog 80 #[.agg (mgV x)] w (Says w (firstB x L)):=by
 have H0:=hid ((Boxs.start w).more (mgV x) 46)
 have cUuBal:=fun W=>useBal_any x.k W
 have cUuCmd:=fun W=>useCmd_any x.k W
 have cUuHas:=fun W=>useHas_any x.k W
 have cUuSlot:=fun W=>useSlot_any x.k W
 have cFb:=fun W=>rFormed_any ((x.br : Nat) : Int) x.bn W
 have cFv:=fun W=>rFormed_any ((x.vr : Nat) : Int) x.vn W
 have cC : ∀ W,Below w.heap.size w W→Calls Tryz.prog 76 #[.agg (cmV x.cm)] W (Says W (formCm (cmT x.cm L.rs L.ws))):=fun W hW=>dFormed_any x.cm L.rs L.ws W (h.cm.later hW) hf.n hf.m
 have cZ : ∀ W,Below w.heap.size w W→Calls Tryz.prog 23 #[.agg (cmV x.cm),.agg zeroV] W (Says W (zeroCM x.cm L.rs L.ws)):=fun W hW=>dZero_any x.cm L.rs L.ws W (h.cm.later hW) hf.n hf.m
 have HP : Hid (firstB x L = (!bad1 x && (!bad2 x && (!bad3 x && (if with4 x then formCm (cmT x.cm L.rs L.ws) else zeroCM x.cm L.rs L.ws))))):=rfl
 generalize firstB x L = P at *
 generalize formCm (cmT x.cm L.rs L.ws) = FB at *
 generalize zeroCM x.cm L.rs L.ws = Z at *
 clear h hf
 have X:=hid H0.out
 clear H0
 have x0:=X.c 0 0 rfl rfl
 go_enter Tryz.func80,Tryz.ntmps80
 go_upto_region 2 with (fail)
 clear x0
 go_cut [24] (fun c wr=>c = .bool (bad1 x)∧Boxs w wr [(w.heap.size,mgV x,46)])
 case first =>
  have x1:=X.c 0 1 rfl rfl;have x2:=X.c 0 2 rfl rfl
  cases ua1 : uBal x.k
  ·rw [ua1] at cUuBal
   have Ua1:=hid ua1
   clear ua1
   rcases id_cases ((x.br : Nat) : Int) x.bn 0 0 with ⟨ea2,qa2,ra2⟩ | ⟨ea2,qa2⟩ | ⟨ea2,qa2,ra2⟩
   ·have nqa2 : (((x.br : Nat) : Int) != 0) = false:=by simp only [bne,qa2];rfl
    have nra2 : (x.bn != 0) = false:=by simp only [bne,ra2];rfl
    have Ea2:=hid ea2
    clear ea2
    go_wp2_with (go_at_call 17;((with_reducible refine (cUuBal _).mono ?_);rintro e w0 ⟨rfl,rfl⟩))
    go_meet
    case rel=>exact ⟨by unfold bad1;simp only [Ua1.out,Ea2.out,Bool.false_and,Bool.and_false,Bool.or_false,Bool.not_true,Bool.not_false],X.out⟩
   ·have nqa2 : (((x.br : Nat) : Int) != 0) = true:=by simp only [bne,qa2];rfl
    have Ea2:=hid ea2
    clear ea2
    go_wp2_with (go_at_call 17;((with_reducible refine (cUuBal _).mono ?_);rintro e w0 ⟨rfl,rfl⟩))
    go_meet
    case rel=>exact ⟨by unfold bad1;simp only [Ua1.out,Ea2.out,Bool.and_true,Bool.false_and,Bool.or_true,Bool.not_false],X.out⟩
   ·have nqa2 : (((x.br : Nat) : Int) != 0) = false:=by simp only [bne,qa2];rfl
    have nra2 : (x.bn != 0) = true:=by simp only [bne,ra2];rfl
    have Ea2:=hid ea2
    clear ea2
    go_wp2_with (go_at_call 17;((with_reducible refine (cUuBal _).mono ?_);rintro e w0 ⟨rfl,rfl⟩))
    go_meet
    case rel=>exact ⟨by unfold bad1;simp only [Ua1.out,Ea2.out,Bool.and_true,Bool.false_and,Bool.or_true,Bool.not_false],X.out⟩
  ·rw [ua1] at cUuBal
   have Ua1:=hid ua1
   clear ua1
   cases ua3 : formB x.bn
   ·rw [ua3] at cFb
    have Ua3:=hid ua3
    clear ua3
    go_wp2_with (first | (go_at_call 17;((with_reducible refine (cUuBal _).mono ?_);rintro e w0 ⟨rfl,rfl⟩)) | (go_at_call 75;((with_reducible refine (cFb _).mono ?_);rintro e v1 ⟨rfl,hv1⟩;have Y1:=hid (X.out.below hv1);(clear x1 x2);have x1:=Y1.c 0 1 rfl rfl;have x2:=Y1.c 0 2 rfl rfl)))
    go_meet
    case rel=>exact ⟨by unfold bad1;simp only [Ua1.out,Ua3.out,Bool.and_true,Bool.false_and,Bool.or_false,Bool.not_true,Bool.not_false],Y1.out⟩
   ·rw [ua3] at cFb
    have Ua3:=hid ua3
    clear ua3
    go_wp2_with (first | (go_at_call 17;((with_reducible refine (cUuBal _).mono ?_);rintro e w0 ⟨rfl,rfl⟩)) | (go_at_call 75;((with_reducible refine (cFb _).mono ?_);rintro e v1 ⟨rfl,hv1⟩;have Y1:=hid (X.out.below hv1);(clear x1 x2);have x1:=Y1.c 0 1 rfl rfl;have x2:=Y1.c 0 2 rfl rfl)))
    go_meet
    case rel=>exact ⟨by unfold bad1;simp only [Ua1.out,Ua3.out,Bool.false_and,Bool.and_false,Bool.or_false,Bool.not_true],Y1.out⟩
 case rest =>
 obtain ⟨rfl,hX⟩:=hcut
 clear X
 have X:=hid hX
 clear hX
 cases hbbad1 : bad1 x
 case true =>
  rw [hbbad1] at HP
  go_wp2
  go_ret
  exact ⟨by rw [HP.out];rfl,X.out.bel⟩
 case false =>
 rw [hbbad1] at HP
 clear hbbad1
 go_upto_region 4 with (fail)
 go_cut [51] (fun c wr=>c = .bool (bad2 x)∧Boxs w wr [(w.heap.size,mgV x,46)])
 case first =>
  have x3:=X.c 0 3 rfl rfl;have x4:=X.c 0 4 rfl rfl
  by_cases gb1 : x.sl < 0
  ·have db1 : decide (x.sl < 0) = true:=decide_eq_true gb1
   have Db1:=hid db1
   go_wp2
   go_meet
   case rel=>exact ⟨by unfold bad2;simp only [Db1.out,Bool.true_or],X.out⟩
  ·have db1 : decide (x.sl < 0) = false:=decide_eq_false gb1
   have Db1:=hid db1
   by_cases gb2 : 1000000 < x.sl
   ·have db2 : decide (1000000 < x.sl) = true:=decide_eq_true gb2
    have Db2:=hid db2
    go_wp2
    go_meet
    case rel=>exact ⟨by unfold bad2;simp only [Db1.out,Db2.out,Bool.true_or,Bool.or_true],X.out⟩
   ·have db2 : decide (1000000 < x.sl) = false:=decide_eq_false gb2
    have Db2:=hid db2
    cases ub3 : uSlot x.k
    ·rw [ub3] at cUuSlot
     have Ub3:=hid ub3
     clear ub3
     cases qb4 : (x.sl == 0)
     ·have nb4 : (x.sl != 0) = true:=by simp only [bne,qb4];rfl
      have Db4:=hid qb4
      go_wp2_with (go_at_call 17;((with_reducible refine (cUuSlot _).mono ?_);rintro e w0 ⟨rfl,rfl⟩))
      go_meet
      case rel=>exact ⟨by unfold bad2;simp only [Db1.out,Db2.out,Ub3.out,Db4.out,Bool.and_true,Bool.or_false,Bool.true_or,Bool.or_true,Bool.not_false],X.out⟩
     ·have nb4 : (x.sl != 0) = false:=by simp only [bne,qb4];rfl
      have Db4:=hid qb4
      cases qb5 : x.has
      ·have Db5:=hid qb5
       go_wp2_with (go_at_call 17;((with_reducible refine (cUuSlot _).mono ?_);rintro e w0 ⟨rfl,rfl⟩))
       go_meet
       case rel=>exact ⟨by unfold bad2;simp only [Db1.out,Db2.out,Ub3.out,Db4.out,Db5.out,Bool.false_and,Bool.and_false,Bool.or_false,Bool.not_true,Bool.not_false],X.out⟩
      ·have Db5:=hid qb5
       cases ub6 : uHas x.k
       ·rw [ub6] at cUuHas
        have Ub6:=hid ub6
        clear ub6
        go_wp2_with (first | (go_at_call 17;(with_reducible first | refine (cUuSlot _).mono ?_ | refine (cUuHas _).mono ?_);rintro e w0 ⟨rfl,rfl⟩))
        go_meet
        case rel=>exact ⟨by unfold bad2;simp only [Db1.out,Db2.out,Ub3.out,Db4.out,Db5.out,Ub6.out,Bool.and_true,Bool.and_false,Bool.or_false,Bool.or_true,Bool.not_true,Bool.not_false],X.out⟩
       ·rw [ub6] at cUuHas
        have Ub6:=hid ub6
        clear ub6
        go_wp2_with (first | (go_at_call 17;(with_reducible first | refine (cUuSlot _).mono ?_ | refine (cUuHas _).mono ?_);rintro e w0 ⟨rfl,rfl⟩))
        go_meet
        case rel=>exact ⟨by unfold bad2;simp only [Db1.out,Db2.out,Ub3.out,Db4.out,Db5.out,Ub6.out,Bool.and_false,Bool.or_false,Bool.not_true,Bool.not_false],X.out⟩
    ·rw [ub3] at cUuSlot
     have Ub3:=hid ub3
     clear ub3
     cases qb7 : x.has
     ·have Db7:=hid qb7
      go_wp2_with (go_at_call 17;((with_reducible refine (cUuSlot _).mono ?_);rintro e w0 ⟨rfl,rfl⟩))
      go_meet
      case rel=>exact ⟨by unfold bad2;simp only [Db1.out,Db2.out,Ub3.out,Db7.out,Bool.false_and,Bool.or_false,Bool.not_true],X.out⟩
     ·have Db7:=hid qb7
      cases ub8 : uHas x.k
      ·rw [ub8] at cUuHas
       have Ub8:=hid ub8
       clear ub8
       go_wp2_with (first | (go_at_call 17;(with_reducible first | refine (cUuSlot _).mono ?_ | refine (cUuHas _).mono ?_);rintro e w0 ⟨rfl,rfl⟩))
       go_meet
       case rel=>exact ⟨by unfold bad2;simp only [Db1.out,Db2.out,Ub3.out,Db7.out,Ub8.out,Bool.and_true,Bool.false_and,Bool.or_false,Bool.or_true,Bool.not_true,Bool.not_false],X.out⟩
      ·rw [ub8] at cUuHas
       have Ub8:=hid ub8
       clear ub8
       go_wp2_with (first | (go_at_call 17;(with_reducible first | refine (cUuSlot _).mono ?_ | refine (cUuHas _).mono ?_);rintro e w0 ⟨rfl,rfl⟩))
       go_meet
       case rel=>exact ⟨by unfold bad2;simp only [Db1.out,Db2.out,Ub3.out,Db7.out,Ub8.out,Bool.false_and,Bool.and_false,Bool.or_false,Bool.not_true],X.out⟩
 case rest =>
 obtain ⟨rfl,hX⟩:=hcut
 clear X
 have X:=hid hX
 clear hX
 cases hbbad2 : bad2 x
 case true =>
  rw [hbbad2] at HP
  go_wp2
  go_ret
  exact ⟨by rw [HP.out];rfl,X.out.bel⟩
 case false =>
 rw [hbbad2] at HP
 clear hbbad2
 go_upto_region 6 with (fail)
 go_cut [70] (fun c wr=>c = .bool (bad3 x)∧Boxs w wr [(w.heap.size,mgV x,46)])
 case first =>
  have x4:=X.c 0 4 rfl rfl;have x5:=X.c 0 5 rfl rfl;have x6:=X.c 0 6 rfl rfl
  cases qc1 : x.has
  ·have Dc1:=hid qc1
   rcases id_cases ((x.vr : Nat) : Int) x.vn 0 0 with ⟨ec2,qc2,rc2⟩ | ⟨ec2,qc2⟩ | ⟨ec2,qc2,rc2⟩
   ·have nqc2 : (((x.vr : Nat) : Int) != 0) = false:=by simp only [bne,qc2];rfl
    have nrc2 : (x.vn != 0) = false:=by simp only [bne,rc2];rfl
    have Ec2:=hid ec2
    clear ec2
    go_wp2
    go_meet
    case rel=>exact ⟨by unfold bad3;simp only [Dc1.out,Ec2.out,Bool.false_and,Bool.and_false,Bool.or_false,Bool.not_true,Bool.not_false],X.out⟩
   ·have nqc2 : (((x.vr : Nat) : Int) != 0) = true:=by simp only [bne,qc2];rfl
    have Ec2:=hid ec2
    clear ec2
    go_wp2
    go_meet
    case rel=>exact ⟨by unfold bad3;simp only [Dc1.out,Ec2.out,Bool.and_true,Bool.false_and,Bool.or_true,Bool.not_false],X.out⟩
   ·have nqc2 : (((x.vr : Nat) : Int) != 0) = false:=by simp only [bne,qc2];rfl
    have nrc2 : (x.vn != 0) = true:=by simp only [bne,rc2];rfl
    have Ec2:=hid ec2
    clear ec2
    go_wp2
    go_meet
    case rel=>exact ⟨by unfold bad3;simp only [Dc1.out,Ec2.out,Bool.and_true,Bool.false_and,Bool.or_true,Bool.not_false],X.out⟩
  ·have Dc1:=hid qc1
   cases uc3 : formB x.vn
   ·rw [uc3] at cFv
    have Uc3:=hid uc3
    clear uc3
    go_wp2_with (go_at_call 75;((with_reducible refine (cFv _).mono ?_);rintro e v1 ⟨rfl,hv1⟩;have Y1:=hid (X.out.below hv1);(clear x4 x5 x6);have x4:=Y1.c 0 4 rfl rfl;have x5:=Y1.c 0 5 rfl rfl;have x6:=Y1.c 0 6 rfl rfl))
    go_meet
    case rel=>exact ⟨by unfold bad3;simp only [Dc1.out,Uc3.out,Bool.and_true,Bool.false_and,Bool.and_false,Bool.or_false,Bool.false_or,Bool.true_or,Bool.or_true,Bool.not_true,Bool.not_false],Y1.out⟩
   ·rw [uc3] at cFv
    have Uc3:=hid uc3
    clear uc3
    go_wp2_with (go_at_call 75;((with_reducible refine (cFv _).mono ?_);rintro e v1 ⟨rfl,hv1⟩;have Y1:=hid (X.out.below hv1);(clear x4 x5 x6);have x4:=Y1.c 0 4 rfl rfl;have x5:=Y1.c 0 5 rfl rfl;have x6:=Y1.c 0 6 rfl rfl))
    go_meet
    case rel=>exact ⟨by unfold bad3;simp only [Dc1.out,Uc3.out,Bool.and_true,Bool.true_and,Bool.false_and,Bool.and_false,Bool.or_false,Bool.false_or,Bool.true_or,Bool.or_true,Bool.not_true,Bool.not_false],Y1.out⟩
 case rest =>
 obtain ⟨rfl,hX⟩:=hcut
 clear X
 have X:=hid hX
 clear hX
 cases hbbad3 : bad3 x
 case true =>
  rw [hbbad3] at HP
  go_wp2
  go_ret
  exact ⟨by rw [HP.out];rfl,X.out.bel⟩
 case false =>
 rw [hbbad3] at HP
 clear hbbad3
 go_upto_region 8 with (fail)
 go_cut [76] (fun c wr=>c = .bool (with4 x)∧Boxs w wr [(w.heap.size,mgV x,46)])
 case first =>
  have x4:=X.c 0 4 rfl rfl
  cases qd1 : x.has
  ·have Dd1:=hid qd1
   cases ud2 : uCmd x.k
   ·rw [ud2] at cUuCmd
    have Ud2:=hid ud2
    clear ud2
    go_wp2_with (go_at_call 17;((with_reducible refine (cUuCmd _).mono ?_);rintro e w0 ⟨rfl,rfl⟩))
    go_meet
    case rel=>exact ⟨by unfold with4;simp only [Dd1.out,Ud2.out,Bool.and_true,Bool.true_and,Bool.false_and,Bool.and_false,Bool.or_false,Bool.false_or,Bool.true_or,Bool.or_true,Bool.not_true,Bool.not_false],X.out⟩
   ·rw [ud2] at cUuCmd
    have Ud2:=hid ud2
    clear ud2
    go_wp2_with (go_at_call 17;((with_reducible refine (cUuCmd _).mono ?_);rintro e w0 ⟨rfl,rfl⟩))
    go_meet
    case rel=>exact ⟨by unfold with4;simp only [Dd1.out,Ud2.out,Bool.and_true,Bool.true_and,Bool.false_and,Bool.and_false,Bool.or_false,Bool.false_or,Bool.true_or,Bool.or_true,Bool.not_true,Bool.not_false],X.out⟩
  ·have Dd1:=hid qd1
   go_wp2
   go_meet
   case rel=>exact ⟨by unfold with4;simp only [Dd1.out,Bool.and_true,Bool.true_and,Bool.false_and,Bool.and_false,Bool.or_false,Bool.false_or,Bool.true_or,Bool.or_true,Bool.not_true,Bool.not_false],X.out⟩
 case rest =>
 obtain ⟨rfl,hX⟩:=hcut
 clear X
 have X:=hid hX
 clear hX
 have x7:=X.c 0 7 rfl rfl;have x8:=X.c 0 8 rfl rfl;have x9:=X.c 0 9 rfl rfl;have x10:=X.c 0 10 rfl rfl;have x11:=X.c 0 11 rfl rfl;have x12:=X.c 0 12 rfl rfl;have x13:=X.c 0 13 rfl rfl;have x14:=X.c 0 14 rfl rfl;have x15:=X.c 0 15 rfl rfl;have x16:=X.c 0 16 rfl rfl
 cases hb : with4 x
 ·rw [hb] at HP
  clear cC
  go_wp2_with (go_at_call 23;((with_reducible refine (cZ _ X.out.bel).mono ?_);rintro e w9 ⟨rfl,hb9⟩;have X1:=hid (X.out.below hb9)))
  go_ret
  exact ⟨by rw [HP.out];rfl,X1.out.bel⟩
 ·rw [hb] at HP
  clear cZ
  go_wp2_with (go_at_call 76;((with_reducible refine (cC _ X.out.bel).mono ?_);rintro e w9 ⟨rfl,hb9⟩;have X1:=hid (X.out.below hb9)))
  go_ret
  exact ⟨by rw [HP.out];rfl,X1.out.bel⟩
theorem rSecond_any (x : MgM) (L : MgL) (w : World) (h : MgAt w x L) (hf : MgF x) :
  Calls Tryz.prog 81 #[.agg (mgV x)] w (Says w (secondB x L)):=by
 have H0:=hid ((Boxs.start w).more (mgV x) 46)
 have cUuGrp:=fun W=>useGrp_any x.k W
 have cUuId:=fun W=>useId_any x.k W
 have cUuNum:=fun W=>useNum_any x.k W
 have cUuStp:=fun W=>useStp_any x.k W
 have cUuTxn:=fun W=>useTxn_any x.k W
 have cUuYes:=fun W=>useYes_any x.k W
 have cFt : ∀ W,Below w.heap.size w W→Calls Tryz.prog 77 #[.agg (txV x.s x.q x.a x.n x.c x.b x.m x.d)] W (Says W (formT formedB (txT (x.s,x.q) L.rt L.wt))):=fun W hW=>rFormedT_any x.s x.q x.a x.n x.c x.b x.m x.d L.rt L.wt W (h.tx.later hW)
 have cZt : ∀ W,Below w.heap.size w W→Calls Tryz.prog 24 #[.agg (txV x.s x.q x.a x.n x.c x.b x.m x.d),.agg (txV 0 0 none 0 0 none 0 0)] W (Says W (zeroTM x L)):=fun W hW=>by
  have h1:=rSame_any x.s x.q x.a x.n x.c x.b x.m x.d L.rt L.wt 0 0 none 0 0 none 0 0 [] [] W (h.tx.later hW) TxAt.nil hf.tn hf.tm
  rw [sameM_eqB] at h1;exact h1
 have cFi:=fun W=>rId_any x.i x.j W
 have HP : Hid (secondB x L = (!bad5 x L && (!bad6 x && (!bad7 x && good8 x)))):=rfl
 generalize secondB x L = P at *
 clear h hf
 have X:=hid H0.out
 clear H0
 have x0:=X.c 0 0 rfl rfl
 go_enter Tryz.func81,Tryz.ntmps81
 go_upto_region 2 with (fail)
 clear x0
 go_cut [25] (fun c wr=>c = .bool (bad5 x L)∧Boxs w wr [(w.heap.size,mgV x,46)])
 case first =>
  have x17:=X.c 0 17 rfl rfl;have x18:=X.c 0 18 rfl rfl;have x19:=X.c 0 19 rfl rfl;have x20:=X.c 0 20 rfl rfl
  cases ua1 : uTxn x.k
  ·rw [ua1] at cUuTxn
   have Ua1:=hid ua1
   clear ua1
   cases ua2 : zeroTM x L
   ·rw [ua2] at cZt
    have Ua2:=hid ua2
    clear ua2
    go_wp2_with (first | (go_at_call 17;((with_reducible refine (cUuTxn _).mono ?_);rintro e w0 ⟨rfl,rfl⟩)) | (go_at_call 24;((with_reducible refine (cZt _ X.out.bel).mono ?_);rintro e v1 ⟨rfl,hv1⟩;have Y1:=hid (X.out.below hv1);(clear x17 x18 x19 x20);have x17:=Y1.c 0 17 rfl rfl;have x18:=Y1.c 0 18 rfl rfl;have x19:=Y1.c 0 19 rfl rfl;have x20:=Y1.c 0 20 rfl rfl)))
    go_meet
    case rel=>exact ⟨by unfold bad5;simp only [Ua1.out,Ua2.out,Bool.and_true,Bool.true_and,Bool.false_and,Bool.and_false,Bool.or_false,Bool.false_or,Bool.true_or,Bool.or_true,Bool.not_true,Bool.not_false],Y1.out⟩
   ·rw [ua2] at cZt
    have Ua2:=hid ua2
    clear ua2
    go_wp2_with (first | (go_at_call 17;((with_reducible refine (cUuTxn _).mono ?_);rintro e w0 ⟨rfl,rfl⟩)) | (go_at_call 24;((with_reducible refine (cZt _ X.out.bel).mono ?_);rintro e v1 ⟨rfl,hv1⟩;have Y1:=hid (X.out.below hv1);(clear x17 x18 x19 x20);have x17:=Y1.c 0 17 rfl rfl;have x18:=Y1.c 0 18 rfl rfl;have x19:=Y1.c 0 19 rfl rfl;have x20:=Y1.c 0 20 rfl rfl)))
    go_meet
    case rel=>exact ⟨by unfold bad5;simp only [Ua1.out,Ua2.out,Bool.and_true,Bool.true_and,Bool.false_and,Bool.and_false,Bool.or_false,Bool.false_or,Bool.true_or,Bool.or_true,Bool.not_true,Bool.not_false],Y1.out⟩
  ·rw [ua1] at cUuTxn
   have Ua1:=hid ua1
   clear ua1
   cases ua3 : formT formedB (txT (x.s,x.q) L.rt L.wt)
   ·rw [ua3] at cFt
    have Ua3:=hid ua3
    clear ua3
    go_wp2_with (first | (go_at_call 17;((with_reducible refine (cUuTxn _).mono ?_);rintro e w0 ⟨rfl,rfl⟩)) | (go_at_call 77;((with_reducible refine (cFt _ X.out.bel).mono ?_);rintro e v1 ⟨rfl,hv1⟩;have Y1:=hid (X.out.below hv1);(clear x17 x18 x19 x20);have x17:=Y1.c 0 17 rfl rfl;have x18:=Y1.c 0 18 rfl rfl;have x19:=Y1.c 0 19 rfl rfl;have x20:=Y1.c 0 20 rfl rfl)))
    go_meet
    case rel=>exact ⟨by unfold bad5;simp only [Ua1.out,Ua3.out,Bool.and_true,Bool.true_and,Bool.false_and,Bool.and_false,Bool.or_false,Bool.false_or,Bool.true_or,Bool.or_true,Bool.not_true,Bool.not_false],Y1.out⟩
   ·rw [ua3] at cFt
    have Ua3:=hid ua3
    clear ua3
    go_wp2_with (first | (go_at_call 17;((with_reducible refine (cUuTxn _).mono ?_);rintro e w0 ⟨rfl,rfl⟩)) | (go_at_call 77;((with_reducible refine (cFt _ X.out.bel).mono ?_);rintro e v1 ⟨rfl,hv1⟩;have Y1:=hid (X.out.below hv1);(clear x17 x18 x19 x20);have x17:=Y1.c 0 17 rfl rfl;have x18:=Y1.c 0 18 rfl rfl;have x19:=Y1.c 0 19 rfl rfl;have x20:=Y1.c 0 20 rfl rfl)))
    go_meet
    case rel=>exact ⟨by unfold bad5;simp only [Ua1.out,Ua3.out,Bool.and_true,Bool.true_and,Bool.false_and,Bool.and_false,Bool.or_false,Bool.false_or,Bool.true_or,Bool.or_true,Bool.not_true,Bool.not_false],Y1.out⟩
 case rest =>
 obtain ⟨rfl,hX⟩:=hcut
 clear X
 have X:=hid hX
 clear hX
 cases hbbad5 : bad5 x L
 case true =>
  rw [hbbad5] at HP
  go_wp2
  go_ret
  exact ⟨by rw [HP.out];rfl,X.out.bel⟩
 case false =>
 rw [hbbad5] at HP
 clear hbbad5
 go_upto_region 4 with (fail)
 go_cut [44] (fun c wr=>c = .bool (bad6 x)∧Boxs w wr [(w.heap.size,mgV x,46)])
 case first =>
  have x21:=X.c 0 21 rfl rfl;have x22:=X.c 0 22 rfl rfl
  cases ub1 : uId x.k
  ·rw [ub1] at cUuId
   have Ub1:=hid ub1
   clear ub1
   rcases id_cases x.i x.j 0 0 with ⟨eb2,qb2,rb2⟩ | ⟨eb2,qb2⟩ | ⟨eb2,qb2,rb2⟩
   ·have nqb2 : (x.i != 0) = false:=by simp only [bne,qb2];rfl
    have nrb2 : (x.j != 0) = false:=by simp only [bne,rb2];rfl
    have Eb2:=hid eb2
    clear eb2
    go_wp2_with (go_at_call 17;((with_reducible refine (cUuId _).mono ?_);rintro e w0 ⟨rfl,rfl⟩))
    go_meet
    case rel=>exact ⟨by unfold bad6;simp only [Ub1.out,Eb2.out,Bool.and_true,Bool.true_and,Bool.false_and,Bool.and_false,Bool.or_false,Bool.false_or,Bool.true_or,Bool.or_true,Bool.not_true,Bool.not_false],X.out⟩
   ·have nqb2 : (x.i != 0) = true:=by simp only [bne,qb2];rfl
    have Eb2:=hid eb2
    clear eb2
    go_wp2_with (go_at_call 17;((with_reducible refine (cUuId _).mono ?_);rintro e w0 ⟨rfl,rfl⟩))
    go_meet
    case rel=>exact ⟨by unfold bad6;simp only [Ub1.out,Eb2.out,Bool.and_true,Bool.true_and,Bool.false_and,Bool.and_false,Bool.or_false,Bool.false_or,Bool.true_or,Bool.or_true,Bool.not_true,Bool.not_false],X.out⟩
   ·have nqb2 : (x.i != 0) = false:=by simp only [bne,qb2];rfl
    have nrb2 : (x.j != 0) = true:=by simp only [bne,rb2];rfl
    have Eb2:=hid eb2
    clear eb2
    go_wp2_with (go_at_call 17;((with_reducible refine (cUuId _).mono ?_);rintro e w0 ⟨rfl,rfl⟩))
    go_meet
    case rel=>exact ⟨by unfold bad6;simp only [Ub1.out,Eb2.out,Bool.and_true,Bool.true_and,Bool.false_and,Bool.and_false,Bool.or_false,Bool.false_or,Bool.true_or,Bool.or_true,Bool.not_true,Bool.not_false],X.out⟩
  ·rw [ub1] at cUuId
   have Ub1:=hid ub1
   clear ub1
   cases ub3 : idB (x.i,x.j)
   ·rw [ub3] at cFi
    have Ub3:=hid ub3
    clear ub3
    go_wp2_with (first | (go_at_call 17;((with_reducible refine (cUuId _).mono ?_);rintro e w0 ⟨rfl,rfl⟩)) | (go_at_call 45;((with_reducible refine (cFi _).mono ?_);rintro e v1 ⟨rfl,hv1⟩;have Y1:=hid (X.out.below hv1);(clear x21 x22);have x21:=Y1.c 0 21 rfl rfl;have x22:=Y1.c 0 22 rfl rfl)))
    go_meet
    case rel=>exact ⟨by unfold bad6;simp only [Ub1.out,Ub3.out,Bool.and_true,Bool.true_and,Bool.false_and,Bool.and_false,Bool.or_false,Bool.false_or,Bool.true_or,Bool.or_true,Bool.not_true,Bool.not_false],Y1.out⟩
   ·rw [ub3] at cFi
    have Ub3:=hid ub3
    clear ub3
    go_wp2_with (first | (go_at_call 17;((with_reducible refine (cUuId _).mono ?_);rintro e w0 ⟨rfl,rfl⟩)) | (go_at_call 45;((with_reducible refine (cFi _).mono ?_);rintro e v1 ⟨rfl,hv1⟩;have Y1:=hid (X.out.below hv1);(clear x21 x22);have x21:=Y1.c 0 21 rfl rfl;have x22:=Y1.c 0 22 rfl rfl)))
    go_meet
    case rel=>exact ⟨by unfold bad6;simp only [Ub1.out,Ub3.out,Bool.and_true,Bool.true_and,Bool.false_and,Bool.and_false,Bool.or_false,Bool.false_or,Bool.true_or,Bool.or_true,Bool.not_true,Bool.not_false],Y1.out⟩
 case rest =>
 obtain ⟨rfl,hX⟩:=hcut
 clear X
 have X:=hid hX
 clear hX
 cases hbbad6 : bad6 x
 case true =>
  rw [hbbad6] at HP
  go_wp2
  go_ret
  exact ⟨by rw [HP.out];rfl,X.out.bel⟩
 case false =>
 rw [hbbad6] at HP
 clear hbbad6
 go_upto_region 6 with (fail)
 go_cut [81] (fun c wr=>c = .bool (bad7 x)∧Boxs w wr [(w.heap.size,mgV x,46)])
 case first =>
  have x23:=X.c 0 23 rfl rfl;have x24:=X.c 0 24 rfl rfl;have x25:=X.c 0 25 rfl rfl
  by_cases gc1 : x.g < 0
  ·have dc1 : decide (x.g < 0) = true:=decide_eq_true gc1
   have Dc1:=hid dc1
   go_wp2
   go_meet
   case rel=>exact ⟨by unfold bad7;simp only [Dc1.out,Bool.and_true,Bool.true_and,Bool.false_and,Bool.and_false,Bool.or_false,Bool.false_or,Bool.true_or,Bool.or_true,Bool.not_true,Bool.not_false],X.out⟩
  ·have dc1 : decide (x.g < 0) = false:=decide_eq_false gc1
   have Dc1:=hid dc1
   by_cases gc2 : 4≤x.g
   ·have dc2 : decide (4≤x.g) = true:=decide_eq_true gc2
    have Dc2:=hid dc2
    go_wp2
    go_meet
    case rel=>exact ⟨by unfold bad7;simp only [Dc1.out,Dc2.out,Bool.and_true,Bool.true_and,Bool.false_and,Bool.and_false,Bool.or_false,Bool.false_or,Bool.true_or,Bool.or_true,Bool.not_true,Bool.not_false],X.out⟩
   ·have dc2 : decide (4≤x.g) = false:=decide_eq_false gc2
    have Dc2:=hid dc2
    cases uc3 : uGrp x.k
    ·rw [uc3] at cUuGrp
     have Uc3:=hid uc3
     clear uc3
     cases qc4 : (x.g == 0)
     ·have nc4 : (x.g != 0) = true:=by simp only [bne,qc4];rfl
      have Dc4:=hid qc4
      go_wp2_with (go_at_call 17;((with_reducible refine (cUuGrp _).mono ?_);rintro e w0 ⟨rfl,rfl⟩))
      go_meet
      case rel=>exact ⟨by unfold bad7;simp only [Dc1.out,Dc2.out,Uc3.out,Dc4.out,Bool.and_true,Bool.true_and,Bool.false_and,Bool.and_false,Bool.or_false,Bool.false_or,Bool.true_or,Bool.or_true,Bool.not_true,Bool.not_false],X.out⟩
     ·have nc4 : (x.g != 0) = false:=by simp only [bne,qc4];rfl
      have Dc4:=hid qc4
      cases uc5 : uStp x.k
      ·rw [uc5] at cUuStp
       have Uc5:=hid uc5
       clear uc5
       cases qc6 : (((x.st : Nat) : Int) == 0)
       ·have nc6 : (((x.st : Nat) : Int) != 0) = true:=by simp only [bne,qc6];rfl
        have Dc6:=hid qc6
        go_wp2_with (first | (go_at_call 17;(with_reducible first | refine (cUuGrp _).mono ?_ | refine (cUuStp _).mono ?_);rintro e w0 ⟨rfl,rfl⟩))
        go_meet
        case rel=>exact ⟨by unfold bad7;simp only [Dc1.out,Dc2.out,Uc3.out,Dc4.out,Uc5.out,Dc6.out,Bool.and_true,Bool.true_and,Bool.false_and,Bool.and_false,Bool.or_false,Bool.false_or,Bool.true_or,Bool.or_true,Bool.not_true,Bool.not_false],X.out⟩
       ·have nc6 : (((x.st : Nat) : Int) != 0) = false:=by simp only [bne,qc6];rfl
        have Dc6:=hid qc6
        cases qc7 : x.y
        ·have Dc7:=hid qc7
         go_wp2_with (first | (go_at_call 17;(with_reducible first | refine (cUuGrp _).mono ?_ | refine (cUuStp _).mono ?_);rintro e w0 ⟨rfl,rfl⟩))
         go_meet
         case rel=>exact ⟨by unfold bad7;simp only [Dc1.out,Dc2.out,Uc3.out,Dc4.out,Uc5.out,Dc6.out,Dc7.out,Bool.and_true,Bool.true_and,Bool.false_and,Bool.and_false,Bool.or_false,Bool.false_or,Bool.true_or,Bool.or_true,Bool.not_true,Bool.not_false],X.out⟩
        ·have Dc7:=hid qc7
         cases uc8 : uYes x.k
         ·rw [uc8] at cUuYes
          have Uc8:=hid uc8
          clear uc8
          go_wp2_with (first | (go_at_call 17;(with_reducible first | refine (cUuGrp _).mono ?_ | refine (cUuStp _).mono ?_ | refine (cUuYes _).mono ?_);rintro e w0 ⟨rfl,rfl⟩))
          go_meet
          case rel=>exact ⟨by unfold bad7;simp only [Dc1.out,Dc2.out,Uc3.out,Dc4.out,Uc5.out,Dc6.out,Dc7.out,Uc8.out,Bool.and_true,Bool.true_and,Bool.false_and,Bool.and_false,Bool.or_false,Bool.false_or,Bool.true_or,Bool.or_true,Bool.not_true,Bool.not_false],X.out⟩
         ·rw [uc8] at cUuYes
          have Uc8:=hid uc8
          clear uc8
          go_wp2_with (first | (go_at_call 17;(with_reducible first | refine (cUuGrp _).mono ?_ | refine (cUuStp _).mono ?_ | refine (cUuYes _).mono ?_);rintro e w0 ⟨rfl,rfl⟩))
          go_meet
          case rel=>exact ⟨by unfold bad7;simp only [Dc1.out,Dc2.out,Uc3.out,Dc4.out,Uc5.out,Dc6.out,Dc7.out,Uc8.out,Bool.and_true,Bool.true_and,Bool.false_and,Bool.and_false,Bool.or_false,Bool.false_or,Bool.true_or,Bool.or_true,Bool.not_true,Bool.not_false],X.out⟩
      ·rw [uc5] at cUuStp
       have Uc5:=hid uc5
       clear uc5
       cases qc9 : x.y
       ·have Dc9:=hid qc9
        go_wp2_with (first | (go_at_call 17;(with_reducible first | refine (cUuGrp _).mono ?_ | refine (cUuStp _).mono ?_);rintro e w0 ⟨rfl,rfl⟩))
        go_meet
        case rel=>exact ⟨by unfold bad7;simp only [Dc1.out,Dc2.out,Uc3.out,Dc4.out,Uc5.out,Dc9.out,Bool.and_true,Bool.true_and,Bool.false_and,Bool.and_false,Bool.or_false,Bool.false_or,Bool.true_or,Bool.or_true,Bool.not_true,Bool.not_false],X.out⟩
       ·have Dc9:=hid qc9
        cases uc10 : uYes x.k
        ·rw [uc10] at cUuYes
         have Uc10:=hid uc10
         clear uc10
         go_wp2_with (first | (go_at_call 17;(with_reducible first | refine (cUuGrp _).mono ?_ | refine (cUuStp _).mono ?_ | refine (cUuYes _).mono ?_);rintro e w0 ⟨rfl,rfl⟩))
         go_meet
         case rel=>exact ⟨by unfold bad7;simp only [Dc1.out,Dc2.out,Uc3.out,Dc4.out,Uc5.out,Dc9.out,Uc10.out,Bool.and_true,Bool.true_and,Bool.false_and,Bool.and_false,Bool.or_false,Bool.false_or,Bool.true_or,Bool.or_true,Bool.not_true,Bool.not_false],X.out⟩
        ·rw [uc10] at cUuYes
         have Uc10:=hid uc10
         clear uc10
         go_wp2_with (first | (go_at_call 17;(with_reducible first | refine (cUuGrp _).mono ?_ | refine (cUuStp _).mono ?_ | refine (cUuYes _).mono ?_);rintro e w0 ⟨rfl,rfl⟩))
         go_meet
         case rel=>exact ⟨by unfold bad7;simp only [Dc1.out,Dc2.out,Uc3.out,Dc4.out,Uc5.out,Dc9.out,Uc10.out,Bool.and_true,Bool.true_and,Bool.false_and,Bool.and_false,Bool.or_false,Bool.false_or,Bool.true_or,Bool.or_true,Bool.not_true,Bool.not_false],X.out⟩
    ·rw [uc3] at cUuGrp
     have Uc3:=hid uc3
     clear uc3
     cases uc11 : uStp x.k
     ·rw [uc11] at cUuStp
      have Uc11:=hid uc11
      clear uc11
      cases qc12 : (((x.st : Nat) : Int) == 0)
      ·have nc12 : (((x.st : Nat) : Int) != 0) = true:=by simp only [bne,qc12];rfl
       have Dc12:=hid qc12
       go_wp2_with (first | (go_at_call 17;(with_reducible first | refine (cUuGrp _).mono ?_ | refine (cUuStp _).mono ?_);rintro e w0 ⟨rfl,rfl⟩))
       go_meet
       case rel=>exact ⟨by unfold bad7;simp only [Dc1.out,Dc2.out,Uc3.out,Uc11.out,Dc12.out,Bool.and_true,Bool.true_and,Bool.false_and,Bool.and_false,Bool.or_false,Bool.false_or,Bool.true_or,Bool.or_true,Bool.not_true,Bool.not_false],X.out⟩
      ·have nc12 : (((x.st : Nat) : Int) != 0) = false:=by simp only [bne,qc12];rfl
       have Dc12:=hid qc12
       cases qc13 : x.y
       ·have Dc13:=hid qc13
        go_wp2_with (first | (go_at_call 17;(with_reducible first | refine (cUuGrp _).mono ?_ | refine (cUuStp _).mono ?_);rintro e w0 ⟨rfl,rfl⟩))
        go_meet
        case rel=>exact ⟨by unfold bad7;simp only [Dc1.out,Dc2.out,Uc3.out,Uc11.out,Dc12.out,Dc13.out,Bool.and_true,Bool.true_and,Bool.false_and,Bool.and_false,Bool.or_false,Bool.false_or,Bool.true_or,Bool.or_true,Bool.not_true,Bool.not_false],X.out⟩
       ·have Dc13:=hid qc13
        cases uc14 : uYes x.k
        ·rw [uc14] at cUuYes
         have Uc14:=hid uc14
         clear uc14
         go_wp2_with (first | (go_at_call 17;(with_reducible first | refine (cUuGrp _).mono ?_ | refine (cUuStp _).mono ?_ | refine (cUuYes _).mono ?_);rintro e w0 ⟨rfl,rfl⟩))
         go_meet
         case rel=>exact ⟨by unfold bad7;simp only [Dc1.out,Dc2.out,Uc3.out,Uc11.out,Dc12.out,Dc13.out,Uc14.out,Bool.and_true,Bool.true_and,Bool.false_and,Bool.and_false,Bool.or_false,Bool.false_or,Bool.true_or,Bool.or_true,Bool.not_true,Bool.not_false],X.out⟩
        ·rw [uc14] at cUuYes
         have Uc14:=hid uc14
         clear uc14
         go_wp2_with (first | (go_at_call 17;(with_reducible first | refine (cUuGrp _).mono ?_ | refine (cUuStp _).mono ?_ | refine (cUuYes _).mono ?_);rintro e w0 ⟨rfl,rfl⟩))
         go_meet
         case rel=>exact ⟨by unfold bad7;simp only [Dc1.out,Dc2.out,Uc3.out,Uc11.out,Dc12.out,Dc13.out,Uc14.out,Bool.and_true,Bool.true_and,Bool.false_and,Bool.and_false,Bool.or_false,Bool.false_or,Bool.true_or,Bool.or_true,Bool.not_true,Bool.not_false],X.out⟩
     ·rw [uc11] at cUuStp
      have Uc11:=hid uc11
      clear uc11
      cases qc15 : x.y
      ·have Dc15:=hid qc15
       go_wp2_with (first | (go_at_call 17;(with_reducible first | refine (cUuGrp _).mono ?_ | refine (cUuStp _).mono ?_);rintro e w0 ⟨rfl,rfl⟩))
       go_meet
       case rel=>exact ⟨by unfold bad7;simp only [Dc1.out,Dc2.out,Uc3.out,Uc11.out,Dc15.out,Bool.and_true,Bool.true_and,Bool.false_and,Bool.and_false,Bool.or_false,Bool.false_or,Bool.true_or,Bool.or_true,Bool.not_true,Bool.not_false],X.out⟩
      ·have Dc15:=hid qc15
       cases uc16 : uYes x.k
       ·rw [uc16] at cUuYes
        have Uc16:=hid uc16
        clear uc16
        go_wp2_with (first | (go_at_call 17;(with_reducible first | refine (cUuGrp _).mono ?_ | refine (cUuStp _).mono ?_ | refine (cUuYes _).mono ?_);rintro e w0 ⟨rfl,rfl⟩))
        go_meet
        case rel=>exact ⟨by unfold bad7;simp only [Dc1.out,Dc2.out,Uc3.out,Uc11.out,Dc15.out,Uc16.out,Bool.and_true,Bool.true_and,Bool.false_and,Bool.and_false,Bool.or_false,Bool.false_or,Bool.true_or,Bool.or_true,Bool.not_true,Bool.not_false],X.out⟩
       ·rw [uc16] at cUuYes
        have Uc16:=hid uc16
        clear uc16
        go_wp2_with (first | (go_at_call 17;(with_reducible first | refine (cUuGrp _).mono ?_ | refine (cUuStp _).mono ?_ | refine (cUuYes _).mono ?_);rintro e w0 ⟨rfl,rfl⟩))
        go_meet
        case rel=>exact ⟨by unfold bad7;simp only [Dc1.out,Dc2.out,Uc3.out,Uc11.out,Dc15.out,Uc16.out,Bool.and_true,Bool.true_and,Bool.false_and,Bool.and_false,Bool.or_false,Bool.false_or,Bool.true_or,Bool.or_true,Bool.not_true,Bool.not_false],X.out⟩
 case rest =>
 obtain ⟨rfl,hX⟩:=hcut
 clear X
 have X:=hid hX
 clear hX
 cases hbbad7 : bad7 x
 case true =>
  rw [hbbad7] at HP
  go_wp2
  go_ret
  exact ⟨by rw [HP.out];rfl,X.out.bel⟩
 case false =>
 rw [hbbad7] at HP
 clear hbbad7
 have x26:=X.c 0 26 rfl rfl
 by_cases gd1 : 0≤x.nu
 ·have dd1 : decide (0≤x.nu) = true:=decide_eq_true gd1
  have Dd1:=hid dd1
  by_cases gd2 : x.nu≤2147483647
  ·have dd2 : decide (x.nu≤2147483647) = true:=decide_eq_true gd2
   have Dd2:=hid dd2
   cases ud3 : uNum x.k
   ·rw [ud3] at cUuNum
    have Ud3:=hid ud3
    clear ud3
    cases qd4 : (x.nu == 0)
    ·have nd4 : (x.nu != 0) = true:=by simp only [bne,qd4];rfl
     have Dd4:=hid qd4
     go_wp2_with (go_at_call 17;((with_reducible refine (cUuNum _).mono ?_);rintro e w0 ⟨rfl,rfl⟩))
     go_ret
     exact ⟨by rw [HP.out];unfold good8;simp only [Dd1.out,Dd2.out,Ud3.out,Dd4.out,Bool.and_true,Bool.true_and,Bool.false_and,Bool.and_false,Bool.or_false,Bool.false_or,Bool.true_or,Bool.or_true,Bool.not_true,Bool.not_false] <;> rfl,X.out.bel⟩
    ·have nd4 : (x.nu != 0) = false:=by simp only [bne,qd4];rfl
     have Dd4:=hid qd4
     go_wp2_with (go_at_call 17;((with_reducible refine (cUuNum _).mono ?_);rintro e w0 ⟨rfl,rfl⟩))
     go_ret
     exact ⟨by rw [HP.out];unfold good8;simp only [Dd1.out,Dd2.out,Ud3.out,Dd4.out,Bool.and_true,Bool.true_and,Bool.false_and,Bool.and_false,Bool.or_false,Bool.false_or,Bool.true_or,Bool.or_true,Bool.not_true,Bool.not_false] <;> rfl,X.out.bel⟩
   ·rw [ud3] at cUuNum
    have Ud3:=hid ud3
    clear ud3
    go_wp2_with (go_at_call 17;((with_reducible refine (cUuNum _).mono ?_);rintro e w0 ⟨rfl,rfl⟩))
    go_ret
    exact ⟨by rw [HP.out];unfold good8;simp only [Dd1.out,Dd2.out,Ud3.out,Bool.and_true,Bool.true_and,Bool.false_and,Bool.and_false,Bool.or_false,Bool.false_or,Bool.true_or,Bool.or_true,Bool.not_true,Bool.not_false] <;> rfl,X.out.bel⟩
  ·have dd2 : decide (x.nu≤2147483647) = false:=decide_eq_false gd2
   have Dd2:=hid dd2
   go_wp2
   go_ret
   exact ⟨by rw [HP.out];unfold good8;simp only [Dd1.out,Dd2.out,Bool.and_true,Bool.true_and,Bool.false_and,Bool.and_false,Bool.or_false,Bool.false_or,Bool.true_or,Bool.or_true,Bool.not_true,Bool.not_false] <;> rfl,X.out.bel⟩
 ·have dd1 : decide (0≤x.nu) = false:=decide_eq_false gd1
  have Dd1:=hid dd1
  go_wp2
  go_ret
  exact ⟨by rw [HP.out];unfold good8;simp only [Dd1.out,Bool.and_true,Bool.true_and,Bool.false_and,Bool.and_false,Bool.or_false,Bool.false_or,Bool.true_or,Bool.or_true,Bool.not_true,Bool.not_false] <;> rfl,X.out.bel⟩
theorem rFormedG_gen (x : MgM) (L : MgL) (w : World) (h : MgAt w x L) (hf : MgF x) :
  Calls Tryz.prog 47 #[.agg (mgV x)] w (Says w (formedD x L)):=by
 have H0:=hid ((Boxs.start w).more (mgV x) 46)
 have cUuDat:=fun W=>useDat_any x.k W
 have cUuKey:=fun W=>useKey_any x.k W
 have cUuVal:=fun W=>useVal_any x.k W
 have cF1:=fun W (hW : Below w.heap.size w W)=>rFirst_any x L W (h.later hW) hf
 have cF2:=fun W (hW : Below w.heap.size w W)=>rSecond_any x L W (h.later hW) hf
 have cFk : ∀ W,Calls Tryz.prog 82 #[.string x.key] W (Says W (keyB x.key.data.toList)):=fun W=>(refKey_any x.key W h.nb.key).mono fun _ _ h=>⟨h.1,h.2 ▸ Below.refl _ _⟩
 have cFx : ∀ W,Calls Tryz.prog 46 #[.agg #[.int .i64 x.vk,.int .u64 ((x.vb : Nat) : Int),.string x.vt]] W (Says W (formedB ⟨x.vk,x.vb,x.vt.data.toList⟩)):=fun W=>refFormed_any x.vk x.vb x.vt W h.nb.vb h.nb.vt
 have HP : Hid (formedD x L = (!bad9 x L && (!bad10 x && (!bad11 x && (!bad12 x && good13 x))))):=rfl
 generalize formedD x L = P at *
 clear h hf
 have X:=hid H0.out
 clear H0
 go_enter Tryz.func47,Tryz.ntmps47
 go_upto_region 1 with (fail)
 go_cut [20] (fun c wr=>c = .bool (bad9 x L)∧Boxs w wr [(w.heap.size,mgV x,46)])
 case first =>
  have x0:=X.c 0 0 rfl rfl;have xW:=hid ((X.g 0 rfl).ldR)
  by_cases ga1 : x.k < 1
  ·have da1 : decide (x.k < 1) = true:=decide_eq_true ga1
   have Da1:=hid da1
   go_wp2_with (refine wpList_load_at rfl 46 _ rfl _ _ rfl xW.out ?_)
   go_meet
   case rel=>exact ⟨by unfold bad9;simp only [Da1.out,Bool.and_true,Bool.true_and,Bool.false_and,Bool.and_false,Bool.or_false,Bool.false_or,Bool.true_or,Bool.or_true,Bool.not_true,Bool.not_false],X.out⟩
  ·have da1 : decide (x.k < 1) = false:=decide_eq_false ga1
   have Da1:=hid da1
   by_cases ga2 : 15 < x.k
   ·have da2 : decide (15 < x.k) = true:=decide_eq_true ga2
    have Da2:=hid da2
    go_wp2_with (refine wpList_load_at rfl 46 _ rfl _ _ rfl xW.out ?_)
    go_meet
    case rel=>exact ⟨by unfold bad9;simp only [Da1.out,Da2.out,Bool.and_true,Bool.true_and,Bool.false_and,Bool.and_false,Bool.or_false,Bool.false_or,Bool.true_or,Bool.or_true,Bool.not_true,Bool.not_false],X.out⟩
   ·have da2 : decide (15 < x.k) = false:=decide_eq_false ga2
    have Da2:=hid da2
    cases ua3 : firstB x L
    ·rw [ua3] at cF1
     have Ua3:=hid ua3
     clear ua3
     go_wp2_with (first | (refine wpList_load_at rfl 46 _ rfl _ _ rfl xW.out ?_) | (go_at_call 80;((with_reducible refine (cF1 _ X.out.bel).mono ?_);rintro e v1 ⟨rfl,hv1⟩;have Y1:=hid (X.out.below hv1);(clear x0 xW);have x0:=Y1.c 0 0 rfl rfl;have xW:=hid ((Y1.g 0 rfl).ldR))))
     go_meet
     case rel=>exact ⟨by unfold bad9;simp only [Da1.out,Da2.out,Ua3.out,Bool.and_true,Bool.true_and,Bool.false_and,Bool.and_false,Bool.or_false,Bool.false_or,Bool.true_or,Bool.or_true,Bool.not_true,Bool.not_false],Y1.out⟩
    ·rw [ua3] at cF1
     have Ua3:=hid ua3
     clear ua3
     cases ua4 : secondB x L
     ·rw [ua4] at cF2
      have Ua4:=hid ua4
      clear ua4
      go_wp2_with (first | (refine wpList_load_at rfl 46 _ rfl _ _ rfl xW.out ?_) | (go_at_call 80;((with_reducible refine (cF1 _ X.out.bel).mono ?_);rintro e v1 ⟨rfl,hv1⟩;have Y1:=hid (X.out.below hv1);(clear x0 xW);have x0:=Y1.c 0 0 rfl rfl;have xW:=hid ((Y1.g 0 rfl).ldR))) | (go_at_call 81;((with_reducible refine (cF2 _ Y1.out.bel).mono ?_);rintro e v2 ⟨rfl,hv2⟩;have Y2:=hid (Y1.out.below hv2);(clear x0 xW);have x0:=Y2.c 0 0 rfl rfl;have xW:=hid ((Y2.g 0 rfl).ldR))))
      go_meet
      case rel=>exact ⟨by unfold bad9;simp only [Da1.out,Da2.out,Ua3.out,Ua4.out,Bool.and_true,Bool.true_and,Bool.false_and,Bool.and_false,Bool.or_false,Bool.false_or,Bool.true_or,Bool.or_true,Bool.not_true,Bool.not_false],Y2.out⟩
     ·rw [ua4] at cF2
      have Ua4:=hid ua4
      clear ua4
      go_wp2_with (first | (refine wpList_load_at rfl 46 _ rfl _ _ rfl xW.out ?_) | (go_at_call 80;((with_reducible refine (cF1 _ X.out.bel).mono ?_);rintro e v1 ⟨rfl,hv1⟩;have Y1:=hid (X.out.below hv1);(clear x0 xW);have x0:=Y1.c 0 0 rfl rfl;have xW:=hid ((Y1.g 0 rfl).ldR))) | (go_at_call 81;((with_reducible refine (cF2 _ Y1.out.bel).mono ?_);rintro e v2 ⟨rfl,hv2⟩;have Y2:=hid (Y1.out.below hv2);(clear x0 xW);have x0:=Y2.c 0 0 rfl rfl;have xW:=hid ((Y2.g 0 rfl).ldR))))
      go_meet
      case rel=>exact ⟨by unfold bad9;simp only [Da1.out,Da2.out,Ua3.out,Ua4.out,Bool.and_true,Bool.true_and,Bool.false_and,Bool.and_false,Bool.or_false,Bool.false_or,Bool.true_or,Bool.or_true,Bool.not_true,Bool.not_false],Y2.out⟩
 case rest =>
 obtain ⟨rfl,hX⟩:=hcut
 clear X
 have X:=hid hX
 clear hX
 cases hbbad9 : bad9 x L
 case true =>
  rw [hbbad9] at HP
  go_wp2
  go_ret
  exact ⟨by rw [HP.out];rfl,X.out.bel⟩
 case false =>
 rw [hbbad9] at HP
 clear hbbad9
 go_upto_region 3 with (fail)
 go_cut [50] (fun c wr=>c = .bool (bad10 x)∧Boxs w wr [(w.heap.size,mgV x,46)])
 case first =>
  have x0:=X.c 0 0 rfl rfl;have x27:=X.c 0 27 rfl rfl
  cases ub1 : uKey x.k
  ·rw [ub1] at cUuKey
   have Ub1:=hid ub1
   clear ub1
   rcases str0_cases x.key with ⟨eb2,qb2,nb2⟩ | ⟨eb2,qb2,nb2⟩
   ·have Eb2:=hid eb2
    clear eb2
    go_wp2_with (go_at_call 17;((with_reducible refine (cUuKey _).mono ?_);rintro e w0 ⟨rfl,rfl⟩))
    go_meet
    case rel=>exact ⟨by unfold bad10;simp only [Ub1.out,Eb2.out,Bool.and_true,Bool.true_and,Bool.false_and,Bool.and_false,Bool.or_false,Bool.false_or,Bool.true_or,Bool.or_true,Bool.not_true,Bool.not_false],X.out⟩
   ·have Eb2:=hid eb2
    clear eb2
    go_wp2_with (go_at_call 17;((with_reducible refine (cUuKey _).mono ?_);rintro e w0 ⟨rfl,rfl⟩))
    go_meet
    case rel=>exact ⟨by unfold bad10;simp only [Ub1.out,Eb2.out,Bool.and_true,Bool.true_and,Bool.false_and,Bool.and_false,Bool.or_false,Bool.false_or,Bool.true_or,Bool.or_true,Bool.not_true,Bool.not_false],X.out⟩
  ·rw [ub1] at cUuKey
   have Ub1:=hid ub1
   clear ub1
   cases ub3 : keyB x.key.data.toList
   ·rw [ub3] at cFk
    have Ub3:=hid ub3
    clear ub3
    cases qb4 : (x.k == 13)
    ·have nb4 : (x.k != 13) = true:=by simp only [bne,qb4];rfl
     have Db4:=hid qb4
     go_wp2_with (first | (go_at_call 17;((with_reducible refine (cUuKey _).mono ?_);rintro e w0 ⟨rfl,rfl⟩)) | (go_at_call 82;((with_reducible refine (cFk _).mono ?_);rintro e v1 ⟨rfl,hv1⟩;have Y1:=hid (X.out.below hv1);(clear x0 x27);have x0:=Y1.c 0 0 rfl rfl;have x27:=Y1.c 0 27 rfl rfl)))
     go_meet
     case rel=>exact ⟨by unfold bad10;simp only [Ub1.out,Ub3.out,Db4.out,Bool.and_true,Bool.true_and,Bool.false_and,Bool.and_false,Bool.or_false,Bool.false_or,Bool.true_or,Bool.or_true,Bool.not_true,Bool.not_false],Y1.out⟩
    ·have nb4 : (x.k != 13) = false:=by simp only [bne,qb4];rfl
     have Db4:=hid qb4
     rcases str0_cases x.key with ⟨eb5,qb5,nb5⟩ | ⟨eb5,qb5,nb5⟩
     ·have Eb5:=hid eb5
      clear eb5
      go_wp2_with (first | (go_at_call 17;((with_reducible refine (cUuKey _).mono ?_);rintro e w0 ⟨rfl,rfl⟩)) | (go_at_call 82;((with_reducible refine (cFk _).mono ?_);rintro e v1 ⟨rfl,hv1⟩;have Y1:=hid (X.out.below hv1);(clear x0 x27);have x0:=Y1.c 0 0 rfl rfl;have x27:=Y1.c 0 27 rfl rfl)))
      go_meet
      case rel=>exact ⟨by unfold bad10;simp only [Ub1.out,Ub3.out,Db4.out,Eb5.out,Bool.and_true,Bool.true_and,Bool.false_and,Bool.and_false,Bool.or_false,Bool.false_or,Bool.true_or,Bool.or_true,Bool.not_true,Bool.not_false],Y1.out⟩
     ·have Eb5:=hid eb5
      clear eb5
      go_wp2_with (first | (go_at_call 17;((with_reducible refine (cUuKey _).mono ?_);rintro e w0 ⟨rfl,rfl⟩)) | (go_at_call 82;((with_reducible refine (cFk _).mono ?_);rintro e v1 ⟨rfl,hv1⟩;have Y1:=hid (X.out.below hv1);(clear x0 x27);have x0:=Y1.c 0 0 rfl rfl;have x27:=Y1.c 0 27 rfl rfl)))
      go_meet
      case rel=>exact ⟨by unfold bad10;simp only [Ub1.out,Ub3.out,Db4.out,Eb5.out,Bool.and_true,Bool.true_and,Bool.false_and,Bool.and_false,Bool.or_false,Bool.false_or,Bool.true_or,Bool.or_true,Bool.not_true,Bool.not_false],Y1.out⟩
   ·rw [ub3] at cFk
    have Ub3:=hid ub3
    clear ub3
    go_wp2_with (first | (go_at_call 17;((with_reducible refine (cUuKey _).mono ?_);rintro e w0 ⟨rfl,rfl⟩)) | (go_at_call 82;((with_reducible refine (cFk _).mono ?_);rintro e v1 ⟨rfl,hv1⟩;have Y1:=hid (X.out.below hv1);(clear x0 x27);have x0:=Y1.c 0 0 rfl rfl;have x27:=Y1.c 0 27 rfl rfl)))
    go_meet
    case rel=>exact ⟨by unfold bad10;simp only [Ub1.out,Ub3.out,Bool.and_true,Bool.true_and,Bool.false_and,Bool.and_false,Bool.or_false,Bool.false_or,Bool.true_or,Bool.or_true,Bool.not_true,Bool.not_false],Y1.out⟩
 case rest =>
 obtain ⟨rfl,hX⟩:=hcut
 clear X
 have X:=hid hX
 clear hX
 cases hbbad10 : bad10 x
 case true =>
  rw [hbbad10] at HP
  go_wp2
  go_ret
  exact ⟨by rw [HP.out];rfl,X.out.bel⟩
 case false =>
 rw [hbbad10] at HP
 clear hbbad10
 go_upto_region 5 with (fail)
 go_cut [70] (fun c wr=>c = .bool (bad11 x)∧Boxs w wr [(w.heap.size,mgV x,46)])
 case first =>
  have x0:=X.c 0 0 rfl rfl;have x28:=X.c 0 28 rfl rfl;have x29:=X.c 0 29 rfl rfl;have x30:=X.c 0 30 rfl rfl;have x31:=X.c 0 31 rfl rfl;have x32:=X.c 0 32 rfl rfl
  cases uc1 : uVal x.k
  ·rw [uc1] at cUuVal
   have Uc1:=hid uc1
   clear uc1
   cases qc2 : (((x.ver : Nat) : Int) == 0)
   ·have nc2 : (((x.ver : Nat) : Int) != 0) = true:=by simp only [bne,qc2];rfl
    have Dc2:=hid qc2
    go_wp2_with (go_at_call 17;((with_reducible refine (cUuVal _).mono ?_);rintro e w0 ⟨rfl,rfl⟩))
    go_meet
    case rel=>exact ⟨by unfold bad11;simp only [Uc1.out,Dc2.out,Bool.and_true,Bool.true_and,Bool.false_and,Bool.and_false,Bool.or_false,Bool.false_or,Bool.true_or,Bool.or_true,Bool.not_true,Bool.not_false],X.out⟩
   ·have nc2 : (((x.ver : Nat) : Int) != 0) = false:=by simp only [bne,qc2];rfl
    have Dc2:=hid qc2
    rcases val0_cases x.vk x.vb x.vt with ⟨ec3,qc3,rc3,sc3⟩ | ⟨ec3,qc3⟩ | ⟨ec3,qc3,rc3⟩ | ⟨ec3,qc3,rc3,sc3⟩
    ·have Ec3:=hid ec3
     clear ec3
     have nqc3 : (x.vk != 0) = false:=by simp only [bne,qc3];rfl
     have nrc3 : (((x.vb : Nat) : Int) != 0) = false:=by simp only [bne,rc3];rfl
     have nsc3 : (x.vt.toList != []) = false:=by simp only [bne,sc3];rfl
     cases qc4 : (x.er == 0)
     ·have nc4 : (x.er != 0) = true:=by simp only [bne,qc4];rfl
      have Dc4:=hid qc4
      go_wp2_with (go_at_call 17;((with_reducible refine (cUuVal _).mono ?_);rintro e w0 ⟨rfl,rfl⟩))
      go_meet
      case rel=>exact ⟨by unfold bad11;simp only [Uc1.out,Dc2.out,Ec3.out,Dc4.out,Bool.and_true,Bool.true_and,Bool.false_and,Bool.and_false,Bool.or_false,Bool.false_or,Bool.true_or,Bool.or_true,Bool.not_true,Bool.not_false],X.out⟩
     ·have nc4 : (x.er != 0) = false:=by simp only [bne,qc4];rfl
      have Dc4:=hid qc4
      go_wp2_with (go_at_call 17;((with_reducible refine (cUuVal _).mono ?_);rintro e w0 ⟨rfl,rfl⟩))
      go_meet
      case rel=>exact ⟨by unfold bad11;simp only [Uc1.out,Dc2.out,Ec3.out,Dc4.out,Bool.and_true,Bool.true_and,Bool.false_and,Bool.and_false,Bool.or_false,Bool.false_or,Bool.true_or,Bool.or_true,Bool.not_true,Bool.not_false],X.out⟩
    ·have Ec3:=hid ec3
     clear ec3
     have nqc3 : (x.vk != 0) = true:=by simp only [bne,qc3];rfl
     go_wp2_with (go_at_call 17;((with_reducible refine (cUuVal _).mono ?_);rintro e w0 ⟨rfl,rfl⟩))
     go_meet
     case rel=>exact ⟨by unfold bad11;simp only [Uc1.out,Dc2.out,Ec3.out,Bool.and_true,Bool.true_and,Bool.false_and,Bool.and_false,Bool.or_false,Bool.false_or,Bool.true_or,Bool.or_true,Bool.not_true,Bool.not_false],X.out⟩
    ·have Ec3:=hid ec3
     clear ec3
     have nqc3 : (x.vk != 0) = false:=by simp only [bne,qc3];rfl
     have nrc3 : (((x.vb : Nat) : Int) != 0) = true:=by simp only [bne,rc3];rfl
     go_wp2_with (go_at_call 17;((with_reducible refine (cUuVal _).mono ?_);rintro e w0 ⟨rfl,rfl⟩))
     go_meet
     case rel=>exact ⟨by unfold bad11;simp only [Uc1.out,Dc2.out,Ec3.out,Bool.and_true,Bool.true_and,Bool.false_and,Bool.and_false,Bool.or_false,Bool.false_or,Bool.true_or,Bool.or_true,Bool.not_true,Bool.not_false],X.out⟩
    ·have Ec3:=hid ec3
     clear ec3
     have nqc3 : (x.vk != 0) = false:=by simp only [bne,qc3];rfl
     have nrc3 : (((x.vb : Nat) : Int) != 0) = false:=by simp only [bne,rc3];rfl
     have nsc3 : (x.vt.toList != []) = true:=by simp only [bne,sc3];rfl
     go_wp2_with (go_at_call 17;((with_reducible refine (cUuVal _).mono ?_);rintro e w0 ⟨rfl,rfl⟩))
     go_meet
     case rel=>exact ⟨by unfold bad11;simp only [Uc1.out,Dc2.out,Ec3.out,Bool.and_true,Bool.true_and,Bool.false_and,Bool.and_false,Bool.or_false,Bool.false_or,Bool.true_or,Bool.or_true,Bool.not_true,Bool.not_false],X.out⟩
  ·rw [uc1] at cUuVal
   have Uc1:=hid uc1
   clear uc1
   go_wp2_with (go_at_call 17;((with_reducible refine (cUuVal _).mono ?_);rintro e w0 ⟨rfl,rfl⟩))
   go_meet
   case rel=>exact ⟨by unfold bad11;simp only [Uc1.out,Bool.and_true,Bool.true_and,Bool.false_and,Bool.and_false,Bool.or_false,Bool.false_or,Bool.true_or,Bool.or_true,Bool.not_true,Bool.not_false],X.out⟩
 case rest =>
 obtain ⟨rfl,hX⟩:=hcut
 clear X
 have X:=hid hX
 clear hX
 cases hbbad11 : bad11 x
 case true =>
  rw [hbbad11] at HP
  go_wp2
  go_ret
  exact ⟨by rw [HP.out];rfl,X.out.bel⟩
 case false =>
 rw [hbbad11] at HP
 clear hbbad11
 go_upto_region 7 with (fail)
 go_cut [84] (fun c wr=>c = .bool (bad12 x)∧Boxs w wr [(w.heap.size,mgV x,46)])
 case first =>
  have x29:=X.c 0 29 rfl rfl;have x30:=X.c 0 30 rfl rfl;have x31:=X.c 0 31 rfl rfl;have x32:=X.c 0 32 rfl rfl
  cases ud1 : formedB ⟨x.vk,x.vb,x.vt.data.toList⟩
  ·rw [ud1] at cFx
   have Ud1:=hid ud1
   clear ud1
   go_wp2_with (go_at_call 46;((with_reducible refine (cFx _).mono ?_);rintro e v1 ⟨rfl,hv1⟩;have Y1:=hid (X.out.below hv1);(clear x29 x30 x31 x32);have x29:=Y1.c 0 29 rfl rfl;have x30:=Y1.c 0 30 rfl rfl;have x31:=Y1.c 0 31 rfl rfl;have x32:=Y1.c 0 32 rfl rfl))
   go_meet
   case rel=>exact ⟨by unfold bad12;simp only [Ud1.out,Bool.and_true,Bool.true_and,Bool.false_and,Bool.and_false,Bool.or_false,Bool.false_or,Bool.true_or,Bool.or_true,Bool.not_true,Bool.not_false],Y1.out⟩
  ·rw [ud1] at cFx
   have Ud1:=hid ud1
   clear ud1
   by_cases gd2 : x.er < 0
   ·have dd2 : decide (x.er < 0) = true:=decide_eq_true gd2
    have Dd2:=hid dd2
    go_wp2_with (go_at_call 46;((with_reducible refine (cFx _).mono ?_);rintro e v1 ⟨rfl,hv1⟩;have Y1:=hid (X.out.below hv1);(clear x29 x30 x31 x32);have x29:=Y1.c 0 29 rfl rfl;have x30:=Y1.c 0 30 rfl rfl;have x31:=Y1.c 0 31 rfl rfl;have x32:=Y1.c 0 32 rfl rfl))
    go_meet
    case rel=>exact ⟨by unfold bad12;simp only [Ud1.out,Dd2.out,Bool.and_true,Bool.true_and,Bool.false_and,Bool.and_false,Bool.or_false,Bool.false_or,Bool.true_or,Bool.or_true,Bool.not_true,Bool.not_false],Y1.out⟩
   ·have dd2 : decide (x.er < 0) = false:=decide_eq_false gd2
    have Dd2:=hid dd2
    by_cases gd3 : 11 < x.er
    ·have dd3 : decide (11 < x.er) = true:=decide_eq_true gd3
     have Dd3:=hid dd3
     go_wp2_with (go_at_call 46;((with_reducible refine (cFx _).mono ?_);rintro e v1 ⟨rfl,hv1⟩;have Y1:=hid (X.out.below hv1);(clear x29 x30 x31 x32);have x29:=Y1.c 0 29 rfl rfl;have x30:=Y1.c 0 30 rfl rfl;have x31:=Y1.c 0 31 rfl rfl;have x32:=Y1.c 0 32 rfl rfl))
     go_meet
     case rel=>exact ⟨by unfold bad12;simp only [Ud1.out,Dd2.out,Dd3.out,Bool.and_true,Bool.true_and,Bool.false_and,Bool.and_false,Bool.or_false,Bool.false_or,Bool.true_or,Bool.or_true,Bool.not_true,Bool.not_false],Y1.out⟩
    ·have dd3 : decide (11 < x.er) = false:=decide_eq_false gd3
     have Dd3:=hid dd3
     go_wp2_with (go_at_call 46;((with_reducible refine (cFx _).mono ?_);rintro e v1 ⟨rfl,hv1⟩;have Y1:=hid (X.out.below hv1);(clear x29 x30 x31 x32);have x29:=Y1.c 0 29 rfl rfl;have x30:=Y1.c 0 30 rfl rfl;have x31:=Y1.c 0 31 rfl rfl;have x32:=Y1.c 0 32 rfl rfl))
     go_meet
     case rel=>exact ⟨by unfold bad12;simp only [Ud1.out,Dd2.out,Dd3.out,Bool.and_true,Bool.true_and,Bool.false_and,Bool.and_false,Bool.or_false,Bool.false_or,Bool.true_or,Bool.or_true,Bool.not_true,Bool.not_false],Y1.out⟩
 case rest =>
 obtain ⟨rfl,hX⟩:=hcut
 clear X
 have X:=hid hX
 clear hX
 cases hbbad12 : bad12 x
 case true =>
  rw [hbbad12] at HP
  go_wp2
  go_ret
  exact ⟨by rw [HP.out];rfl,X.out.bel⟩
 case false =>
 rw [hbbad12] at HP
 clear hbbad12
 have x0:=X.c 0 0 rfl rfl;have x33:=X.c 0 33 rfl rfl
 by_cases ge1 : ((x.dn : Nat) : Int)≤59900
 ·have de1 : decide (((x.dn : Nat) : Int)≤59900) = true:=decide_eq_true ge1
  have De1:=hid de1
  cases ue2 : uDat x.k
  ·rw [ue2] at cUuDat
   have Ue2:=hid ue2
   clear ue2
   cases qe3 : (((x.dn : Nat) : Int) == 0)
   ·have ne3 : (((x.dn : Nat) : Int) != 0) = true:=by simp only [bne,qe3];rfl
    have De3:=hid qe3
    go_wp2_with (go_at_call 17;((with_reducible refine (cUuDat _).mono ?_);rintro e w0 ⟨rfl,rfl⟩))
    go_ret
    exact ⟨by rw [HP.out];unfold good13;simp only [De1.out,Ue2.out,De3.out,Bool.and_true,Bool.true_and,Bool.false_and,Bool.and_false,Bool.or_false,Bool.false_or,Bool.true_or,Bool.or_true,Bool.not_true,Bool.not_false] <;> rfl,X.out.bel⟩
   ·have ne3 : (((x.dn : Nat) : Int) != 0) = false:=by simp only [bne,qe3];rfl
    have De3:=hid qe3
    go_wp2_with (go_at_call 17;((with_reducible refine (cUuDat _).mono ?_);rintro e w0 ⟨rfl,rfl⟩))
    go_ret
    exact ⟨by rw [HP.out];unfold good13;simp only [De1.out,Ue2.out,De3.out,Bool.and_true,Bool.true_and,Bool.false_and,Bool.and_false,Bool.or_false,Bool.false_or,Bool.true_or,Bool.or_true,Bool.not_true,Bool.not_false] <;> rfl,X.out.bel⟩
  ·rw [ue2] at cUuDat
   have Ue2:=hid ue2
   clear ue2
   go_wp2_with (go_at_call 17;((with_reducible refine (cUuDat _).mono ?_);rintro e w0 ⟨rfl,rfl⟩))
   go_ret
   exact ⟨by rw [HP.out];unfold good13;simp only [De1.out,Ue2.out,Bool.and_true,Bool.true_and,Bool.false_and,Bool.and_false,Bool.or_false,Bool.false_or,Bool.true_or,Bool.or_true,Bool.not_true,Bool.not_false] <;> rfl,X.out.bel⟩
 ·have de1 : decide (((x.dn : Nat) : Int)≤59900) = false:=decide_eq_false ge1
  have De1:=hid de1
  go_wp2
  go_ret
  exact ⟨by rw [HP.out];unfold good13;simp only [De1.out,Bool.and_true,Bool.true_and,Bool.false_and,Bool.and_false,Bool.or_false,Bool.false_or,Bool.true_or,Bool.or_true,Bool.not_true,Bool.not_false] <;> rfl,X.out.bel⟩
theorem lem_1 (u f p : Bool) : ((u && !f) || (!u && !p)) = false↔(u = true→f = true)∧(u = false→p = true):=by cases u <;> cases f <;> cases p <;> decide
theorem lem_2 (a b c d e f : Bool) : (((a || b) || (!c && !d)) || (e && !f)) = false↔a = false∧b = false∧(c = false→d = true)∧(f = false→e = false):=by cases a <;> cases b <;> cases c <;> cases d <;> cases e <;> cases f <;> decide
theorem lem_7 (a b c d p q e f : Bool) : ((((a || b) || (!c && !d)) || (!p && !q)) || (e && !f)) = false↔a = false∧b = false∧(c = false→d = true)∧(p = false→q = true)∧(f = false→e = false):=by cases a <;> cases b <;> cases c <;> cases d <;> cases p <;> cases q <;> cases e <;> cases f <;> decide
theorem lem_10 (u f k z : Bool) : (((u && !f) && (!k || !z)) || (!u && !z)) = false↔(u = true→f = true∨(k = true∧z = true))∧(u = false→z = true):=by cases u <;> cases f <;> cases k <;> cases z <;> decide
theorem lem_11 (u a b c : Bool) : (!u && ((!a || !b) || !c)) = false↔(u = false→a = true∧b = true∧c = true):=by cases u <;> cases a <;> cases b <;> cases c <;> decide
theorem beq0 (n : Nat) : ((((n : Nat) : Int) == 0) = true)↔n = 0:=by rw [beq_iff_eq];omega
theorem formedD_iff (x : MgM) (L : MgL) (hd : L.dl.length = x.dn) : formedD x L = true↔FormMg (mgT x L):=by
 have h1 : bad1 x = false↔_:=lem_1 _ _ _
 have h2 : bad2 x = false↔_:=lem_2 _ _ _ _ _ _
 have h3 : bad3 x = false↔_:=lem_1 _ _ _
 have h5 : bad5 x L = false↔_:=lem_1 _ _ _
 have h6 : bad6 x = false↔_:=lem_1 _ _ _
 have h7 : bad7 x = false↔_:=lem_7 _ _ _ _ _ _ _ _
 have h10 : bad10 x = false↔_:=lem_10 _ _ _ _
 have h11 : bad11 x = false↔_:=lem_11 _ _ _ _
 have h9 : bad9 x L = false↔(¬ x.k < 1∧¬ 15 < x.k)∧firstB x L = true∧secondB x L = true:=by
  unfold bad9
  generalize firstB x L = a;generalize secondB x L = b
  cases a <;> cases b <;> simp
 have h12 : bad12 x = false↔formedB ⟨x.vk,x.vb,x.vt.data.toList⟩ = true∧¬ x.er < 0∧¬ 11 < x.er:=by
  unfold bad12
  generalize formedB ⟨x.vk,x.vb,x.vt.data.toList⟩ = a
  cases a <;> simp
 have h8 : good8 x = true↔(0≤x.nu∧x.nu≤2147483647)∧(uNum x.k = true∨x.nu = 0):=by
  unfold good8;simp only [Bool.and_eq_true,Bool.or_eq_true,decide_eq_true_eq,beq_iff_eq]
 have h13 : good13 x = true↔((x.dn : Nat) : Int)≤59900∧(uDat x.k = true∨x.dn = 0):=by
  unfold good13;simp only [Bool.and_eq_true,Bool.or_eq_true,decide_eq_true_eq,beq0]
 have h4 : (if with4 x then formCm (cmT x.cm L.rs L.ws) else zeroCM x.cm L.rs L.ws) = true↔((x.has || uCmd x.k) = true→formCm (cmT x.cm L.rs L.ws) = true)∧((x.has || uCmd x.k) = false→zeroCM x.cm L.rs L.ws = true):=by
  unfold with4
  cases x.has || uCmd x.k <;> simp
 have hF : firstB x L = true↔bad1 x = false∧bad2 x = false∧bad3 x = false∧(if with4 x then formCm (cmT x.cm L.rs L.ws) else zeroCM x.cm L.rs L.ws) = true:=by
  unfold firstB;simp only [Bool.and_eq_true,Bool.not_eq_true']
 have hS : secondB x L = true↔bad5 x L = false∧bad6 x = false∧bad7 x = false∧good8 x = true:=by
  unfold secondB;simp only [Bool.and_eq_true,Bool.not_eq_true']
 have hD : formedD x L = true↔bad9 x L = false∧bad10 x = false∧bad11 x = false∧bad12 x = false∧good13 x = true:=by
  unfold formedD;simp only [Bool.and_eq_true,Bool.not_eq_true']
 rw [hD,h9,hF,hS,h1,h2,h3,h4,h5,h6,h7,h8,h10,h11,h12,h13]
 unfold zeroTM zeroCM
 simp only [eqB_iff,decide_eq_false_iff_not,beq_iff_eq,beq0,key_nil,Prod.mk.injEq]
 constructor
 ·rintro ⟨⟨⟨k1,k2⟩,⟨⟨b1,b2⟩,⟨s1,s2,s3,s4⟩,⟨v1,v2⟩,c1,c2⟩,⟨t1,t2⟩,⟨i1,i2⟩,⟨g1,g2,g3,g4,g5⟩,⟨n1,n2⟩,n3⟩,⟨y1,y2⟩,z1,⟨f1,f2,f3⟩,d1,d2⟩
  exact ⟨⟨by show 1≤x.k;omega,by show x.k≤15;omega⟩,b1,fun hu=>Prod.ext (b2 hu).1 (b2 hu).2,⟨by show 0≤x.sl;omega,by show x.sl≤1000000;omega,s3⟩,s4,v1,fun hu=>Prod.ext (v2 hu).1 (v2 hu).2,c1,c2,t1,t2,i1,fun hu=>Prod.ext (i2 hu).1 (i2 hu).2,⟨by show 0≤x.g;omega,by show x.g < 4;omega,g3⟩,fun hu=>by have:=g4 hu;show x.st = 0;omega,g5,⟨n1,n2,fun hu=>by
    rcases n3 with e | e
    ·exact absurd (hu.symm.trans e) (by decide)
    ·exact e⟩,fun hu=>(y1 hu).imp id fun h=>⟨h.1,by show x.key.data.toList = [];rw [h.2]⟩,fun hu=>by show x.key.data.toList = [];rw [y2 hu],⟨fun hu=>⟨by have:=(z1 hu).1;show x.ver = 0;omega,by
    obtain ⟨_,⟨a1,a2,a3⟩,_⟩:=z1 hu
    show (⟨x.vk,x.vb,x.vt.data.toList⟩ : Val) = ⟨0,0,[]⟩
    rw [a1,show x.vt.data.toList = [] by rw [a3],show x.vb = 0 by omega],(z1 hu).2.2⟩,f1,by show 0≤x.er;omega,by show x.er≤11;omega⟩,⟨by show L.dl.length≤59900;omega,fun hu=>by
    rcases d2 with e | e
    ·exact absurd (hu.symm.trans e) (by decide)
    ·show L.dl = [];exact List.eq_nil_of_length_eq_zero (by omega)⟩⟩
 ·intro F
  have k:=F.kind
  have s:=F.sl
  have g:=F.g
  have n:=F.nu
  have v:=F.val
  have d:=F.data
  refine ⟨⟨⟨by have : 1≤x.k:=k.1;omega,by have : x.k≤15:=k.2;omega⟩,⟨⟨F.ba,fun hu=>?_⟩,⟨by have : 0≤x.sl:=s.1;omega,by have : x.sl≤1000000:=s.2.1;omega,s.2.2,F.has0⟩,⟨F.vo,fun hu=>?_⟩,F.cm,F.cm0⟩,⟨F.tx,F.tx0⟩,⟨F.id,fun hu=>?_⟩,⟨by have : 0≤x.g:=g.1;omega,by have : x.g < 4:=g.2.1;omega,g.2.2,fun hu=>by have : x.st = 0:=F.st0 hu;omega,F.y0⟩,⟨n.1,n.2.1⟩,?_⟩,⟨fun hu=>(F.key hu).imp id fun h=>⟨h.1,ByteArray.ext (Array.toList_inj.1 h.2)⟩,fun hu=>ByteArray.ext (Array.toList_inj.1 (F.key0 hu))⟩,fun hu=>?_,⟨v.2.1,by have : 0≤x.er:=v.2.2.1;omega,by have : x.er≤11:=v.2.2.2;omega⟩,by have : L.dl.length≤59900:=d.1;omega,?_⟩
  ·have:=F.ba0 hu;exact ⟨congrArg Prod.fst this,congrArg Prod.snd this⟩
  ·have:=F.vo0 hu;exact ⟨congrArg Prod.fst this,congrArg Prod.snd this⟩
  ·have:=F.id0 hu;exact ⟨congrArg Prod.fst this,congrArg Prod.snd this⟩
  ·cases e : uNum x.k
   ·exact .inr (n.2.2 e)
   ·exact .inl rfl
  ·have:=v.1 hu
   have e:=this.2.1
   have e1 : x.vk = 0:=congrArg Val.k e
   have e2 : x.vb = 0:=congrArg Val.b e
   have e3 : x.vt.data.toList = []:=congrArg Val.t e
   exact ⟨by have : x.ver = 0:=this.1;omega,⟨e1,by omega,ByteArray.ext (Array.toList_inj.1 e3)⟩,this.2.2⟩
  ·cases e : uDat x.k
   ·have : L.dl = []:=d.2 e
    exact .inr (by rw [← hd,this];rfl)
   ·exact .inl rfl
theorem rFormedG_any (x : MgM) (L : MgL) (w : World) (h : MgAt w x L) (hf : MgF x) :
  Calls Tryz.prog 47 #[.agg (mgV x)] w (Says w (formMg (mgT x L))):=by
 have e : formMg (mgT x L) = formedD x L:=by rw [Bool.eq_iff_iff,formMg_iff,formedD_iff x L h.da.len]
 rw [e];exact rFormedG_gen x L w h hf
end Go.Proofs.YtigimmbdlhginaaGreatDoor
