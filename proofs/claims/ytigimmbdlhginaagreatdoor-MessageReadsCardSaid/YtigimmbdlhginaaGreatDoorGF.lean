/- Plain mathematics of layer value: keys, formed values, their order, their bytes and their texts. No condition. Contracts of the document's own Key and Valid. Conditions: none but the texts' lengths. Contract of the document's own Valid: valid UTF-8. Condition: the text's length. Contract of the document's own Formed. Conditions: the value's number and text fit their kinds. A value in a box. -/
import Derived.Test.YtigimmbdlhginaaGreatDoorValueKey
import Derived.Test.YtigimmbdlhginaaGreatDoorCodeMath
import Derived.Test.YtigimmbdlhginaaGreatDoorGE
import Derived.Lib.ValidLaws
import Derived.Test.YtigimmbdlhginaaGreatDoorGB
import Derived.Lib.OthersKept
import Derived.WalkSmall
import Derived.Deep.QuietTactic
import Derived.BigQuiet
namespace Go.Proofs.YtigimmbdlhginaaGreatDoor
set_option maxHeartbeats 2000000
/-- A value: its kind, its bits, its text. -/
structure Val where
 k : Int
 b : Nat
 t : List UInt8
instance : DecidableEq Val:=fun a b =>
 if h : a.k = b.k∧a.b = b.b∧a.t = b.t then
  isTrue (by
   obtain ⟨k,n,t⟩:=a
   obtain ⟨k',n',t'⟩:=b
   obtain ⟨h1,h2,h3⟩:=h
   simp only at h1 h2 h3
   subst h1;subst h2;subst h3
   rfl)
 else isFalse (fun e=>h (by subst e;exact ⟨rfl,rfl,rfl⟩))
def validT (l : List UInt8) : Bool:=Lib.validD l
/-- Whether a value is formed. -/
def formedB (v : Val) : Bool :=
 if v.k = 0 then decide (v.b = 0) && v.t.isEmpty
 else if v.k = 1 then v.t.isEmpty && decide (canonF v.b = v.b)
 else decide (v.k = 2) && decide (v.b = 0) && decide (v.t.length≤40) && validT v.t
/-- A step of the document's own look: what it asks of the rune at a place. -/
theorem valid_bad (l : List UInt8) (h : (Lib.decodeL l).1 = 65533) : ((Lib.decodeL l).2 = 1)↔¬ (l.take 3 = [239,191,189]):=by
 constructor
 ·intro h1 h3
  obtain ⟨r,rfl⟩ : ∃ r,l = 239 :: 191 :: 189 :: r:=by
   match l,h3 with
   | a :: b :: c :: r,h3 =>
    simp at h3
    obtain ⟨rfl,rfl,rfl⟩:=h3
    exact ⟨r,rfl⟩
  rw [Lib.decodeL_N] at h1
  simp [Lib.decodeN] at h1
 ·intro h3
  rcases Nat.lt_or_ge 1 (Lib.decodeL l).2 with h1 | h1
  ·exfalso
   have hne : l≠[]:=by
    rintro rfl
    revert h1;decide
   have he:=Lib.encode_decode l hne (by omega)
   rw [h] at he
   apply h3
   have hw : (Lib.decodeL l).2 = 3:=by
    have:=congrArg List.length he
    have h4:=Lib.decodeL_le l hne
    rw [List.length_take,Nat.min_eq_left h4] at this
    rw [← this];decide
   rw [hw] at he
   rw [← he];decide
  ·have:=Lib.decodeL_width l
   omega
open Go.RowKit
open Go.Lib (hid)
theorem drop3 (l : List UInt8) (p : Nat) (h : p + 3≤l.length) : (l.drop p).take 3 = [l[p],l[p + 1],l[p + 2]]:=by
 rw [List.drop_eq_getElem_cons (by omega),List.drop_eq_getElem_cons (by omega),List.drop_eq_getElem_cons (by omega)];rfl
theorem valid_go (s : ByteArray) (p : Nat) (hp : p < s.size) (h : ¬ ((Utf8.decode s p).1 = 65533∧(Utf8.decode s p).2 = 1)) : validT (s.data.toList.drop (p + (Utf8.decode s p).2)) = validT (s.data.toList.drop p):=by
 have hne : s.data.toList.drop p≠[]:=by
  intro e
  have:=congrArg List.length e
  simp at this
  have : s.data.size = s.size:=rfl
  omega
 have:=Lib.validD_step _ hne
 rw [Lib.decodeL_drop,if_neg h,List.drop_drop] at this
 exact this.symm
theorem valid_stop (s : ByteArray) (p : Nat) (hp : p < s.size) (h : (Utf8.decode s p).1 = 65533∧(Utf8.decode s p).2 = 1) : validT (s.data.toList.drop p) = false:=by
 have hne : s.data.toList.drop p≠[]:=by
  intro e
  have:=congrArg List.length e
  simp at this
  have : s.data.size = s.size:=rfl
  omega
 have:=Lib.validD_step _ hne
 rw [Lib.decodeL_drop,if_pos h] at this
 exact this
/-- What the look asks, in terms of the text's bytes. -/
theorem valid_look (s : ByteArray) (p : Nat) (h : (Utf8.decode s p).1 = 65533) : (Utf8.decode s p).2 = 1↔¬ (∃ h3 : p + 3≤s.size,(s[p]'(by omega)).toNat = 239∧(s[p + 1]'(by omega)).toNat = 191∧(s[p + 2]'(by omega)).toNat = 189):=by
 have hz : s.data.toList.length = s.size:=by rw [Array.length_toList];rfl
 have hb:=valid_bad (s.data.toList.drop p) (by rw [Lib.decodeL_drop];exact h)
 rw [Lib.decodeL_drop] at hb
 rw [hb]
 apply not_congr
 constructor
 ·intro e
  have hl : p + 3≤s.size:=by
   have:=congrArg List.length e
   simp only [List.length_take,List.length_drop,List.length_cons,List.length_nil] at this
   omega
  rw [drop3 _ _ (by omega)] at e
  simp only [List.cons.injEq] at e
  refine ⟨hl,?_,?_,?_⟩
  ·exact congrArg UInt8.toNat e.1
  ·exact congrArg UInt8.toNat e.2.1
  ·exact congrArg UInt8.toNat e.2.2.1
 ·rintro ⟨hl,h0,h1,h2⟩
  rw [drop3 _ _ (by omega)]
  have e0 : s.data.toList[p]'(by omega) = 239:=UInt8.toNat_inj.1 h0
  have e1 : s.data.toList[p + 1]'(by omega) = 191:=UInt8.toNat_inj.1 h1
  have e2 : s.data.toList[p + 2]'(by omega) = 189:=UInt8.toNat_inj.1 h2
  rw [e0,e1,e2]
theorem refValid_any (s : ByteArray) (w : World) (hs : s.size≤maxLen) :
  Calls Tryz.prog 79 #[.string s] w fun e w'=>e = .returned (.bool (validT s.data.toList))∧Below w.heap.size w w':=by
 unfold maxLen at hs
 go_enter Tryz.func79,Tryz.ntmps79
 go_wp2
 go_loopw [3] (fun _ wr => ∃ pos,wr.heap[w.heap.size]? = some (.stringIter s pos)∧Below w.heap.size w wr∧validT (s.data.toList.drop pos) = validT s.data.toList) (fun _ wr=>s.size - wr.iterPos w.heap.size)
 case atStart=>exact ⟨0,World.iter_heap w s 0,(Below.refl _ _).alloc (Nat.le_refl _) _,by simp⟩
 case round =>
  obtain ⟨pos,hit,hbw,hv⟩:=hrel
  have hpos0:=hid (iterPos_of hit)
  have HV:=hid hv
  clear hv
  by_cases hp : pos < s.size
  ·have hnx : ∀ ty,(Instr.next (.pointer (some ⟨w.heap.size,0,none⟩)) true ty).run Tryz.prog wr = _:=fun ty=>Lib.run_next_any_at wr w.heap.size s pos ty hit hp
   have hit2:=Lib.iterAt_heap wr w.heap.size s pos (pos + (Utf8.decode s pos).2) hit
   have hbw2:=Lib.below_iterAt hbw (k:=w.heap.size) (Nat.le_refl _) s (pos + (Utf8.decode s pos).2)
   have hwd:=Lib.decodeL_width (s.data.toList.drop pos)
   rw [Lib.decodeL_drop] at hwd
   have hgo:=fun h=>hid (valid_go s pos hp h)
   have hst:=fun h=>hid (valid_stop s pos hp h)
   have hlk:=fun h=>hid (valid_look s pos h)
   generalize wr.iterAt w.heap.size s (pos + (Utf8.decode s pos).2) = W1 at hnx hit2 hbw2
   generalize (Utf8.decode s pos).1 = r at *
   generalize (Utf8.decode s pos).2 = d at *
   have HI2:=hid (iterPos_of hit2)
   clear hit hbw
   by_cases hr : r = 65533
   ·subst hr
    have hL:=hlk rfl
    clear hlk
    by_cases h3 : pos + 3≤s.size
    ·have g0 : decide ((s.size : Int) - (pos : Int) < 3) = false:=by simp;omega
     have g1 : IntKind.i64.wrap ((s.size : Int) - (pos : Int)) = (s.size : Int) - (pos : Int):=by rw [IntKind.wrap_i64];omega
     obtain ⟨v0,e0⟩ : ∃ v,(s[pos]'hp).toNat = v:=⟨_,rfl⟩
     obtain ⟨v1,e1⟩ : ∃ v,(s[pos + 1]'(by omega)).toNat = v:=⟨_,rfl⟩
     obtain ⟨v2,e2⟩ : ∃ v,(s[pos + 2]'(by omega)).toNat = v:=⟨_,rfl⟩
     have hq : d = 1↔¬ (v0 = 239∧v1 = 191∧v2 = 189):=by
      rw [hL.out,← e0,← e1,← e2]
      exact not_congr ⟨fun ⟨_,h⟩=>h,fun h=>⟨h3,h⟩⟩
     have HQ:=hid hq
     clear hL hq
     by_cases q0 : v0 = 239
     ·by_cases q1 : v1 = 191
      ·by_cases q2 : v2 = 189
       ·have R:=hgo (fun h=>(HQ.out.1 h.2) ⟨q0,q1,q2⟩)
        clear hgo hst HQ
        subst q0;subst q1;subst q2
        go_wp2
        go_roundw
        case rel=>exact ⟨pos + d,hit2,hbw2,R.out.trans HV.out⟩
        case measure=>rw [HI2.out,hpos0.out];omega
       ·have R:=hst ⟨rfl,HQ.out.2 (fun h=>q2 h.2.2)⟩
        have c2 : ((v2 : Int) != 189) = true:=by simp;omega
        clear hgo hst HQ
        subst q0;subst q1
        go_wp2
        go_ret
        exact ⟨by rw [← HV.out,R.out];rfl,hbw2⟩
      ·have R:=hst ⟨rfl,HQ.out.2 (fun h=>q1 h.2.1)⟩
       have c2 : ((v1 : Int) != 191) = true:=by simp;omega
       clear hgo hst HQ
       subst q0
       go_wp2
       go_ret
       exact ⟨by rw [← HV.out,R.out];rfl,hbw2⟩
     ·have R:=hst ⟨rfl,HQ.out.2 (fun h=>q0 h.1)⟩
      have c2 : ((v0 : Int) != 239) = true:=by simp;omega
      clear hgo hst HQ
      go_wp2
      go_ret
      exact ⟨by rw [← HV.out,R.out];rfl,hbw2⟩
    ·have g0 : decide ((s.size : Int) - (pos : Int) < 3) = true:=by simp;omega
     have g1 : IntKind.i64.wrap ((s.size : Int) - (pos : Int)) = (s.size : Int) - (pos : Int):=by rw [IntKind.wrap_i64];omega
     have R:=hst ⟨rfl,hL.out.2 (fun ⟨h,_⟩=>h3 h)⟩
     clear hgo hst hL
     go_wp2
     go_ret
     exact ⟨by rw [← HV.out,R.out];rfl,hbw2⟩
   ·have R:=hgo (fun h=>hr h.1)
    have c1 : ((r : Int) == 65533) = false:=by simp;omega
    clear hgo hst hlk
    go_wp2
    go_roundw
    case rel=>exact ⟨pos + d,hit2,hbw2,R.out.trans HV.out⟩
    case measure=>rw [HI2.out,hpos0.out];omega
  ·have hnx : ∀ ty,(Instr.next (.pointer (some ⟨w.heap.size,0,none⟩)) true ty).run Tryz.prog wr = _:=fun ty=>Lib.run_next_end_at wr w.heap.size s pos ty hit hp
   have hz : s.data.toList.length = s.size:=by rw [Array.length_toList];rfl
   have R : Hid (validT s.data.toList = true):=by
    have:=HV.out
    rw [List.drop_eq_nil_of_le (by omega)] at this
    exact this.symm.trans Lib.validD_nil
   clear hz hit
   go_wp2
   go_ret
   exact ⟨by rw [R.out];rfl,hbw⟩
/-- A value as it is handed over. -/
def vOf (v : Val) : Value:=.agg #[.int .i64 v.k,.int .u64 (v.b : Nat),.string ⟨v.t.toArray⟩]
theorem box3 (w : World) (x y z : Value) (t : TypeId) : (w.alloc (.cells #[x,y,z] t)).cell? ⟨w.heap.size,0,none⟩ = some x∧(w.alloc (.cells #[x,y,z] t)).cell? ⟨w.heap.size,1,none⟩ = some y∧(w.alloc (.cells #[x,y,z] t)).cell? ⟨w.heap.size,2,none⟩ = some z:=by
 have hr:=heap_alloc_new w (.cells #[x,y,z] t)
 refine ⟨?_,?_,?_⟩ <;> (rw [cell_of_row _ _ _ _ _ _ hr];rfl)
theorem formed_none (b : Nat) (l : List UInt8) : formedB ⟨0,b,l⟩ = (decide (b = 0) && l.isEmpty):=rfl
theorem formed_num (b : Nat) (l : List UInt8) : formedB ⟨1,b,l⟩ = (l.isEmpty && decide (canonF b = b)):=rfl
theorem formed_text (b : Nat) (l : List UInt8) : formedB ⟨2,b,l⟩ = (decide (b = 0) && decide (l.length≤40) && validT l):=by
 unfold formedB;simp
theorem formed_other (k : Int) (b : Nat) (l : List UInt8) (h0 : k≠0) (h1 : k≠1) (h2 : k≠2) : formedB ⟨k,b,l⟩ = false:=by
 unfold formedB;simp [h0,h1,h2]
theorem refFormed_any (k : Int) (b : Nat) (t : ByteArray) (w : World) (hb : b < 18446744073709551616) (ht : t.size≤maxLen) :
  Calls Tryz.prog 46 #[.agg #[.int .i64 k,.int .u64 b,.string t]] w fun e w'=>e = .returned (.bool (formedB ⟨k,b,t.data.toList⟩))∧Below w.heap.size w w':=by
 have ht':=ht
 unfold maxLen at ht'
 have hB1 : Below w.heap.size w (w.alloc (.cells #[.int .i64 k,.int .u64 b,.string t] 37)):=(Below.refl _ _).alloc (Nat.le_refl _) _
 have hE : t.data.toList.isEmpty = t.toList.isEmpty:=by rw [ByteArray.toList_eq]
 have hz : t.data.toList.length = t.size:=by rw [Array.length_toList];rfl
 by_cases k0 : k = 0
 ·subst k0
  rw [formed_none,hE]
  clear hE hz
  by_cases b0 : b = 0
  ·subst b0
   cases e : t.toList.isEmpty
   all_goals
    go_enter Tryz.func46,Tryz.ntmps46
    go_wp2
    go_ret
    exact ⟨rfl,hB1⟩
  ·have q : ((b : Int) == 0) = false:=by simp;omega
   rw [decide_eq_false b0,Bool.false_and]
   go_enter Tryz.func46,Tryz.ntmps46
   go_wp2
   go_ret
   exact ⟨rfl,hB1⟩
 ·have q0 : (k == 0) = false:=by simp;omega
  by_cases k1 : k = 1
  ·subst k1
   rw [formed_num,hE]
   clear hE hz k0 q0
   obtain ⟨c0,c1,c2⟩:=box3 w (.int .i64 1) (.int .u64 b) (.string t) 37
   have hC:=fun W=>canonRef_any b hb W
   cases e : t.toList.isEmpty
   ·go_enter Tryz.func46,Tryz.ntmps46
    go_upto_region 4 with (fail)
    generalize w.alloc (.cells #[.int .i64 1,.int .u64 b,.string t] 37) = W at *
    go_quiet (fail)
    go_wp2
    go_ret
    exact ⟨rfl,below_drewN _ hB1⟩
   ·by_cases hc : canonF b = b
    ·rw [hc] at hC ⊢
     rw [decide_eq_true rfl]
     go_enter Tryz.func46,Tryz.ntmps46
     go_upto_region 4 with (fail)
     generalize w.alloc (.cells #[.int .i64 1,.int .u64 b,.string t] 37) = W at *
     go_quiet ((go_at_call 78;exact quiet_same (hC _)))
     go_wp2
     go_ret
     exact ⟨rfl,below_drewN _ hB1⟩
    ·rw [decide_eq_false hc]
     have q : ((canonF b : Int) == (b : Int)) = false:=by simp;omega
     generalize canonF b = cb at *
     go_enter Tryz.func46,Tryz.ntmps46
     go_upto_region 4 with (fail)
     generalize w.alloc (.cells #[.int .i64 1,.int .u64 b,.string t] 37) = W at *
     go_quiet ((go_at_call 78;exact quiet_same (hC _)))
     go_wp2
     go_ret
     exact ⟨rfl,below_drewN _ hB1⟩
  ·have q1 : (k == 1) = false:=by simp;omega
   clear hE
   by_cases k2 : k = 2
   ·subst k2
    rw [formed_text,hz]
    clear hz q0 q1 k0 k1
    by_cases b0 : b = 0
    ·subst b0
     by_cases h40 : t.size≤40
     ·have q : decide ((t.size : Int)≤40) = true:=by simp;omega
      rw [decide_eq_true h40,Bool.and_true,decide_eq_true rfl,Bool.true_and]
      go_enter Tryz.func46,Tryz.ntmps46
      go_wp2_with (go_at_call 79;((with_reducible refine (refValid_any t _ ht).mono ?_);rintro e w1 ⟨rfl,hb1⟩))
      go_ret
      exact ⟨rfl,hB1.trans (hb1.mono hB1.size)⟩
     ·have q : decide ((t.size : Int)≤40) = false:=by simp;omega
      rw [decide_eq_false h40,Bool.and_false,Bool.false_and]
      go_enter Tryz.func46,Tryz.ntmps46
      go_wp2
      go_ret
      exact ⟨rfl,hB1⟩
    ·have q : ((b : Int) == 0) = false:=by simp;omega
     rw [decide_eq_false b0,Bool.false_and,Bool.false_and]
     go_enter Tryz.func46,Tryz.ntmps46
     go_wp2
     go_ret
     exact ⟨rfl,hB1⟩
   ·have q2 : (k == 2) = false:=by simp;omega
    rw [formed_other k b _ k0 k1 k2]
    clear hz
    go_enter Tryz.func46,Tryz.ntmps46
    go_wp2
    go_ret
    exact ⟨rfl,hB1⟩
theorem str_eq {S : ByteArray} {l : List UInt8} (h : S.data.toList = l) : S = ⟨l.toArray⟩:=by
 obtain ⟨d⟩:=S
 subst h;simp
theorem three_cells {w : World} {g : Nat} {x y z : Value} {t : TypeId} (h : w.heap[g]? = some (.cells #[x,y,z] t (0,0))) :
  w.cell? ⟨g,0,none⟩ = some x∧w.cell? ⟨g,1,none⟩ = some y∧w.cell? ⟨g,2,none⟩ = some z∧w.frozen? ⟨g,0,none⟩ = false∧w.frozen? ⟨g,1,none⟩ = false∧w.frozen? ⟨g,2,none⟩ = false:=by
 refine ⟨by rw [cell_of_row _ _ _ _ _ _ h];rfl,by rw [cell_of_row _ _ _ _ _ _ h];rfl,by rw [cell_of_row _ _ _ _ _ _ h];rfl,?_,?_,?_⟩ <;> simp [World.frozen?,h]
/-- A value in a box. -/
def BoxV (w1 : World) (g : Nat) (k : Int) (b : Nat) (t : ByteArray) : Prop:=w1.cell? ⟨g,0,none⟩ = some (.int .i64 k)∧w1.cell? ⟨g,1,none⟩ = some (.int .u64 (b : Nat))∧w1.cell? ⟨g,2,none⟩ = some (.string t)
theorem BoxV.below {w1 w2 : World} {g B : Nat} {k : Int} {b : Nat} {t : ByteArray} (h : BoxV w1 g k b t) (hb : Below B w1 w2) (hg : g < B) : BoxV w2 g k b t :=
 ⟨(hb.cell (p:=⟨g,0,none⟩) hg).trans h.1,(hb.cell (p:=⟨g,1,none⟩) hg).trans h.2.1,(hb.cell (p:=⟨g,2,none⟩) hg).trans h.2.2⟩
theorem BoxV.new (w : World) (k : Int) (b : Nat) (t : ByteArray) (ty : TypeId) : BoxV (w.alloc (.cells #[.int .i64 k,.int .u64 b,.string t] ty)) w.heap.size k b t:=box3 w _ _ _ ty
theorem BoxV.drew {w : World} {g : Nat} {k : Int} {b : Nat} {t : ByteArray} (h : BoxV w g k b t) : BoxV w.drew g k b t:=h
end Go.Proofs.YtigimmbdlhginaaGreatDoor
