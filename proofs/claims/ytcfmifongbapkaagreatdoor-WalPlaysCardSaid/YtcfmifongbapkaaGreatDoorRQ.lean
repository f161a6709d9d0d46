/- The library's contract of utf8.ValidString, laid at this program. Condition: its two tables hold what they hold. Contracts of the program's Formed and Key. Conditions: the value's number and text fit their kinds; utf8's tables hold what they hold. Contracts of txn's readKeys, writeKeys, risingKeys and formedValues. Conditions: the lists lie in memory, and are no longer than a million. Contract of txn.Formed. Conditions: the lists lie in memory, and are no longer than a million; the tables of utf8 lie there. Contract of command.Formed. Conditions: the command's lists lie in memory, and are no longer than a million; the tables of utf8 lie there. -/
import Derived.Test.YtcfmifongbapkaaGreatDoorRE
import Derived.Test.YtcfmifongbapkaaGreatDoorChecked
import Derived.Test.YtcfmifongbapkaaGreatDoorShelf
import Derived.WalkKit
import Derived.Shelf.Unicode.ValidAny
import Derived.Laws.StructEq
import Derived.Test.YtcfmifongbapkaaGreatDoorRC
import Derived.Test.YtcfmifongbapkaaGreatDoorRF
import Derived.Deep.RegionHeld3
import Derived.Deep.RegionWith
import Derived.Test.YtcfmifongbapkaaGreatDoorRM
import Derived.OwnWalk
import Derived.WalkSpells
import Derived.Test.YtcfmifongbapkaaGreatDoorRL
namespace Go.Proofs.YtcfmifongbapkaaGreatDoor

open Go.RowKit Go.Shelf Go.Lib

/-- utf8's two tables. -/
def Tabs (w : World) : Prop:=Lib.Utf8Tabs (Tryz.laysValid_ren.g 3) (Tryz.laysValid_ren.g 4) w
theorem validString_any (s : ByteArray) (w : World) (hs : s.size≤maxLen) (hT : Tabs w) :
  Calls Tryz.prog 149 #[.string s] w fun e w'=>e = .returned (.bool (validT s.data.toList))∧Below w.heap.size w w' :=
 Any.utf8_ValidString Tryz.laysValid s w (by unfold maxLen at hs;omega) hT
end Go.Proofs.YtcfmifongbapkaaGreatDoor

namespace Go.Proofs.YtcfmifongbapkaaGreatDoor

open Go.RowKit
open Go.Lib (hid)

theorem Tabs.below {w w' : World} (h : Tabs w) (hb : Below w.heap.size w w') : Tabs w':=Utf8Tabs_below h hb
theorem number_any (b : Nat) (w : World) : Calls Tryz.prog 146 #[.int .u64 b] w fun e w'=>e = .returned (.agg #[.int .i64 1,.int .u64 b,.string ⟨#[]⟩])∧Below w.heap.size w w':=by
 obtain ⟨a1,a2,a3⟩:=box3 w (.int .i64 1) (.int .u64 b) (.string ⟨#[]⟩) 155
 go_enter Tryz.func146,Tryz.ntmps146
 go_wp2
 exact bodyPost_ret (v:=.agg #[.int .i64 1,.int .u64 b,.string ⟨#[]⟩]) (by simp [results,Tryz.results146,go_sem,a1,a2,a3]) rfl ⟨rfl,(Below.refl _ _).alloc (Nat.le_refl _) _⟩
theorem text_any (t : ByteArray) (w : World) : Calls Tryz.prog 148 #[.string t] w fun e w'=>e = .returned (.agg #[.int .i64 2,.int .u64 0,.string t])∧Below w.heap.size w w':=by
 obtain ⟨a1,a2,a3⟩:=box3 w (.int .i64 2) (.int .u64 0) (.string t) 155
 go_enter Tryz.func148,Tryz.ntmps148
 go_wp2
 exact bodyPost_ret (v:=.agg #[.int .i64 2,.int .u64 0,.string t]) (by simp [results,Tryz.results148,go_sem,a1,a2,a3]) rfl ⟨rfl,(Below.refl _ _).alloc (Nat.le_refl _) _⟩

set_option maxHeartbeats 1000000 in
theorem formed_any (k : Int) (b : Nat) (t : ByteArray) (w : World) (hb : b < 18446744073709551616) (ht : t.size≤maxLen) (hT : Tabs w) :
  Calls Tryz.prog 135 #[.agg #[.int .i64 k,.int .u64 b,.string t]] w fun e w'=>e = .returned (.bool (formedB ⟨k,b,t.data.toList⟩))∧Below w.heap.size w w':=by
 have ht':=ht
 unfold maxLen at ht'
 have hB1 : Below w.heap.size w (w.alloc (.cells #[.int .i64 k,.int .u64 b,.string t] 155)):=(Below.refl _ _).alloc (Nat.le_refl _) _
 have hE : t.data.toList.isEmpty = t.toList.isEmpty:=by rw [ByteArray.toList_eq]
 have hz : t.data.toList.length = t.size:=by rw [Array.length_toList];rfl
 by_cases k0 : k = 0
 ·subst k0
  rw [formed_none,hE]
  clear hE hz hT
  by_cases b0 : b = 0
  ·subst b0
   cases e : t.toList.isEmpty
   all_goals
    go_enter Tryz.func135,Tryz.ntmps135
    go_wp2
    go_ret
    exact ⟨rfl,hB1⟩
  ·have q : ((b : Int) == 0) = false:=by simp;omega
   rw [decide_eq_false b0,Bool.false_and]
   go_enter Tryz.func135,Tryz.ntmps135
   go_wp2
   go_ret
   exact ⟨rfl,hB1⟩
 ·have q0 : (k == 0) = false:=by simp;omega
  by_cases k1 : k = 1
  ·subst k1
   rw [formed_num,hE]
   clear hE hz k0 q0 hT
   have V0:=hid (BoxV.new w 1 b t 155)
   have HB:=hid hB1
   have hC:=fun W=>canon_any b W
   have hlt : w.heap.size < (w.alloc (.cells #[.int .i64 1,.int .u64 b,.string t] 155)).drew.heap.size:=by show w.heap.size < (w.alloc _).heap.size;simp
   by_cases hc : canonF b = b
   ·rw [hc] at hC ⊢
    rw [decide_eq_true rfl]
    cases e : t.toList.isEmpty
    all_goals
     clear hB1
     go_enter Tryz.func135,Tryz.ntmps135
     go_upto_region 5 with (fail)
     generalize w.alloc (.cells #[.int .i64 1,.int .u64 b,.string t] 155) = W at *
     have s1:=V0.out
     go_region_held3 (fun w'=>w'.cell? ⟨w.heap.size,0,none⟩ = some (.int .i64 1)∧w'.cell? ⟨w.heap.size,1,none⟩ = some (.int .u64 b)∧w'.cell? ⟨w.heap.size,2,none⟩ = some (.string t)) (first | exact s1 | exact s2)
      (first | (go_at_call 147;((with_reducible refine (hC _).mono ?_);rintro e w' ⟨rfl,rfl⟩)) | (go_at_call 146;((with_reducible refine (number_any b _).mono ?_);rintro e w2 ⟨rfl,hb2⟩;have s2:=V0.out.drew.below hb2 hlt)))
     go_wp2
     go_ret
     exact ⟨rfl,HB.out.drew.trans (hb2.mono HB.out.size)⟩
   ·rw [decide_eq_false hc,Bool.and_false]
    have q : ((b : Int) == (canonF b : Int)) = false:=by simp;omega
    generalize canonF b = cb at *
    cases e : t.toList.isEmpty
    all_goals
     clear hB1
     go_enter Tryz.func135,Tryz.ntmps135
     go_upto_region 5 with (fail)
     generalize w.alloc (.cells #[.int .i64 1,.int .u64 b,.string t] 155) = W at *
     have s1:=V0.out
     go_region_held3 (fun w'=>w'.cell? ⟨w.heap.size,0,none⟩ = some (.int .i64 1)∧w'.cell? ⟨w.heap.size,1,none⟩ = some (.int .u64 b)∧w'.cell? ⟨w.heap.size,2,none⟩ = some (.string t)) (first | exact s1 | exact s2)
      (first | (go_at_call 147;((with_reducible refine (hC _).mono ?_);rintro e w' ⟨rfl,rfl⟩)) | (go_at_call 146;((with_reducible refine (number_any cb _).mono ?_);rintro e w2 ⟨rfl,hb2⟩;have s2:=V0.out.drew.below hb2 hlt)))
     go_wp2
     go_ret
     exact ⟨rfl,HB.out.drew.trans (hb2.mono HB.out.size)⟩
  ·have q1 : (k == 1) = false:=by simp;omega
   clear hE
   by_cases k2 : k = 2
   ·subst k2
    rw [formed_text,hz]
    clear hz q0 q1 k0 k1
    have V0:=hid (BoxV.new w 2 b t 155)
    have HB:=hid hB1
    have HT:=hid (hT.below hB1.drew)
    have hlt : w.heap.size < (w.alloc (.cells #[.int .i64 2,.int .u64 b,.string t] 155)).drew.heap.size:=by show w.heap.size < (w.alloc _).heap.size;simp
    clear hB1 hT
    by_cases b0 : b = 0
    ·subst b0
     by_cases h40 : t.size≤40
     ·have q : decide ((t.size : Int)≤40) = true:=by simp;omega
      rw [decide_eq_true h40,Bool.and_true,decide_eq_true rfl,Bool.true_and]
      have cV:=fun W hW=>validString_any t W ht hW
      generalize validT t.data.toList = vt at *
      go_enter Tryz.func135,Tryz.ntmps135
      go_upto_region 7 with (fail)
      generalize w.alloc (.cells #[.int .i64 2,.int .u64 0,.string t] 155) = W at *
      have s1:=V0.out
      go_region_held3 (fun w'=>w'.cell? ⟨w.heap.size,0,none⟩ = some (.int .i64 2)∧w'.cell? ⟨w.heap.size,1,none⟩ = some (.int .u64 0)∧w'.cell? ⟨w.heap.size,2,none⟩ = some (.string t)) (first | exact s1 | exact s2 | exact s3)
       (first | (go_at_call 148;((with_reducible refine (text_any t _).mono ?_);rintro e w2 ⟨rfl,hb2⟩;have s2:=V0.out.drew.below hb2 hlt;have T2:=hid (HT.out.below hb2);have hlt2:=Nat.lt_of_lt_of_le hlt hb2.size)) | (go_at_call 149;((with_reducible refine (cV _ T2.out).mono ?_);rintro e w3 ⟨rfl,hb3⟩;have s3:=BoxV.below s2 hb3 hlt2)))
      go_wp2
      go_ret
      exact ⟨rfl,(HB.out.drew.trans (hb2.mono HB.out.size)).trans (hb3.mono (Nat.le_trans HB.out.size hb2.size))⟩
     ·have q : decide ((t.size : Int)≤40) = false:=by simp;omega
      rw [decide_eq_false h40,Bool.and_false,Bool.false_and]
      go_enter Tryz.func135,Tryz.ntmps135
      go_upto_region 7 with (fail)
      generalize w.alloc (.cells #[.int .i64 2,.int .u64 0,.string t] 155) = W at *
      obtain ⟨x1,x2,x3⟩:=V0.out
      first | (go_region_with (go_at_call 148;((with_reducible refine (text_any t _).mono ?_);rintro e w2 ⟨rfl,hb2⟩;obtain ⟨y1,y2,y3⟩:=V0.out.drew.below hb2 hlt))) | fail
      all_goals
       go_wp2
       go_ret
       exact ⟨rfl,HB.out.drew.trans (hb2.mono HB.out.size)⟩
    ·have q : ((b : Int) == 0) = false:=by simp;omega
     rw [decide_eq_false b0,Bool.false_and,Bool.false_and]
     go_enter Tryz.func135,Tryz.ntmps135
     go_upto_region 7 with (fail)
     generalize w.alloc (.cells #[.int .i64 2,.int .u64 b,.string t] 155) = W at *
     obtain ⟨x1,x2,x3⟩:=V0.out
     first | (go_region_with (go_at_call 148;((with_reducible refine (text_any t _).mono ?_);rintro e w2 ⟨rfl,hb2⟩;obtain ⟨y1,y2,y3⟩:=V0.out.drew.below hb2 hlt))) | fail
     all_goals
      go_wp2
      go_ret
      exact ⟨rfl,HB.out.drew.trans (hb2.mono HB.out.size)⟩
   ·have q2 : (k == 2) = false:=by simp;omega
    rw [formed_other k b _ k0 k1 k2]
    go_enter Tryz.func135,Tryz.ntmps135
    go_wp2
    go_ret
    exact ⟨rfl,hB1⟩
end Go.Proofs.YtcfmifongbapkaaGreatDoor

namespace Go.Proofs.YtcfmifongbapkaaGreatDoor

open Go.RowKit
open Go.Lib (hid)

theorem Tryz.sInfo9 : (Tryz.prog.info? 9).map (fun i=>(i.zero,i.size,i.bytes)) = some (some (.string ⟨#[]⟩),1,16):=by kernel_rfl
theorem str_one (u : ByteArray) : ∀ x ∈ [Value.string u],x.oneCell' = true:=by
 intro x hx
 simp only [List.mem_cons,List.not_mem_nil,or_false] at hx
 subst hx;rfl
/-- What a loop holds: the list of texts made so far. -/
def MadeS (w wr : World) (v : Value) (l : List ByteArray) : Prop:=wr.ownsRow w.heap.size 9 1 v l.length (l.map Value.string)∧Below w.heap.size w wr
section

variable {w wr w1 : World} {v v' : Value} {l : List ByteArray} {u : ByteArray} {o : Obj}

theorem MadeS.start (w : World) : MadeS w w (.slice none 0 0) []:=⟨World.ownsRow_nil _ _ _ _,Below.refl _ _⟩
theorem MadeS.own (h : MadeS w wr v l) : wr.ownsRow w.heap.size 9 1 v l.length (l.map Value.string):=h.1
theorem MadeS.bel (h : MadeS w wr v l) : Below w.heap.size w wr:=h.2
theorem MadeS.later (h : MadeS w wr v l) (hb : Below wr.heap.size wr w1) : MadeS w w1 v l:=⟨ownk_below h.1 hb,h.2.trans (hb.mono h.2.size)⟩
theorem MadeS.next (h : MadeS w wr v l) (ho : w1.ownsRow w.heap.size 9 1 v' (l.length + 1) (l.map Value.string ++ [.string u])) (hg : (wr.alloc o).grownBy w1 v.ownBlock) : MadeS w w1 v' (l ++ [u]):=by
 refine ⟨?_,?_⟩
 ·rw [List.map_append,List.length_append];exact ho
 ·have hs:=h.2.size
  exact (h.2.alloc hs o).grown hg (by simp;omega) fun j hj=>(h.1.lt j hj).1
/-- What a call that answers a new list of texts does. -/
def NewS (w : World) (l : List ByteArray) (e : Ending) (w' : World) : Prop := ∃ a cap,e = .returned (.slice a l.length cap)∧StrsAt w' w'.heap.size a l.length l∧(l.length≤cap∧cap≤maxLen)∧Below w.heap.size w w'
theorem MadeS.lies (h : MadeS w wr v l) : ∃ a cap,v = .slice a l.length cap∧StrsAt wr wr.heap.size a l.length l∧(l.length≤cap∧cap≤maxLen):=by
 obtain ⟨a,c,rfl,h1,h2⟩:=ownk_form h.1
 exact ⟨a,c,rfl,⟨rfl,RowAt.of_own h.1⟩,h1,h2⟩
end

theorem RowAt.oneS (W : World) (u : ByteArray) (t : TypeId) : RowAt (W.alloc (.cells #[.string u] t)) (W.heap.size + 1) (some ⟨W.heap.size,0,none⟩) 1 1 [.string u]:=RowAt.one W #[.string u] t
theorem keysM_snoc (rs : List RdM) (k : Nat) (h : k < rs.length) : keysM (rs.take (k + 1)) = keysM (rs.take k) ++ [rs[k].1]:=by
 unfold keysM;rw [List.take_succ_eq_append_getElem h,List.map_append];rfl
theorem keysV_snoc (ws : List WrM) (k : Nat) (h : k < ws.length) : keysV (ws.take (k + 1)) = keysV (ws.take k) ++ [ws[k].key]:=by
 unfold keysV;rw [List.take_succ_eq_append_getElem h,List.map_append];rfl

set_option maxHeartbeats 1000000 in
theorem readKeys_any (a : Option Addr) (n c : Nat) (rs : List RdM) (w : World) (h : RdsAt w w.heap.size a n rs) (hn : n≤1000000) :
  Calls Tryz.prog 119 #[.slice a n c] w (NewS w (keysM rs)):=by
 obtain ⟨iS,hi,hz0,hz1,hz2⟩:=info_parts Tryz.sInfo9
 have hlen:=h.1
 have HA:=hid h
 clear h
 go_enter Tryz.func119,Tryz.ntmps119
 go_wp2
 go_loopw [3,8] (fun v i wr => ∃ k : Nat,k≤n∧i = .int .i64 k∧MadeS w wr v (keysM (rs.take k))) (fun _ i _=>n - (intOf i).toNat)
 case atStart=>exact ⟨0,Nat.zero_le _,rfl,MadeS.start w⟩
 case round =>
  obtain ⟨k,hk,rfl,hM⟩:=hrel
  by_cases hlt : k < n
  ·have hk1 : k < rs.length:=by omega
   have HS:=hid (keysM_snoc rs k hk1)
   have hll : (keysM (rs.take k)).length≤1000000:=by rw [keysM_len,List.length_take];omega
   obtain ⟨b,off,rfl,hbb,x0,x1⟩:=(HA.out.later hM.bel).at_ (i:=k) hk1
   generalize rs[k] = x at *
   generalize keysM (rs.take k) = l at *
   obtain ⟨xk,xv⟩:=x
   have HM:=hid (hM.later (one_box wr #[.string xk,.int .u64 ((xv : Nat) : Int)] 153))
   obtain ⟨y0,y1⟩:=(BoxC.new wr #[.string xk,.int .u64 ((xv : Nat) : Int)] 153).two
   clear hM
   go_upto_region 5 with (fail)
   generalize wr.alloc (.cells #[.string xk,.int .u64 ((xv : Nat) : Int)] 153) = W1 at *
   have hown:=HM.out.own
   have hsz:=HM.out.bel.size
   go_wp2_with (at_builtin;(refine wpList_append_rowk _ rfl _ _ 163 rfl w.heap.size 9 iS _ 1 16 Tryz.underlying163 hi hz0 hz1 hz2 rfl (by omega) _ l.length (l.map Value.string) rfl (hown.alloc _) (W1.heap.size + 1) (some ⟨W1.heap.size,0,none⟩) 1 1 [.string xk] rfl (RowAt.oneS W1 xk _) (str_one _) (by unfold maxLen;omega) (by omega) (by simp;omega) ?_;intro v2 w2 ho2 hg2 hat2;have R:=hid (HM.out.next ho2 hg2);clear ho2 hg2 hat2))
   go_roundw
   case rel=>exact ⟨k + 1,by omega,by go_num,by rw [HS.out];exact R.out⟩
   case measure=>simp [intOf];omega
  ·have HQ : Hid (rs.take k = rs):=List.take_of_length_le (by omega)
   rw [HQ.out] at hM
   have hbel:=hM.bel
   obtain ⟨a1,c1,rfl,hN⟩:=hM.lies
   clear hM
   go_wp2
   go_ret
   exact ⟨a1,c1,rfl,hN.1,hN.2,hbel⟩

set_option maxHeartbeats 1000000 in
theorem writeKeys_any (a : Option Addr) (n c : Nat) (ws : List WrM) (w : World) (h : WrsAt w w.heap.size a n ws) (hn : n≤1000000) :
  Calls Tryz.prog 120 #[.slice a n c] w (NewS w (keysV ws)):=by
 obtain ⟨iS,hi,hz0,hz1,hz2⟩:=info_parts Tryz.sInfo9
 have hlen:=h.1
 have HA:=hid h
 clear h
 go_enter Tryz.func120,Tryz.ntmps120
 go_wp2
 go_loopw [3,8] (fun v i wr => ∃ k : Nat,k≤n∧i = .int .i64 k∧MadeS w wr v (keysV (ws.take k))) (fun _ i _=>n - (intOf i).toNat)
 case atStart=>exact ⟨0,Nat.zero_le _,rfl,MadeS.start w⟩
 case round =>
  obtain ⟨k,hk,rfl,hM⟩:=hrel
  by_cases hlt : k < n
  ·have hk1 : k < ws.length:=by omega
   have HS:=hid (keysV_snoc ws k hk1)
   have hll : (keysV (ws.take k)).length≤1000000:=by rw [keysV_len,List.length_take];omega
   obtain ⟨b,off,rfl,hbb,x0,x1,x2,x3⟩:=(HA.out.later hM.bel).at_ (i:=k) hk1
   generalize ws[k] = x at *
   generalize keysV (ws.take k) = l at *
   obtain ⟨xk,xa,xb,xt⟩:=x
   have HM:=hid (hM.later (one_box wr #[.string xk,.int .i64 xa,.int .u64 ((xb : Nat) : Int),.string xt] 157))
   obtain ⟨y0,y1,y2,y3⟩:=(BoxC.new wr #[.string xk,.int .i64 xa,.int .u64 ((xb : Nat) : Int),.string xt] 157).four
   clear hM
   go_upto_region 5 with (fail)
   generalize wr.alloc (.cells #[.string xk,.int .i64 xa,.int .u64 ((xb : Nat) : Int),.string xt] 157) = W1 at *
   have hown:=HM.out.own
   have hsz:=HM.out.bel.size
   go_wp2_with (at_builtin;(refine wpList_append_rowk _ rfl _ _ 163 rfl w.heap.size 9 iS _ 1 16 Tryz.underlying163 hi hz0 hz1 hz2 rfl (by omega) _ l.length (l.map Value.string) rfl (hown.alloc _) (W1.heap.size + 1) (some ⟨W1.heap.size,0,none⟩) 1 1 [.string xk] rfl (RowAt.oneS W1 xk _) (str_one _) (by unfold maxLen;omega) (by omega) (by simp;omega) ?_;intro v2 w2 ho2 hg2 hat2;have R:=hid (HM.out.next ho2 hg2);clear ho2 hg2 hat2))
   go_roundw
   case rel=>exact ⟨k + 1,by omega,by go_num,by rw [HS.out];exact R.out⟩
   case measure=>simp [intOf];omega
  ·have HQ : Hid (ws.take k = ws):=List.take_of_length_le (by omega)
   rw [HQ.out] at hM
   have hbel:=hM.bel
   obtain ⟨a1,c1,rfl,hN⟩:=hM.lies
   clear hM
   go_wp2
   go_ret
   exact ⟨a1,c1,rfl,hN.1,hN.2,hbel⟩


set_option maxHeartbeats 1000000 in
theorem rising_any (a : Option Addr) (n c B : Nat) (Bs : List ByteArray) (w : World) (h : StrsAt w B a n Bs) (hs : ∀ z ∈ Bs,z.size≤maxLen) (hn : n≤1000000) :
  Calls Tryz.prog 118 #[.slice a n c] w fun e w'=>e = .returned (.bool (riseB (txt Bs)))∧w = w':=by
 have hlen:=h.1
 have hsl:=txt_len Bs
 have HB:=hid h
 have HS:=hid hs
 clear h hs
 go_enter Tryz.func118,Tryz.ntmps118
 go_wp2
 go_loop [7] (fun i => ∃ k : Nat,k≤n∧i = .int .i64 k∧RiseP (txt Bs) k) (fun i=>n - (intOf i).toNat)
 case atStart=>exact ⟨0,Nat.zero_le _,rfl,RiseP.start _⟩
 case round =>
  obtain ⟨k,hk,rfl,ht⟩:=hrel
  have HT:=hid ht
  clear ht
  by_cases hlt : k < n
  ·have hl : k < Bs.length:=by omega
   have hl' : k < (txt Bs).length:=by omega
   have cK:=fun W=>key_same Bs[k] W (HS.out _ (List.getElem_mem hl))
   have hbad : keyB Bs[k].data.toList = false→Hid (riseB (txt Bs) = false):=fun e=>rise_key (txt Bs) k hl' (by rw [txt_get Bs k hl];exact e)
   cases hz : keyB Bs[k].data.toList
   ·rw [hz] at cK
    have Q:=hbad hz
    obtain ⟨b,off,rfl,_,hc⟩:=HB.out.at_ hl
    clear hbad hz HT
    generalize Bs[k] = z at *
    go_wp2_with (go_at_call 134;((with_reducible refine (cK _).mono ?_);rintro e w' ⟨rfl,rfl⟩))
    go_ret
    exact ⟨by rw [Q.out];rfl,rfl⟩
   ·rw [hz] at cK
    clear hbad
    cases k with
    | zero =>
     have Q:=hid (RiseP.first (txt Bs) hl' (by rw [txt_get Bs 0 hl];exact hz))
     obtain ⟨b,off,rfl,_,hc⟩:=HB.out.at_ hl
     rw [Nat.add_zero] at hc
     clear hz HT
     generalize Bs[0] = z at *
     go_wp2_with (go_at_call 134;((with_reducible refine (cK _).mono ?_);rintro e w' ⟨rfl,rfl⟩))
     go_round
     case rel=>exact ⟨1,by omega,by go_num,Q.out⟩
     case measure=>simp [intOf];omega
    | succ k =>
     have hgood : leB Bs[k + 1].data.toList (Bs[k]'(by omega)).data.toList = false→Hid (RiseP (txt Bs) (k + 1 + 1)):=fun e=>HT.out.next hl' (by rw [txt_get Bs (k + 1) hl];exact hz) (by rw [txt_get Bs (k + 1) hl,txt_get Bs k (by omega)];exact e)
     have hbad : leB Bs[k + 1].data.toList (Bs[k]'(by omega)).data.toList = true→Hid (riseB (txt Bs) = false):=fun e=>rise_adj (txt Bs) k hl' (by rw [txt_get Bs (k + 1) hl,txt_get Bs k (by omega)];exact e)
     obtain ⟨b,off,rfl,_,hc⟩:=HB.out.at_ (i:=k) (by omega)
     obtain ⟨b',off',e1,_,hc'⟩:=HB.out.at_ (i:=k + 1) hl
     injection e1 with e1
     injection e1 with e1 e2
     subst e1;subst e2
     generalize Bs[k]'(by omega) = x at *
     generalize Bs[k + 1] = y at *
     have hE:=ltS x y
     have e5 : (((k + 1 : Nat) : Int)) = (k : Int) + 1:=by omega
     have hw : IntKind.i64.wrap (k : Int) = k:=by rw [IntKind.wrap_i64];omega
     clear hz HT
     cases hz : leB y.data.toList x.data.toList
     ·rw [hz] at hE
      have Q:=hgood hz
      clear hgood hbad hz
      go_wp2_with (go_at_call 134;((with_reducible refine (cK _).mono ?_);rintro e w' ⟨rfl,rfl⟩))
      go_round
      case rel=>exact ⟨k + 1 + 1,by omega,by go_num,Q.out⟩
      case measure=>simp [intOf];omega
     ·rw [hz] at hE
      have Q:=hbad hz
      clear hgood hbad hz
      go_wp2_with (go_at_call 134;((with_reducible refine (cK _).mono ?_);rintro e w' ⟨rfl,rfl⟩))
      go_ret
      exact ⟨by rw [Q.out];rfl,rfl⟩
  ·have Q:=hid (HT.out.done (by omega))
   go_wp2
   go_ret
   exact ⟨by rw [Q.out];rfl,rfl⟩

set_option maxHeartbeats 1000000 in
theorem values_any (a : Option Addr) (n c : Nat) (ws : List WrM) (w : World) (h : WrsAt w w.heap.size a n ws) (ho : ∀ x ∈ ws,WrOk x) (hn : n≤1000000) (hT : Tabs w) :
  Calls Tryz.prog 121 #[.slice a n c] w (Says w (valsB ws)):=by
 have hlen:=h.1
 have HA:=hid h
 have HO:=hid ho
 have HU:=hid hT
 clear h ho hT
 go_enter Tryz.func121,Tryz.ntmps121
 go_wp2
 go_loopw [7] (fun i wr => ∃ k : Nat,k≤n∧i = .int .i64 k∧(ws.take k).all (fun x=>formedB (valM x)) = true∧Below w.heap.size w wr) (fun i _=>n - (intOf i).toNat)
 case atStart=>exact ⟨0,Nat.zero_le _,rfl,rfl,Below.refl _ _⟩
 case round =>
  obtain ⟨k,hk,rfl,ht,hM⟩:=hrel
  by_cases hlt : k < n
  ·have hk1 : k < ws.length:=by omega
   have hbad:=fun e=>hid (all_bad (fun x=>formedB (valM x)) ws k hk1 e)
   have hgood:=fun e=>hid (all_next (fun x=>formedB (valM x)) ws k hk1 ht e)
   have hO:=HO.out _ (List.getElem_mem hk1)
   obtain ⟨b,off,rfl,hbb,x0,x1,x2,x3⟩:=(HA.out.later hM).at_ (i:=k) hk1
   clear ht
   generalize ws[k] = x at *
   obtain ⟨xk,xa,xb,xt⟩:=x
   have HM:=hid (hM.trans ((one_box wr #[.string xk,.int .i64 xa,.int .u64 ((xb : Nat) : Int),.string xt] 157).mono hM.size))
   obtain ⟨y0,y1,y2,y3⟩:=(BoxC.new wr #[.string xk,.int .i64 xa,.int .u64 ((xb : Nat) : Int),.string xt] 157).four
   have cF:=formed_any xa xb xt _ hO.2.1 hO.2.2 (HU.out.below HM.out)
   clear hM hO
   cases hz : formedB ⟨xa,xb,xt.data.toList⟩
   ·rw [hz] at cF
    have Q:=hbad hz
    clear hgood hbad hz
    go_upto_region 4 with (fail)
    generalize wr.alloc (.cells #[.string xk,.int .i64 xa,.int .u64 ((xb : Nat) : Int),.string xt] 157) = W1 at *
    go_wp2_with (go_at_call 135;((with_reducible refine cF.mono ?_);rintro e w2 ⟨rfl,hb2⟩;have H2:=hid (HM.out.trans (hb2.mono HM.out.size))))
    go_ret
    exact ⟨by rw [valsB,Q.out];rfl,H2.out⟩
   ·rw [hz] at cF
    have Q:=hgood hz
    clear hgood hbad hz
    go_upto_region 4 with (fail)
    generalize wr.alloc (.cells #[.string xk,.int .i64 xa,.int .u64 ((xb : Nat) : Int),.string xt] 157) = W1 at *
    go_wp2_with (go_at_call 135;((with_reducible refine cF.mono ?_);rintro e w2 ⟨rfl,hb2⟩;have H2:=hid (HM.out.trans (hb2.mono HM.out.size))))
    go_roundw
    case rel=>exact ⟨k + 1,by omega,by go_num,Q.out,H2.out⟩
    case measure=>simp [intOf];omega
  ·have Q:=hid (all_done (fun x=>formedB (valM x)) ws k (by omega) ht)
   clear ht
   go_wp2
   go_ret
   exact ⟨by rw [valsB,Q.out];rfl,hM⟩
end Go.Proofs.YtcfmifongbapkaaGreatDoor

namespace Go.Proofs.YtcfmifongbapkaaGreatDoor

open Go.RowKit
open Go.Lib (hid)

set_option maxHeartbeats 1000000 in
theorem tFormed_any (s q : Int) (a : Option Addr) (n c : Nat) (b : Option Addr) (m d : Nat) (rs : List RdM) (ws : List WrM) (w : World) (h : TxAt w a n b m rs ws) (hU : Tabs w) :
  Calls Tryz.prog 90 #[.agg (txV s q a n c b m d)] w (Says w (formT formedB (txT (s,q) rs ws))):=by
 have H0:=hid ((Boxs.start w).more (txV s q a n c b m d) 30)
 have HT:=hid h
 have HU:=hid hU
 have hl:=h.lenR
 have hk:=h.lenW
 have cI:=fun W=>tId_any s q W
 obtain ⟨x0,x1,x2,x3⟩:=(H0.out.get 0 _ _ _ rfl).four
 clear h hU
 cases hI : idB (s,q)
 ·rw [hI] at cI
  have Q:=hid (form_len (s,q) rs ws (.inl hI))
  clear hI
  go_enter Tryz.func90,Tryz.ntmps90
  go_wp2_with (go_at_call 117;((with_reducible refine (cI _).mono ?_);rintro e w1 ⟨rfl,hb1⟩;have H1:=hid (H0.out.below hb1)))
  go_ret
  exact ⟨by rw [Q.out];rfl,H1.out.bel⟩
 rw [hI] at cI
 by_cases hn : 6 < n
 ·have Q:=hid (form_len (s,q) rs ws (.inr (.inl (by omega))))
  have d1 : decide ((6 : Int) < (n : Int)) = true:=by simp;omega
  clear hI
  go_enter Tryz.func90,Tryz.ntmps90
  go_wp2_with (go_at_call 117;((with_reducible refine (cI _).mono ?_);rintro e w1 ⟨rfl,hb1⟩;have H1:=hid (H0.out.below hb1);(clear x0 x1 x2 x3);obtain ⟨x0,x1,x2,x3⟩:=(H1.out.get 0 _ _ _ rfl).four))
  go_ret
  exact ⟨by rw [Q.out];rfl,H1.out.bel⟩
 have d1 : decide ((6 : Int) < (n : Int)) = false:=by simp;omega
 by_cases hm : 6 < m
 ·have Q:=hid (form_len (s,q) rs ws (.inr (.inr (.inl (by omega)))))
  have d2 : decide ((6 : Int) < (m : Int)) = true:=by simp;omega
  clear hI
  go_enter Tryz.func90,Tryz.ntmps90
  go_wp2_with (go_at_call 117;((with_reducible refine (cI _).mono ?_);rintro e w1 ⟨rfl,hb1⟩;have H1:=hid (H0.out.below hb1);(clear x0 x1 x2 x3);obtain ⟨x0,x1,x2,x3⟩:=(H1.out.get 0 _ _ _ rfl).four))
  go_ret
  exact ⟨by rw [Q.out];rfl,H1.out.bel⟩
 have d2 : decide ((6 : Int) < (m : Int)) = false:=by simp;omega
 by_cases h0 : n + m = 0
 ·have Q:=hid (form_len (s,q) rs ws (.inr (.inr (.inr (by omega)))))
  have d3 : ((n : Int) + (m : Int) == 0) = true:=by simp;omega
  clear hI
  go_enter Tryz.func90,Tryz.ntmps90
  go_wp2_with (go_at_call 117;((with_reducible refine (cI _).mono ?_);rintro e w1 ⟨rfl,hb1⟩;have H1:=hid (H0.out.below hb1);(clear x0 x1 x2 x3);obtain ⟨x0,x1,x2,x3⟩:=(H1.out.get 0 _ _ _ rfl).four))
  go_ret
  exact ⟨by rw [Q.out];rfl,H1.out.bel⟩
 have d3 : ((n : Int) + (m : Int) == 0) = false:=by simp;omega
 rw [form_parts (s,q) rs ws hI (by omega) (by omega) (by omega)]
 have cK:=fun W (hW : Below w.heap.size w W)=>readKeys_any a n c rs W (HT.out.later hW).rds (by omega)
 have cK':=fun W (hW : Below w.heap.size w W)=>writeKeys_any b m d ws W (HT.out.later hW).wrs (by omega)
 have cV:=fun W (hW : Below w.heap.size w W)=>values_any b m d ws W (HT.out.later hW).wrs HT.out.okW (by omega) (HU.out.below hW)
 have HR:=hid (fun a1 c1 W (hW : StrsAt W W.heap.size a1 (keysM rs).length (keysM rs))=>rising_any a1 (keysM rs).length c1 _ (keysM rs) W hW (keysM_ok HT.out.okR) (by rw [keysM_len];omega))
 have HR':=hid (fun a1 c1 W (hW : StrsAt W W.heap.size a1 (keysV ws).length (keysV ws))=>rising_any a1 (keysV ws).length c1 _ (keysV ws) W hW (keysV_ok HT.out.okW) (by rw [keysV_len];omega))
 clear hI
 cases h1 : riseB (txt (keysM rs))
 ·rw [h1] at HR
  clear h1
  go_enter Tryz.func90,Tryz.ntmps90
  go_wp2_with (first | (go_at_call 117;((with_reducible refine (cI _).mono ?_);rintro e w1 ⟨rfl,hb1⟩;have H1:=hid (H0.out.below hb1);(clear x0 x1 x2 x3);obtain ⟨x0,x1,x2,x3⟩:=(H1.out.get 0 _ _ _ rfl).four)) | (go_at_call 119;((with_reducible refine (cK _ H1.out.bel).mono ?_);rintro e w2 ⟨a1,c1,rfl,hS,_,hb2⟩;have H2:=hid (H1.out.below hb2);have cR:=HR.out a1 c1 w2 hS;(clear x0 x1 x2 x3))) | (go_at_call 118;((with_reducible refine cR.mono ?_);rintro e w3 ⟨rfl,rfl⟩)))
  go_ret
  exact ⟨rfl,H2.out.bel⟩
 rw [h1] at HR
 clear h1
 cases h2 : riseB (txt (keysV ws))
 ·rw [h2] at HR'
  clear h2
  go_enter Tryz.func90,Tryz.ntmps90
  go_wp2_with (first | (go_at_call 117;((with_reducible refine (cI _).mono ?_);rintro e w1 ⟨rfl,hb1⟩;have H1:=hid (H0.out.below hb1);(clear x0 x1 x2 x3);obtain ⟨x0,x1,x2,x3⟩:=(H1.out.get 0 _ _ _ rfl).four)) | (go_at_call 119;((with_reducible refine (cK _ H1.out.bel).mono ?_);rintro e w2 ⟨a1,c1,rfl,hS,_,hb2⟩;have H2:=hid (H1.out.below hb2);have cR:=HR.out a1 c1 w2 hS;(clear x0 x1 x2 x3);obtain ⟨x0,x1,x2,x3⟩:=(H2.out.get 0 _ _ _ rfl).four)) | (go_at_call 118;((with_reducible refine cR.mono ?_);rintro e w3 ⟨rfl,rfl⟩)) | (go_at_call 120;((with_reducible refine (cK' _ H2.out.bel).mono ?_);rintro e w4 ⟨a2,c2,rfl,hS2,_,hb4⟩;have H4:=hid (H2.out.below hb4);have cR':=HR'.out a2 c2 w4 hS2;(clear x0 x1 x2 x3))) | (go_at_call 118;((with_reducible refine cR'.mono ?_);rintro e w5 ⟨rfl,rfl⟩)))
  go_ret
  exact ⟨rfl,H4.out.bel⟩
 rw [h2] at HR'
 clear h2
 go_enter Tryz.func90,Tryz.ntmps90
 go_wp2_with (first | (go_at_call 117;((with_reducible refine (cI _).mono ?_);rintro e w1 ⟨rfl,hb1⟩;have H1:=hid (H0.out.below hb1);(clear x0 x1 x2 x3);obtain ⟨x0,x1,x2,x3⟩:=(H1.out.get 0 _ _ _ rfl).four)) | (go_at_call 119;((with_reducible refine (cK _ H1.out.bel).mono ?_);rintro e w2 ⟨a1,c1,rfl,hS,_,hb2⟩;have H2:=hid (H1.out.below hb2);have cR:=HR.out a1 c1 w2 hS;(clear x0 x1 x2 x3);obtain ⟨x0,x1,x2,x3⟩:=(H2.out.get 0 _ _ _ rfl).four)) | (go_at_call 118;((with_reducible refine cR.mono ?_);rintro e w3 ⟨rfl,rfl⟩)) | (go_at_call 120;((with_reducible refine (cK' _ H2.out.bel).mono ?_);rintro e w4 ⟨a2,c2,rfl,hS2,_,hb4⟩;have H4:=hid (H2.out.below hb4);have cR':=HR'.out a2 c2 w4 hS2;(clear x0 x1 x2 x3);obtain ⟨x0,x1,x2,x3⟩:=(H4.out.get 0 _ _ _ rfl).four)) | (go_at_call 118;((with_reducible refine cR'.mono ?_);rintro e w5 ⟨rfl,rfl⟩)) | (go_at_call 121;((with_reducible refine (cV _ H4.out.bel).mono ?_);rintro e w6 ⟨rfl,hb6⟩;have H6:=hid (H4.out.below hb6))))
 go_ret
 exact ⟨rfl,H6.out.bel⟩
end Go.Proofs.YtcfmifongbapkaaGreatDoor

namespace Go.Proofs.YtcfmifongbapkaaGreatDoor

open Go.RowKit
open Go.Lib (hid)

set_option linter.unusedVariables false

set_option maxRecDepth 100000 in
set_option maxHeartbeats 4000000 in
theorem kFormed_any (x : CmM) (rs : List RdM) (ws : List WrM) (w : World) (h : CmAt w x rs ws) (hn : x.n≤1000000) (hm : x.m≤1000000) (hU : Tabs w) :
  Calls Tryz.prog 50 #[.agg (cmV x)] w (Says w (formCm (cmT x rs ws))):=by
 have H0:=hid ((Boxs.start w).more (cmV x) 33)
 have cN:=fun W=>kNamed_any x W
 have cS : ∀ W,Below w.heap.size w W→Calls Tryz.prog 54 #[.agg (cmV x),.agg (cmV (namedM x))] W (Says W (cleanB x rs ws)):=fun W hW=>kSame_any x (namedM x) rs (namedL x rs) ws (namedL x ws) W (h.later hW) ((named_at h).later hW) hn hm
 have cF:=fun W (hW : Below w.heap.size w W)=>tFormed_any x.s x.q x.a x.n x.c x.b x.m x.d rs ws W (h.tx.later hW) (hU.below hW)
 have cO:=fun W=>kSource_any x W
 obtain ⟨x0,x1,x2,x3,x4,x5,x6,x7,x8,x9⟩:=(H0.out.get 0 _ _ _ rfl).ten
 clear h hU
 generalize namedM x = y at *
 cases hc : cleanB x rs ws
 ·rw [hc] at cS
  have Q:=hid (form_clean hc)
  clear hc cF cO
  go_enter Tryz.func50,Tryz.ntmps50
  go_upto_region 1 with (fail)
  have X0:=hid H0.out.drew
  have s0:=(X0.out.get 0 _ _ _ rfl).ten
  (clear x0 x1 x2 x3 x4 x5 x6 x7 x8 x9)
  go_region_held3 (fun W=>(W.cell? ⟨w.heap.size,0,none⟩ = some (.int .i64 x.k)∧W.cell? ⟨w.heap.size,1,none⟩ = some (.int .i64 x.s)∧W.cell? ⟨w.heap.size,2,none⟩ = some (.int .i64 x.q)∧W.cell? ⟨w.heap.size,3,none⟩ = some (.slice x.a x.n x.c)∧W.cell? ⟨w.heap.size,4,none⟩ = some (.slice x.b x.m x.d)∧W.cell? ⟨w.heap.size,5,none⟩ = some (.int .i64 x.i)∧W.cell? ⟨w.heap.size,6,none⟩ = some (.int .i64 x.j)∧W.cell? ⟨w.heap.size,7,none⟩ = some (.int .i64 x.g)∧W.cell? ⟨w.heap.size,8,none⟩ = some (.int .u64 ((x.st : Nat) : Int))∧W.cell? ⟨w.heap.size,9,none⟩ = some (.bool x.y))) (first | (with_reducible exact s0) | (with_reducible exact s1) | (with_reducible exact s2))
   (first | (go_at_call 89;((with_reducible refine (cN _).mono ?_);rintro e v1 ⟨rfl,hb1⟩;have X1:=hid (X0.out.below hb1);have s1:=(X1.out.get 0 _ _ _ rfl).ten)) | (go_at_call 54;((with_reducible refine (cS _ X1.out.bel).mono ?_);rintro e v2 ⟨rfl,hb2⟩;have X2:=hid (X1.out.below hb2);have s2:=(X2.out.get 0 _ _ _ rfl).ten)))
  obtain ⟨x0,x1,x2,x3,x4,x5,x6,x7,x8,x9⟩:=(X2.out.get 0 _ _ _ rfl).ten
  (clear s0 s1 s2 X0 X1)
  go_wp2
  go_ret
  exact ⟨by rw [Q.out];rfl,X2.out.bel⟩
 rw [hc] at cS
 rcases clean_kind hc with h0 | h1 | h2 | h3
 ·have Q:=hid (form_zero hc h0)
  clear hc cF cO
  have q1 : (x.k == 1) = false:=by simp;omega
  have q2 : (x.k == 2) = false:=by simp;omega
  have q3 : (x.k == 3) = false:=by simp;omega
  clear h0
  go_enter Tryz.func50,Tryz.ntmps50
  go_upto_region 1 with (fail)
  have X0:=hid H0.out.drew
  have s0:=(X0.out.get 0 _ _ _ rfl).ten
  (clear x0 x1 x2 x3 x4 x5 x6 x7 x8 x9)
  go_region_held3 (fun W=>(W.cell? ⟨w.heap.size,0,none⟩ = some (.int .i64 x.k)∧W.cell? ⟨w.heap.size,1,none⟩ = some (.int .i64 x.s)∧W.cell? ⟨w.heap.size,2,none⟩ = some (.int .i64 x.q)∧W.cell? ⟨w.heap.size,3,none⟩ = some (.slice x.a x.n x.c)∧W.cell? ⟨w.heap.size,4,none⟩ = some (.slice x.b x.m x.d)∧W.cell? ⟨w.heap.size,5,none⟩ = some (.int .i64 x.i)∧W.cell? ⟨w.heap.size,6,none⟩ = some (.int .i64 x.j)∧W.cell? ⟨w.heap.size,7,none⟩ = some (.int .i64 x.g)∧W.cell? ⟨w.heap.size,8,none⟩ = some (.int .u64 ((x.st : Nat) : Int))∧W.cell? ⟨w.heap.size,9,none⟩ = some (.bool x.y))) (first | (with_reducible exact s0) | (with_reducible exact s1) | (with_reducible exact s2))
   (first | (go_at_call 89;((with_reducible refine (cN _).mono ?_);rintro e v1 ⟨rfl,hb1⟩;have X1:=hid (X0.out.below hb1);have s1:=(X1.out.get 0 _ _ _ rfl).ten)) | (go_at_call 54;((with_reducible refine (cS _ X1.out.bel).mono ?_);rintro e v2 ⟨rfl,hb2⟩;have X2:=hid (X1.out.below hb2);have s2:=(X2.out.get 0 _ _ _ rfl).ten)))
  obtain ⟨x0,x1,x2,x3,x4,x5,x6,x7,x8,x9⟩:=(X2.out.get 0 _ _ _ rfl).ten
  (clear s0 s1 s2 X0 X1)
  go_wp2
  go_ret
  exact ⟨by rw [Q.out];rfl,X2.out.bel⟩
 ·have Q:=hid (form_begin hc h1)
  clear hc cO
  generalize formT formedB (txT (x.s,x.q) rs ws) = B at *
  have q1 : (x.k == 1) = true:=by simp;omega
  clear h1
  go_enter Tryz.func50,Tryz.ntmps50
  go_upto_region 1 with (fail)
  have X0:=hid H0.out.drew
  have s0:=(X0.out.get 0 _ _ _ rfl).ten
  (clear x0 x1 x2 x3 x4 x5 x6 x7 x8 x9)
  go_region_held3 (fun W=>(W.cell? ⟨w.heap.size,0,none⟩ = some (.int .i64 x.k)∧W.cell? ⟨w.heap.size,1,none⟩ = some (.int .i64 x.s)∧W.cell? ⟨w.heap.size,2,none⟩ = some (.int .i64 x.q)∧W.cell? ⟨w.heap.size,3,none⟩ = some (.slice x.a x.n x.c)∧W.cell? ⟨w.heap.size,4,none⟩ = some (.slice x.b x.m x.d)∧W.cell? ⟨w.heap.size,5,none⟩ = some (.int .i64 x.i)∧W.cell? ⟨w.heap.size,6,none⟩ = some (.int .i64 x.j)∧W.cell? ⟨w.heap.size,7,none⟩ = some (.int .i64 x.g)∧W.cell? ⟨w.heap.size,8,none⟩ = some (.int .u64 ((x.st : Nat) : Int))∧W.cell? ⟨w.heap.size,9,none⟩ = some (.bool x.y))) (first | (with_reducible exact s0) | (with_reducible exact s1) | (with_reducible exact s2))
   (first | (go_at_call 89;((with_reducible refine (cN _).mono ?_);rintro e v1 ⟨rfl,hb1⟩;have X1:=hid (X0.out.below hb1);have s1:=(X1.out.get 0 _ _ _ rfl).ten)) | (go_at_call 54;((with_reducible refine (cS _ X1.out.bel).mono ?_);rintro e v2 ⟨rfl,hb2⟩;have X2:=hid (X1.out.below hb2);have s2:=(X2.out.get 0 _ _ _ rfl).ten)))
  obtain ⟨x0,x1,x2,x3,x4,x5,x6,x7,x8,x9⟩:=(X2.out.get 0 _ _ _ rfl).ten
  (clear s0 s1 s2 X0 X1)
  go_wp2_with (go_at_call 90;((with_reducible refine (cF _ X2.out.bel).mono ?_);rintro e w3 ⟨rfl,hb3⟩;have X3:=hid (X2.out.below hb3)))
  go_ret
  exact ⟨by rw [Q.out];rfl,X3.out.bel⟩
 ·have Q:=hid (form_stamp hc h2)
  clear hc cF
  generalize srcB x = B at *
  cases B
  ·have q1 : (x.k == 1) = false:=by simp;omega
   have q2 : (x.k == 2) = true:=by simp;omega
   clear h2
   go_enter Tryz.func50,Tryz.ntmps50
   go_upto_region 1 with (fail)
   have X0:=hid H0.out.drew
   have s0:=(X0.out.get 0 _ _ _ rfl).ten
   (clear x0 x1 x2 x3 x4 x5 x6 x7 x8 x9)
   go_region_held3 (fun W=>(W.cell? ⟨w.heap.size,0,none⟩ = some (.int .i64 x.k)∧W.cell? ⟨w.heap.size,1,none⟩ = some (.int .i64 x.s)∧W.cell? ⟨w.heap.size,2,none⟩ = some (.int .i64 x.q)∧W.cell? ⟨w.heap.size,3,none⟩ = some (.slice x.a x.n x.c)∧W.cell? ⟨w.heap.size,4,none⟩ = some (.slice x.b x.m x.d)∧W.cell? ⟨w.heap.size,5,none⟩ = some (.int .i64 x.i)∧W.cell? ⟨w.heap.size,6,none⟩ = some (.int .i64 x.j)∧W.cell? ⟨w.heap.size,7,none⟩ = some (.int .i64 x.g)∧W.cell? ⟨w.heap.size,8,none⟩ = some (.int .u64 ((x.st : Nat) : Int))∧W.cell? ⟨w.heap.size,9,none⟩ = some (.bool x.y))) (first | (with_reducible exact s0) | (with_reducible exact s1) | (with_reducible exact s2))
    (first | (go_at_call 89;((with_reducible refine (cN _).mono ?_);rintro e v1 ⟨rfl,hb1⟩;have X1:=hid (X0.out.below hb1);have s1:=(X1.out.get 0 _ _ _ rfl).ten)) | (go_at_call 54;((with_reducible refine (cS _ X1.out.bel).mono ?_);rintro e v2 ⟨rfl,hb2⟩;have X2:=hid (X1.out.below hb2);have s2:=(X2.out.get 0 _ _ _ rfl).ten)))
   obtain ⟨x0,x1,x2,x3,x4,x5,x6,x7,x8,x9⟩:=(X2.out.get 0 _ _ _ rfl).ten
   (clear s0 s1 s2 X0 X1)
   go_wp2_with (go_at_call 91;((with_reducible refine (cO _).mono ?_);rintro e w3 ⟨rfl,hb3⟩;have X3:=hid (X2.out.below hb3)))
   go_ret
   exact ⟨by rw [Q.out];rfl,X3.out.bel⟩
  ·by_cases h4 : 1≤x.st
   ·rw [decide_eq_true h4] at Q
    have i4 : (1 : Int)≤((x.st : Nat) : Int):=by omega
    by_cases h5 : x.st≤9223372036854775807
    ·rw [decide_eq_true h5] at Q
     have i5 : ((x.st : Nat) : Int)≤9223372036854775807:=by omega
     have q1 : (x.k == 1) = false:=by simp;omega
     have q2 : (x.k == 2) = true:=by simp;omega
     clear h2
     go_enter Tryz.func50,Tryz.ntmps50
     go_upto_region 1 with (fail)
     have X0:=hid H0.out.drew
     have s0:=(X0.out.get 0 _ _ _ rfl).ten
     (clear x0 x1 x2 x3 x4 x5 x6 x7 x8 x9)
     go_region_held3 (fun W=>(W.cell? ⟨w.heap.size,0,none⟩ = some (.int .i64 x.k)∧W.cell? ⟨w.heap.size,1,none⟩ = some (.int .i64 x.s)∧W.cell? ⟨w.heap.size,2,none⟩ = some (.int .i64 x.q)∧W.cell? ⟨w.heap.size,3,none⟩ = some (.slice x.a x.n x.c)∧W.cell? ⟨w.heap.size,4,none⟩ = some (.slice x.b x.m x.d)∧W.cell? ⟨w.heap.size,5,none⟩ = some (.int .i64 x.i)∧W.cell? ⟨w.heap.size,6,none⟩ = some (.int .i64 x.j)∧W.cell? ⟨w.heap.size,7,none⟩ = some (.int .i64 x.g)∧W.cell? ⟨w.heap.size,8,none⟩ = some (.int .u64 ((x.st : Nat) : Int))∧W.cell? ⟨w.heap.size,9,none⟩ = some (.bool x.y))) (first | (with_reducible exact s0) | (with_reducible exact s1) | (with_reducible exact s2))
      (first | (go_at_call 89;((with_reducible refine (cN _).mono ?_);rintro e v1 ⟨rfl,hb1⟩;have X1:=hid (X0.out.below hb1);have s1:=(X1.out.get 0 _ _ _ rfl).ten)) | (go_at_call 54;((with_reducible refine (cS _ X1.out.bel).mono ?_);rintro e v2 ⟨rfl,hb2⟩;have X2:=hid (X1.out.below hb2);have s2:=(X2.out.get 0 _ _ _ rfl).ten)))
     obtain ⟨x0,x1,x2,x3,x4,x5,x6,x7,x8,x9⟩:=(X2.out.get 0 _ _ _ rfl).ten
     (clear s0 s1 s2 X0 X1)
     go_wp2_with (go_at_call 91;((with_reducible refine (cO _).mono ?_);rintro e w3 ⟨rfl,hb3⟩;have X3:=hid (X2.out.below hb3);(clear x0 x1 x2 x3 x4 x5 x6 x7 x8 x9);obtain ⟨x0,x1,x2,x3,x4,x5,x6,x7,x8,x9⟩:=(X3.out.get 0 _ _ _ rfl).ten))
     go_ret
     exact ⟨by rw [Q.out];rfl,X3.out.bel⟩
    ·rw [decide_eq_false h5] at Q
     have i5 : ¬ ((x.st : Nat) : Int)≤9223372036854775807:=by omega
     have i6 : decide (((x.st : Nat) : Int)≤9223372036854775807) = false:=decide_eq_false i5
     have q1 : (x.k == 1) = false:=by simp;omega
     have q2 : (x.k == 2) = true:=by simp;omega
     clear h2
     go_enter Tryz.func50,Tryz.ntmps50
     go_upto_region 1 with (fail)
     have X0:=hid H0.out.drew
     have s0:=(X0.out.get 0 _ _ _ rfl).ten
     (clear x0 x1 x2 x3 x4 x5 x6 x7 x8 x9)
     go_region_held3 (fun W=>(W.cell? ⟨w.heap.size,0,none⟩ = some (.int .i64 x.k)∧W.cell? ⟨w.heap.size,1,none⟩ = some (.int .i64 x.s)∧W.cell? ⟨w.heap.size,2,none⟩ = some (.int .i64 x.q)∧W.cell? ⟨w.heap.size,3,none⟩ = some (.slice x.a x.n x.c)∧W.cell? ⟨w.heap.size,4,none⟩ = some (.slice x.b x.m x.d)∧W.cell? ⟨w.heap.size,5,none⟩ = some (.int .i64 x.i)∧W.cell? ⟨w.heap.size,6,none⟩ = some (.int .i64 x.j)∧W.cell? ⟨w.heap.size,7,none⟩ = some (.int .i64 x.g)∧W.cell? ⟨w.heap.size,8,none⟩ = some (.int .u64 ((x.st : Nat) : Int))∧W.cell? ⟨w.heap.size,9,none⟩ = some (.bool x.y))) (first | (with_reducible exact s0) | (with_reducible exact s1) | (with_reducible exact s2))
      (first | (go_at_call 89;((with_reducible refine (cN _).mono ?_);rintro e v1 ⟨rfl,hb1⟩;have X1:=hid (X0.out.below hb1);have s1:=(X1.out.get 0 _ _ _ rfl).ten)) | (go_at_call 54;((with_reducible refine (cS _ X1.out.bel).mono ?_);rintro e v2 ⟨rfl,hb2⟩;have X2:=hid (X1.out.below hb2);have s2:=(X2.out.get 0 _ _ _ rfl).ten)))
     obtain ⟨x0,x1,x2,x3,x4,x5,x6,x7,x8,x9⟩:=(X2.out.get 0 _ _ _ rfl).ten
     (clear s0 s1 s2 X0 X1)
     go_wp2_with (go_at_call 91;((with_reducible refine (cO _).mono ?_);rintro e w3 ⟨rfl,hb3⟩;have X3:=hid (X2.out.below hb3);(clear x0 x1 x2 x3 x4 x5 x6 x7 x8 x9);obtain ⟨x0,x1,x2,x3,x4,x5,x6,x7,x8,x9⟩:=(X3.out.get 0 _ _ _ rfl).ten))
     go_ret
     exact ⟨by rw [Q.out];first | rfl | simp,X3.out.bel⟩
   ·rw [decide_eq_false h4] at Q
    have i4 : ¬ (1 : Int)≤((x.st : Nat) : Int):=by omega
    have q1 : (x.k == 1) = false:=by simp;omega
    have q2 : (x.k == 2) = true:=by simp;omega
    clear h2
    go_enter Tryz.func50,Tryz.ntmps50
    go_upto_region 1 with (fail)
    have X0:=hid H0.out.drew
    have s0:=(X0.out.get 0 _ _ _ rfl).ten
    (clear x0 x1 x2 x3 x4 x5 x6 x7 x8 x9)
    go_region_held3 (fun W=>(W.cell? ⟨w.heap.size,0,none⟩ = some (.int .i64 x.k)∧W.cell? ⟨w.heap.size,1,none⟩ = some (.int .i64 x.s)∧W.cell? ⟨w.heap.size,2,none⟩ = some (.int .i64 x.q)∧W.cell? ⟨w.heap.size,3,none⟩ = some (.slice x.a x.n x.c)∧W.cell? ⟨w.heap.size,4,none⟩ = some (.slice x.b x.m x.d)∧W.cell? ⟨w.heap.size,5,none⟩ = some (.int .i64 x.i)∧W.cell? ⟨w.heap.size,6,none⟩ = some (.int .i64 x.j)∧W.cell? ⟨w.heap.size,7,none⟩ = some (.int .i64 x.g)∧W.cell? ⟨w.heap.size,8,none⟩ = some (.int .u64 ((x.st : Nat) : Int))∧W.cell? ⟨w.heap.size,9,none⟩ = some (.bool x.y))) (first | (with_reducible exact s0) | (with_reducible exact s1) | (with_reducible exact s2))
     (first | (go_at_call 89;((with_reducible refine (cN _).mono ?_);rintro e v1 ⟨rfl,hb1⟩;have X1:=hid (X0.out.below hb1);have s1:=(X1.out.get 0 _ _ _ rfl).ten)) | (go_at_call 54;((with_reducible refine (cS _ X1.out.bel).mono ?_);rintro e v2 ⟨rfl,hb2⟩;have X2:=hid (X1.out.below hb2);have s2:=(X2.out.get 0 _ _ _ rfl).ten)))
    obtain ⟨x0,x1,x2,x3,x4,x5,x6,x7,x8,x9⟩:=(X2.out.get 0 _ _ _ rfl).ten
    (clear s0 s1 s2 X0 X1)
    go_wp2_with (go_at_call 91;((with_reducible refine (cO _).mono ?_);rintro e w3 ⟨rfl,hb3⟩;have X3:=hid (X2.out.below hb3);(clear x0 x1 x2 x3 x4 x5 x6 x7 x8 x9);obtain ⟨x0,x1,x2,x3,x4,x5,x6,x7,x8,x9⟩:=(X3.out.get 0 _ _ _ rfl).ten))
    go_ret
    exact ⟨by rw [Q.out];rfl,X3.out.bel⟩
 ·have Q:=hid (form_vote hc h3)
  clear hc cF
  generalize srcB x = B at *
  have q1 : (x.k == 1) = false:=by simp;omega
  have q2 : (x.k == 2) = false:=by simp;omega
  have q3 : (x.k == 3) = true:=by simp;omega
  clear h3
  go_enter Tryz.func50,Tryz.ntmps50
  go_upto_region 1 with (fail)
  have X0:=hid H0.out.drew
  have s0:=(X0.out.get 0 _ _ _ rfl).ten
  (clear x0 x1 x2 x3 x4 x5 x6 x7 x8 x9)
  go_region_held3 (fun W=>(W.cell? ⟨w.heap.size,0,none⟩ = some (.int .i64 x.k)∧W.cell? ⟨w.heap.size,1,none⟩ = some (.int .i64 x.s)∧W.cell? ⟨w.heap.size,2,none⟩ = some (.int .i64 x.q)∧W.cell? ⟨w.heap.size,3,none⟩ = some (.slice x.a x.n x.c)∧W.cell? ⟨w.heap.size,4,none⟩ = some (.slice x.b x.m x.d)∧W.cell? ⟨w.heap.size,5,none⟩ = some (.int .i64 x.i)∧W.cell? ⟨w.heap.size,6,none⟩ = some (.int .i64 x.j)∧W.cell? ⟨w.heap.size,7,none⟩ = some (.int .i64 x.g)∧W.cell? ⟨w.heap.size,8,none⟩ = some (.int .u64 ((x.st : Nat) : Int))∧W.cell? ⟨w.heap.size,9,none⟩ = some (.bool x.y))) (first | (with_reducible exact s0) | (with_reducible exact s1) | (with_reducible exact s2))
   (first | (go_at_call 89;((with_reducible refine (cN _).mono ?_);rintro e v1 ⟨rfl,hb1⟩;have X1:=hid (X0.out.below hb1);have s1:=(X1.out.get 0 _ _ _ rfl).ten)) | (go_at_call 54;((with_reducible refine (cS _ X1.out.bel).mono ?_);rintro e v2 ⟨rfl,hb2⟩;have X2:=hid (X1.out.below hb2);have s2:=(X2.out.get 0 _ _ _ rfl).ten)))
  obtain ⟨x0,x1,x2,x3,x4,x5,x6,x7,x8,x9⟩:=(X2.out.get 0 _ _ _ rfl).ten
  (clear s0 s1 s2 X0 X1)
  go_wp2_with (go_at_call 91;((with_reducible refine (cO _).mono ?_);rintro e w3 ⟨rfl,hb3⟩;have X3:=hid (X2.out.below hb3)))
  go_ret
  exact ⟨by rw [Q.out];rfl,X3.out.bel⟩
end Go.Proofs.YtcfmifongbapkaaGreatDoor
