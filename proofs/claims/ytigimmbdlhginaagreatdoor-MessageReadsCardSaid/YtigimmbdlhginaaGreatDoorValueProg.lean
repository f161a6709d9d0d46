/- Contracts of the program's Formed and Key. Conditions: the value's number and text fit their kinds; utf8's tables hold what they hold. -/
import Derived.Laws.StructEq
import Derived.Test.YtigimmbdlhginaaGreatDoorValueKey
import Derived.Test.YtigimmbdlhginaaGreatDoorGF
import Derived.Test.YtigimmbdlhginaaGreatDoorValueUtf8
import Derived.Deep.RegionHeld3
import Derived.Deep.RegionWith
namespace Go.Proofs.YtigimmbdlhginaaGreatDoor
open Go.RowKit
open Go.Lib (hid)
theorem Tabs.below {w w' : World} (h : Tabs w) (hb : Below w.heap.size w w') : Tabs w':=Utf8Tabs_below h hb
theorem number_any (b : Nat) (w : World) : Calls Tryz.prog 91 #[.int .u64 b] w fun e w'=>e = .returned (.agg #[.int .i64 1,.int .u64 b,.string ⟨#[]⟩])∧Below w.heap.size w w':=by
 obtain ⟨a1,a2,a3⟩:=box3 w (.int .i64 1) (.int .u64 b) (.string ⟨#[]⟩) 37
 go_enter Tryz.func91,Tryz.ntmps91
 go_wp2
 exact bodyPost_ret (v:=.agg #[.int .i64 1,.int .u64 b,.string ⟨#[]⟩]) (by simp [results,Tryz.results91,go_sem,a1,a2,a3]) rfl ⟨rfl,(Below.refl _ _).alloc (Nat.le_refl _) _⟩
theorem text_any (t : ByteArray) (w : World) : Calls Tryz.prog 93 #[.string t] w fun e w'=>e = .returned (.agg #[.int .i64 2,.int .u64 0,.string t])∧Below w.heap.size w w':=by
 obtain ⟨a1,a2,a3⟩:=box3 w (.int .i64 2) (.int .u64 0) (.string t) 37
 go_enter Tryz.func93,Tryz.ntmps93
 go_wp2
 exact bodyPost_ret (v:=.agg #[.int .i64 2,.int .u64 0,.string t]) (by simp [results,Tryz.results93,go_sem,a1,a2,a3]) rfl ⟨rfl,(Below.refl _ _).alloc (Nat.le_refl _) _⟩
set_option maxHeartbeats 1000000 in
theorem formed_any (k : Int) (b : Nat) (t : ByteArray) (w : World) (hb : b < 18446744073709551616) (ht : t.size≤maxLen) (hT : Tabs w) :
  Calls Tryz.prog 62 #[.agg #[.int .i64 k,.int .u64 b,.string t]] w fun e w'=>e = .returned (.bool (formedB ⟨k,b,t.data.toList⟩))∧Below w.heap.size w w':=by
 have ht':=ht
 unfold maxLen at ht'
 have hB1 : Below w.heap.size w (w.alloc (.cells #[.int .i64 k,.int .u64 b,.string t] 37)):=(Below.refl _ _).alloc (Nat.le_refl _) _
 have hE : t.data.toList.isEmpty = t.toList.isEmpty:=by rw [ByteArray.toList_eq]
 have hz : t.data.toList.length = t.size:=by rw [Array.length_toList];rfl
 by_cases k0 : k = 0
 ·subst k0
  rw [formed_none,hE]
  clear hE hz hT
  by_cases b0 : b = 0
  ·subst b0
   cases e : t.toList.isEmpty
   all_goals
    go_enter Tryz.func62,Tryz.ntmps62
    go_wp2
    go_ret
    exact ⟨rfl,hB1⟩
  ·have q : ((b : Int) == 0) = false:=by simp;omega
   rw [decide_eq_false b0,Bool.false_and]
   go_enter Tryz.func62,Tryz.ntmps62
   go_wp2
   go_ret
   exact ⟨rfl,hB1⟩
 ·have q0 : (k == 0) = false:=by simp;omega
  by_cases k1 : k = 1
  ·subst k1
   rw [formed_num,hE]
   clear hE hz k0 q0 hT
   have V0:=hid (BoxV.new w 1 b t 37)
   have HB:=hid hB1
   have hC:=fun W=>canon_any b W
   have hlt : w.heap.size < (w.alloc (.cells #[.int .i64 1,.int .u64 b,.string t] 37)).drew.heap.size:=by show w.heap.size < (w.alloc _).heap.size;simp
   by_cases hc : canonF b = b
   ·rw [hc] at hC ⊢
    rw [decide_eq_true rfl]
    cases e : t.toList.isEmpty
    all_goals
     clear hB1
     go_enter Tryz.func62,Tryz.ntmps62
     go_upto_region 5 with (fail)
     generalize w.alloc (.cells #[.int .i64 1,.int .u64 b,.string t] 37) = W at *
     have s1:=V0.out
     go_region_held3 (fun w'=>w'.cell? ⟨w.heap.size,0,none⟩ = some (.int .i64 1)∧w'.cell? ⟨w.heap.size,1,none⟩ = some (.int .u64 b)∧w'.cell? ⟨w.heap.size,2,none⟩ = some (.string t)) (first | exact s1 | exact s2)
      (first | (go_at_call 92;((with_reducible refine (hC _).mono ?_);rintro e w' ⟨rfl,rfl⟩)) | (go_at_call 91;((with_reducible refine (number_any b _).mono ?_);rintro e w2 ⟨rfl,hb2⟩;have s2:=V0.out.drew.below hb2 hlt)))
     go_wp2
     go_ret
     exact ⟨rfl,HB.out.drew.trans (hb2.mono HB.out.size)⟩
   ·rw [decide_eq_false hc,Bool.and_false]
    have q : ((b : Int) == (canonF b : Int)) = false:=by simp;omega
    generalize canonF b = cb at *
    cases e : t.toList.isEmpty
    all_goals
     clear hB1
     go_enter Tryz.func62,Tryz.ntmps62
     go_upto_region 5 with (fail)
     generalize w.alloc (.cells #[.int .i64 1,.int .u64 b,.string t] 37) = W at *
     have s1:=V0.out
     go_region_held3 (fun w'=>w'.cell? ⟨w.heap.size,0,none⟩ = some (.int .i64 1)∧w'.cell? ⟨w.heap.size,1,none⟩ = some (.int .u64 b)∧w'.cell? ⟨w.heap.size,2,none⟩ = some (.string t)) (first | exact s1 | exact s2)
      (first | (go_at_call 92;((with_reducible refine (hC _).mono ?_);rintro e w' ⟨rfl,rfl⟩)) | (go_at_call 91;((with_reducible refine (number_any cb _).mono ?_);rintro e w2 ⟨rfl,hb2⟩;have s2:=V0.out.drew.below hb2 hlt)))
     go_wp2
     go_ret
     exact ⟨rfl,HB.out.drew.trans (hb2.mono HB.out.size)⟩
  ·have q1 : (k == 1) = false:=by simp;omega
   clear hE
   by_cases k2 : k = 2
   ·subst k2
    rw [formed_text,hz]
    clear hz q0 q1 k0 k1
    have V0:=hid (BoxV.new w 2 b t 37)
    have HB:=hid hB1
    have HT:=hid (hT.below hB1.drew)
    have hlt : w.heap.size < (w.alloc (.cells #[.int .i64 2,.int .u64 b,.string t] 37)).drew.heap.size:=by show w.heap.size < (w.alloc _).heap.size;simp
    clear hB1 hT
    by_cases b0 : b = 0
    ·subst b0
     by_cases h40 : t.size≤40
     ·have q : decide ((t.size : Int)≤40) = true:=by simp;omega
      rw [decide_eq_true h40,Bool.and_true,decide_eq_true rfl,Bool.true_and]
      have cV:=fun W hW=>validString_any t W ht hW
      generalize validT t.data.toList = vt at *
      go_enter Tryz.func62,Tryz.ntmps62
      go_upto_region 7 with (fail)
      generalize w.alloc (.cells #[.int .i64 2,.int .u64 0,.string t] 37) = W at *
      have s1:=V0.out
      go_region_held3 (fun w'=>w'.cell? ⟨w.heap.size,0,none⟩ = some (.int .i64 2)∧w'.cell? ⟨w.heap.size,1,none⟩ = some (.int .u64 0)∧w'.cell? ⟨w.heap.size,2,none⟩ = some (.string t)) (first | exact s1 | exact s2 | exact s3)
       (first | (go_at_call 93;((with_reducible refine (text_any t _).mono ?_);rintro e w2 ⟨rfl,hb2⟩;have s2:=V0.out.drew.below hb2 hlt;have T2:=hid (HT.out.below hb2);have hlt2:=Nat.lt_of_lt_of_le hlt hb2.size)) | (go_at_call 94;((with_reducible refine (cV _ T2.out).mono ?_);rintro e w3 ⟨rfl,hb3⟩;have s3:=BoxV.below s2 hb3 hlt2)))
      go_wp2
      go_ret
      exact ⟨rfl,(HB.out.drew.trans (hb2.mono HB.out.size)).trans (hb3.mono (Nat.le_trans HB.out.size hb2.size))⟩
     ·have q : decide ((t.size : Int)≤40) = false:=by simp;omega
      rw [decide_eq_false h40,Bool.and_false,Bool.false_and]
      go_enter Tryz.func62,Tryz.ntmps62
      go_upto_region 7 with (fail)
      generalize w.alloc (.cells #[.int .i64 2,.int .u64 0,.string t] 37) = W at *
      obtain ⟨x1,x2,x3⟩:=V0.out
      first | (go_region_with (go_at_call 93;((with_reducible refine (text_any t _).mono ?_);rintro e w2 ⟨rfl,hb2⟩;obtain ⟨y1,y2,y3⟩:=V0.out.drew.below hb2 hlt))) | fail
      all_goals
       go_wp2
       go_ret
       exact ⟨rfl,HB.out.drew.trans (hb2.mono HB.out.size)⟩
    ·have q : ((b : Int) == 0) = false:=by simp;omega
     rw [decide_eq_false b0,Bool.false_and,Bool.false_and]
     go_enter Tryz.func62,Tryz.ntmps62
     go_upto_region 7 with (fail)
     generalize w.alloc (.cells #[.int .i64 2,.int .u64 b,.string t] 37) = W at *
     obtain ⟨x1,x2,x3⟩:=V0.out
     first | (go_region_with (go_at_call 93;((with_reducible refine (text_any t _).mono ?_);rintro e w2 ⟨rfl,hb2⟩;obtain ⟨y1,y2,y3⟩:=V0.out.drew.below hb2 hlt))) | fail
     all_goals
      go_wp2
      go_ret
      exact ⟨rfl,HB.out.drew.trans (hb2.mono HB.out.size)⟩
   ·have q2 : (k == 2) = false:=by simp;omega
    rw [formed_other k b _ k0 k1 k2]
    go_enter Tryz.func62,Tryz.ntmps62
    go_wp2
    go_ret
    exact ⟨rfl,hB1⟩
end Go.Proofs.YtigimmbdlhginaaGreatDoor
