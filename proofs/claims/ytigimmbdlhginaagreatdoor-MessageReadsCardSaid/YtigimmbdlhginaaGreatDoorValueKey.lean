/- Keys: what they are, and the contracts of value.Key and of the document's own Key. Conditions: none but the text's length. -/
import Derived.Test.YtigimmbdlhginaaGreatDoorCodeMath
import Derived.Test.YtigimmbdlhginaaGreatDoorGB
import Derived.Lib.OthersKept
namespace Go.Proofs.YtigimmbdlhginaaGreatDoor
set_option maxHeartbeats 1000000
open Go.RowKit
open Go.Lib (hid)
/-- A key's byte; a key. -/
def keyC (c : Nat) : Bool:=(decide (97≤c) && decide (c≤122)) || (decide (48≤c) && decide (c≤57))
def keyB (l : List UInt8) : Bool:=l.all (fun c=>keyC c.toNat) && (decide (1≤l.length) && decide (l.length≤12))
theorem keyB_bad (l : List UInt8) (k : Nat) (h : k < l.length) (hc : keyC l[k].toNat = false) : keyB l = false:=by
 unfold keyB
 rw [Bool.and_eq_false_iff]
 left
 rw [List.all_eq_false]
 exact ⟨l[k],List.getElem_mem h,by rw [hc];simp⟩
theorem keys_take (l : List UInt8) (k : Nat) (h : k < l.length) (ht : (l.take k).all (fun c=>keyC c.toNat) = true) (hc : keyC l[k].toNat = true) : (l.take (k + 1)).all (fun c=>keyC c.toNat) = true:=by
 rw [List.take_succ_eq_append_getElem h,List.all_append,ht];simp [hc]
theorem keyB_len (l : List UInt8) (h : l.length < 1∨12 < l.length) : keyB l = false:=by
 unfold keyB
 rw [Bool.and_eq_false_iff]
 right
 rw [Bool.and_eq_false_iff,decide_eq_false_iff_not,decide_eq_false_iff_not]
 omega
theorem refKey_any (s : ByteArray) (w : World) (hs : s.size≤maxLen) :
  Calls Tryz.prog 82 #[.string s] w fun e w'=>e = .returned (.bool (keyB s.data.toList))∧w = w':=by
 unfold maxLen at hs
 have hz : s.data.toList.length = s.size:=by rw [Array.length_toList];rfl
 have HZ:=hid hz
 clear hz
 go_enter Tryz.func82,Tryz.ntmps82
 go_wp2
 go_loop [3] (fun i => ∃ k : Nat,k≤s.size∧i = .int .i64 k∧(s.data.toList.take k).all (fun c=>keyC c.toNat) = true) (fun i=>s.size - (intOf i).toNat)
 case atStart=>exact ⟨0,Nat.zero_le _,rfl,rfl⟩
 case round =>
  obtain ⟨k,hk,rfl,ht⟩:=hrel
  have HT:=hid ht
  clear ht
  by_cases hlt : k < s.size
  ·have hl : k < s.data.toList.length:=by rw [HZ.out];exact hlt
   have hbad:=fun h=>hid (keyB_bad s.data.toList k hl h)
   have hgood:=fun h=>hid (keys_take s.data.toList k hl HT.out h)
   have hv : s.data.toList[k].toNat = (s[k]'hlt).toNat:=rfl
   rw [hv] at hbad hgood
   clear hv
   obtain ⟨v,hv⟩ : ∃ v,(s[k]'hlt).toNat = v:=⟨_,rfl⟩
   rw [hv] at hbad hgood
   by_cases h1 : v < 97
   ·by_cases h2 : v < 48
    ·have R:=hbad (by simp [keyC];omega)
     clear hbad hgood
     go_wp2
     go_ret
     exact ⟨by rw [R.out];rfl,rfl⟩
    ·by_cases h3 : 57 < v
     ·have R:=hbad (by simp [keyC];omega)
      clear hbad hgood
      go_wp2
      go_ret
      exact ⟨by rw [R.out];rfl,rfl⟩
     ·have R:=hgood (by simp [keyC];omega)
      clear hbad hgood
      go_wp2
      go_round
      case rel=>exact ⟨k + 1,by omega,by go_num,R.out⟩
      case measure=>simp [intOf];omega
   ·by_cases h2 : 122 < v
    ·have R:=hbad (by simp [keyC];omega)
     clear hbad hgood
     go_wp2
     go_ret
     exact ⟨by rw [R.out];rfl,rfl⟩
    ·have R:=hgood (by simp [keyC];omega)
     clear hbad hgood
     go_wp2
     go_round
     case rel=>exact ⟨k + 1,by omega,by go_num,R.out⟩
     case measure=>simp [intOf];omega
  ·have hR : keyB s.data.toList = (decide (1≤s.size) && decide (s.size≤12)):=by
    have h1:=HT.out
    rw [List.take_of_length_le (by rw [HZ.out];omega)] at h1
    unfold keyB
    rw [h1,HZ.out,Bool.true_and]
   have HR:=hid hR
   clear hR HT
   by_cases h1 : 1≤s.size
   ·by_cases h2 : s.size≤12
    ·have d1 : decide ((1 : Int)≤(s.size : Int)) = true:=by simp;omega
     have d2 : decide ((s.size : Int)≤12) = true:=by simp;omega
     go_wp2
     go_ret
     exact ⟨by rw [HR.out,decide_eq_true h1,decide_eq_true h2];rfl,rfl⟩
    ·have d1 : decide ((1 : Int)≤(s.size : Int)) = true:=by simp;omega
     have d2 : decide ((s.size : Int)≤12) = false:=by simp;omega
     go_wp2
     go_ret
     exact ⟨by rw [HR.out,decide_eq_true h1,decide_eq_false h2];rfl,rfl⟩
   ·have d1 : decide ((1 : Int)≤(s.size : Int)) = false:=by simp;omega
    go_wp2
    go_ret
    exact ⟨by rw [HR.out,decide_eq_false h1];rfl,rfl⟩
theorem keyByte_any (c : Nat) (w : World) (hc : c < 256) : Calls Tryz.prog 90 #[.int .u8 c] w fun e w'=>e = .returned (.bool (keyC c))∧w = w':=by
 unfold keyC
 by_cases h1 : 97≤c
 ·have q1 : decide ((97 : Int)≤(c : Int)) = true:=by simp;omega
  by_cases h2 : c≤122
  ·have q2 : decide ((c : Int)≤122) = true:=by simp;omega
   rw [decide_eq_true h1,decide_eq_true h2]
   go_enter Tryz.func90,Tryz.ntmps90
   go_wp2
   go_ret
   exact ⟨rfl,rfl⟩
  ·have q2 : decide ((c : Int)≤122) = false:=by simp;omega
   have q3 : decide ((48 : Int)≤(c : Int)) = true:=by simp;omega
   have q4 : decide ((c : Int)≤57) = false:=by simp;omega
   rw [decide_eq_true h1,decide_eq_false h2,decide_eq_true (show 48≤c by omega),decide_eq_false (show ¬ c≤57 by omega)]
   go_enter Tryz.func90,Tryz.ntmps90
   go_wp2
   go_ret
   exact ⟨rfl,rfl⟩
 ·have q1 : decide ((97 : Int)≤(c : Int)) = false:=by simp;omega
  rw [decide_eq_false h1,Bool.false_and,Bool.false_or]
  by_cases h3 : 48≤c
  ·have q3 : decide ((48 : Int)≤(c : Int)) = true:=by simp;omega
   rw [decide_eq_true h3,Bool.true_and]
   by_cases h4 : c≤57
   ·have q4 : decide ((c : Int)≤57) = true:=by simp;omega
    rw [decide_eq_true h4]
    go_enter Tryz.func90,Tryz.ntmps90
    go_wp2
    go_ret
    exact ⟨rfl,rfl⟩
   ·have q4 : decide ((c : Int)≤57) = false:=by simp;omega
    rw [decide_eq_false h4]
    go_enter Tryz.func90,Tryz.ntmps90
    go_wp2
    go_ret
    exact ⟨rfl,rfl⟩
  ·have q3 : decide ((48 : Int)≤(c : Int)) = false:=by simp;omega
   rw [decide_eq_false h3,Bool.false_and]
   go_enter Tryz.func90,Tryz.ntmps90
   go_wp2
   go_ret
   exact ⟨rfl,rfl⟩
theorem key_same (s : ByteArray) (w : World) (hs : s.size≤maxLen) :
  Calls Tryz.prog 61 #[.string s] w fun e w'=>e = .returned (.bool (keyB s.data.toList))∧w = w':=by
 unfold maxLen at hs
 have hz : s.data.toList.length = s.size:=by rw [Array.length_toList];rfl
 by_cases h1 : s.size < 1
 ·have q1 : decide ((s.size : Int) < 1) = true:=by simp;omega
  rw [keyB_len _ (by omega)]
  clear hz
  go_enter Tryz.func61,Tryz.ntmps61
  go_wp2
  go_ret
  exact ⟨rfl,rfl⟩
 ·have q1 : decide ((s.size : Int) < 1) = false:=by simp;omega
  by_cases h12 : 12 < s.size
  ·have q2 : decide ((12 : Int) < (s.size : Int)) = true:=by simp;omega
   rw [keyB_len _ (by omega)]
   clear hz
   go_enter Tryz.func61,Tryz.ntmps61
   go_wp2
   go_ret
   exact ⟨rfl,rfl⟩
  ·have q2 : decide ((12 : Int) < (s.size : Int)) = false:=by simp;omega
   have HZ:=hid hz
   clear hz
   go_enter Tryz.func61,Tryz.ntmps61
   go_wp2
   go_loop [14] (fun i => ∃ k : Nat,k≤s.size∧i = .int .i64 k∧(s.data.toList.take k).all (fun c=>keyC c.toNat) = true) (fun i=>s.size - (intOf i).toNat)
   case atStart=>exact ⟨0,Nat.zero_le _,rfl,rfl⟩
   case round =>
    obtain ⟨k,hk,rfl,ht⟩:=hrel
    have HT:=hid ht
    clear ht
    by_cases hlt : k < s.size
    ·have hl : k < s.data.toList.length:=by rw [HZ.out];exact hlt
     have hbad:=fun h=>hid (keyB_bad s.data.toList k hl h)
     have hgood:=fun h=>hid (keys_take s.data.toList k hl HT.out h)
     have hv : s.data.toList[k].toNat = (s[k]'hlt).toNat:=rfl
     rw [hv] at hbad hgood
     clear hv
     have hv256 : (s[k]'hlt).toNat < 256:=UInt8.toNat_lt _
     obtain ⟨v,hv⟩ : ∃ v,(s[k]'hlt).toNat = v:=⟨_,rfl⟩
     rw [hv] at hbad hgood hv256
     have cK:=fun W=>keyByte_any v W hv256
     cases hk : keyC v
     ·rw [hk] at cK
      have R:=hbad hk
      clear hbad hgood hk
      go_wp2_with (go_at_call 90;((with_reducible refine (cK _).mono ?_);rintro e w' ⟨rfl,rfl⟩))
      go_ret
      exact ⟨by rw [R.out];rfl,rfl⟩
     ·rw [hk] at cK
      have R:=hgood hk
      clear hbad hgood hk
      go_wp2_with (go_at_call 90;((with_reducible refine (cK _).mono ?_);rintro e w' ⟨rfl,rfl⟩))
      go_round
      case rel=>exact ⟨k + 1,by omega,by go_num,R.out⟩
      case measure=>simp [intOf];omega
    ·obtain rfl : k = s.size:=by omega
     have R : Hid (keyB s.data.toList = true):=by
      show keyB _ = true
      have h:=HT.out
      rw [List.take_of_length_le (by rw [HZ.out];exact Nat.le_refl _)] at h
      unfold keyB
      rw [h,HZ.out]
      simp;omega
     go_wp2
     go_ret
     exact ⟨by rw [R.out];rfl,rfl⟩
theorem key_any (s : ByteArray) (w : World) (hs : s.size≤maxLen) :
  Calls Tryz.prog 61 #[.string s] w fun e w'=>e = .returned (.bool (keyB s.data.toList))∧Below w.heap.size w w' :=
 (key_same s w hs).mono fun _ _ h=>⟨h.1,h.2 ▸ Below.refl _ _⟩
end Go.Proofs.YtigimmbdlhginaaGreatDoor
