/- Words for rows of the call's own and for lists of lists of bytes in memory; append onto such rows; the document's comparison. No condition. Keys: what they are, and the contracts of value.Key and of the document's own Key. Conditions: none but the text's length. Plain mathematics of layer config: when a configuration is formed, and what is answered of it. -/
import Derived.Test.YtcfmifongbapkaaGreatDoorRA
import Derived.Test.YtcfmifongbapkaaGreatDoorRB
import Derived.Deep.AppendLies
import Derived.Deep.QuietTactic
import Derived.BigQuiet
import Derived.Lib.OthersKept
namespace Go.Proofs.YtcfmifongbapkaaGreatDoor
set_option maxHeartbeats 1000000
open Go.RowKit
open Go.Lib (hid)
set_option linter.unusedVariables false
theorem quiet_same {P : Program} {f : FuncId} {args : Array Value} {w : World} {n : Nat} {v : Value}
  (h : Calls P f args (w.drewN n) fun e w'=>e = .returned v∧w.drewN n = w') : Calls P f args (w.drewN n) fun e w''=>e = .returned v∧∃ m,w'' = w.drewN m :=
 h.mono fun _ _ ⟨he,hm⟩=>⟨he,n,hm.symm⟩
theorem BAt.addr {w : World} {B n : Nat} {a : Option Addr} {l : List UInt8} (h : BAt w B a n l) (hn : 0 < n) : ∃ b off,a = some ⟨b,off,none⟩∧b < B:=by
 rcases h with ⟨_,h | ⟨b,off,ha,hb,_⟩⟩
 ·omega
 ·exact ⟨b,off,ha,hb⟩
/-- True is answered, and nothing that was there has turned. -/
def Says (w : World) (b : Bool) (e : Ending) (w' : World) : Prop:=e = .returned (.bool b)∧Below w.heap.size w w'
theorem own_caps {w : World} {B e n m c : Nat} {a : Option Addr} {xs : List Value} (h : w.ownsRow B e 1 (.slice a n c) m xs) : n≤c∧c≤maxLen:=by
 obtain ⟨_,_,e1,hnc,hcm,_⟩:=own_form h
 injection e1 with _ e2 e3
 subst e2;subst e3
 exact ⟨hnc,hcm⟩
theorem own_lt {w : World} {B e n : Nat} {v : Value} {xs : List Value} (h : w.ownsRow B e 1 v n xs) : ∀ g,v.ownBlock = some g→g < w.heap.size:=by
 intro g hg
 obtain ⟨a,c,rfl,_,_,h1⟩:=own_form h
 cases a with
 | none=>cases hg
 | some ad=>injection hg with hg;subst hg;exact (h1 ad rfl).2
theorem Tryz.info34 : (Tryz.prog.info? 34).map (fun i=>(i.zero,i.size,i.bytes)) = some (some (.slice none 0 0),1,24):=by kernel_rfl
theorem BAt.moved {w w' : World} {B B' n : Nat} {a : Option Addr} {l : List UInt8} (h : BAt w B a n l) (hB : B≤B') (hk : ∀ b off,a = some ⟨b,off,none⟩→0 < n→b < B→w'.heap[b]? = w.heap[b]?) : BAt w' B' a n l:=by
 rcases h with ⟨hn,h | ⟨b,off,ha,hb,hc⟩⟩
 ·exact ⟨hn,.inl h⟩
 ·rcases Nat.eq_zero_or_pos n with h0 | h0
  ·exact ⟨hn,.inl h0⟩
  ·exact ⟨hn,.inr ⟨b,off,ha,by omega,fun i hi=>(World.cell?_of_block (hk b off ha h0 hb)).trans (hc i hi)⟩⟩
/-- Slices xs that read as the lists ls, each in a block of S, none in block g. -/
def Els (w : World) (S : Nat→Prop) (g : Option Nat) (xs : List Value) (ls : List (List UInt8)) : Prop :=
 xs.length = ls.length∧∀ i (h : i < ls.length), ∃ a m c,xs[i]? = some (.slice a m c)∧BAt w w.heap.size a m ls[i]∧(∀ b off,a = some ⟨b,off,none⟩→0 < m→S b∧some b≠g)
section
variable {w w' : World} {S : Nat→Prop} {g g' : Option Nat} {xs ys : List Value} {ls ms : List (List UInt8)}
theorem Els.nil : Els w S g [] []:=⟨rfl,fun i h=>by simp at h⟩
theorem Els.below (h : Els w S g xs ls) (hb : Below w.heap.size w w') : Els w' S g xs ls:=by
 refine ⟨h.1,fun i hi=>?_⟩
 obtain ⟨a,m,c,h1,h2,h3⟩:=h.2 i hi
 exact ⟨a,m,c,h1,(h2.below hb (Nat.le_refl _)).more hb.size,h3⟩
theorem Els.grown_to {k : Nat} (h : Els w S g xs ls) (hg : w.grownBy w' g) (hk : g = some k∨w.heap.size≤k) : Els w' S (some k) xs ls:=by
 refine ⟨h.1,fun i hi=>?_⟩
 obtain ⟨a,m,c,h1,h2,h3⟩:=h.2 i hi
 refine ⟨a,m,c,h1,h2.moved hg.size fun b off ha hm hb=>hg.block b hb (fun e=>(h3 b off ha hm).2 e),fun b off ha hm=>⟨(h3 b off ha hm).1,?_⟩⟩
 obtain ⟨b',off',e,hlt⟩:=h2.addr hm
 rw [ha] at e;injection e with e;injection e with e;subst e
 rcases hk with rfl | hk
 ·exact (h3 b off ha hm).2
 ·intro e2;injection e2 with e2;omega
theorem Els.app (h : Els w S g xs ls) (h' : Els w S g ys ms) : Els w S g (xs ++ ys) (ls ++ ms):=by
 refine ⟨by simp [h.1,h'.1],fun i hi=>?_⟩
 by_cases e : i < ls.length
 ·obtain ⟨a,m,c,h1,h2,h3⟩:=h.2 i e
  refine ⟨a,m,c,?_,?_,h3⟩
  ·rw [List.getElem?_append_left (by rw [h.1];exact e)];exact h1
  ·rw [List.getElem_append_left e];exact h2
 ·have hi' : i - ls.length < ms.length:=by simp at hi;omega
  obtain ⟨a,m,c,h1,h2,h3⟩:=h'.2 _ hi'
  refine ⟨a,m,c,?_,?_,h3⟩
  ·rw [List.getElem?_append_right (by rw [h.1];omega),h.1];exact h1
  ·rw [List.getElem_append_right (by omega)];exact h2
theorem Els.one {a : Option Addr} {m c : Nat} {l : List UInt8} (h : BAt w w.heap.size a m l) (h3 : ∀ b off,a = some ⟨b,off,none⟩→0 < m→S b∧some b≠g) : Els w S g [.slice a m c] [l]:=by
 refine ⟨rfl,fun i hi=>?_⟩
 have h0 : i = 0:=by simp at hi;exact hi
 subst h0
 exact ⟨a,m,c,rfl,h,h3⟩
end
/-- A row of the call's own that reads as the lists ls; what it names lies in blocks of S. -/
def OwnRows (w0 w : World) (S : Nat→Prop) (v : Value) (n : Nat) (ls : List (List UInt8)) : Prop :=
 Below w0.heap.size w0 w∧∃ xs,w.ownsRow w0.heap.size 34 1 v n xs∧Els w S v.ownBlock xs ls
section
variable {w0 w w' : World} {S : Nat→Prop} {v : Value} {n : Nat} {ls : List (List UInt8)}
end
/-- A slice of slices that reads as the lists ls. -/
def RowsAt (w : World) (a : Option Addr) (n : Nat) (ls : List (List UInt8)) : Prop :=
 ls.length = n∧∀ i (h : i < ls.length), ∃ b off a' m c,a = some ⟨b,off,none⟩∧w.cell? ⟨b,off + i,none⟩ = some (.slice a' m c)∧BAt w w.heap.size a' m ls[i]∧m≤maxLen
section
variable {w0 w : World} {S : Nat→Prop} {a : Option Addr} {n c : Nat} {ls : List (List UInt8)}
end
/-- A slice of m one-cell elements that holds the values news. -/
def CellsAt (w : World) (a : Option Addr) (m : Nat) (news : List Value) : Prop :=
 news.length = m∧(m = 0∨∃ b off,a = some ⟨b,off,none⟩∧∀ j u,news[j]? = some u→w.cell? ⟨b,off + j,none⟩ = some u)
section
variable {P : Program} (w : World)
theorem run_append_row (base : Nat) (t ty e : TypeId) (i : TypeInfo) (z : Value) (bytes : Nat) (ht : P.underlying t = some (.slice e)) (hi : P.info? e = some i) (hz : i.zero = some z)
  (hsize : i.size = 1) (hby : i.bytes = bytes) (hzs : z.cells.size = 1) (v : Value) (n : Nat) (xs : List Value) (hown : w.ownsRow base e 1 v n xs)
  (a : Option Addr) (m c : Nat) (news : List Value) (hr : CellsAt w a m news) (h1 : ∀ u ∈ news,u.oneCell' = true)
  (h63 : n + m≤maxLen) (hlen : (n + m) * bytes≤140737488355328) (hbase : base≤w.heap.size) :
  ∃ v' w',(Builtin.append_ #[t,t] ty #[v,.slice a m c]).run P w = .ok v' w'∧w'.ownsRow base e 1 v' (n + m) (xs ++ news)∧w.grownBy w' v.ownBlock∧(v'.ownBlock = v.ownBlock∨v'.ownBlock = some w.heap.size):=by
 have hm:=hr.1
 rcases a with _ | ad
 ·have hm0 : m = 0:=by
   rcases hr with ⟨_,h | ⟨b,off,h,_⟩⟩
   ·exact h
   ·cases h
  subst hm0
  obtain rfl : news = []:=List.eq_nil_of_length_eq_zero hm
  refine ⟨v,w,?_,by simpa using hown,World.grownBy.refl w _,.inl rfl⟩
  rcases hown.2 with ⟨rfl,h0⟩ | ⟨g,cap,cur,rfl,_,_,hnc,_⟩
  ·simp [Builtin.append_,run_underlying ht,sizeOf,typeInfo,hi,Builtin.lenOf,Builtin.firstCells]
  ·simp [Builtin.append_,run_underlying ht,sizeOf,typeInfo,hi,Builtin.lenOf,Builtin.firstCells,hnc,storeCells]
 ·have hcells : ∀ j u,news[j]? = some u→w.cell? (ad.add j) = some u:=by
   intro j u hu
   rcases hr with ⟨_,h | ⟨b,off,h,hc⟩⟩
   ·rw [h] at hm
    rw [List.eq_nil_of_length_eq_zero hm] at hu;simp at hu
   ·injection h with h;subst h
    rw [add_plain];exact hc j u hu
  obtain ⟨v',w',hrun,h2,h3,_,h5⟩:=run_append_own_at (P:=P) w base t ty e i z 1 bytes ht hi hz hsize hby hzs (by decide) v n xs hown ad m c news (by omega) hcells h1 h63 hlen hbase
  exact ⟨v',w',hrun,h2,h3,h5⟩
theorem wpList_append_row {ops : Array Oper} {rest : List Oper} {o : Oper} {act : Act} {Q : Exit→Act→World→Prop} (hgd : o.guard = none) (s x : Operand) (t : TypeId)
  (ho : o.op = .call { callee:=.builtin .append,args:=#[s,x],argTypes:=#[t,t] })
  (base : Nat) (e : TypeId) (i : TypeInfo) (z : Value) (bytes : Nat) (ht : P.underlying t = some (.slice e)) (hi : P.info? e = some i) (hz : i.zero = some z)
  (hsize : i.size = 1) (hby : i.bytes = bytes) (hzs : z.cells.size = 1) (v : Value) (n : Nat) (xs : List Value) (hs : act.eval s = v) (hown : w.ownsRow base e 1 v n xs)
  (a : Option Addr) (m c : Nat) (news : List Value) (hx : act.eval x = .slice a m c) (hr : CellsAt w a m news) (h1 : ∀ u ∈ news,u.oneCell' = true)
  (h63 : n + m≤maxLen) (hlen : (n + m) * bytes≤140737488355328) (hbase : base≤w.heap.size)
  (h : ∀ v' w',w'.ownsRow base e 1 v' (n + m) (xs ++ news)→w.grownBy w' v.ownBlock→(v'.ownBlock = v.ownBlock∨v'.ownBlock = some w.heap.size)→wpList P ops Q rest (act.put o.dst v') w') : wpList P ops Q (o :: rest) act w:=by
 refine wpList_plain hgd fun K hK=>?_
 obtain ⟨v',w',hrun,h2,h3,h4⟩:=run_append_row (P:=P) w base t o.type e i z bytes ht hi hz hsize hby hzs v n xs hown a m c news hr h1 h63 hlen hbase
 unfold Oper.wp execOp
 simp only [ho,resolve,invoke,builtin,Sem.run_bind,Sem.run_pure,Result.andThen_ok,List.map_toArray,List.map_cons,List.map_nil,hs,hx,hrun]
 exact hK _ _ (h v' w' h2 h3 h4)
end
theorem CellsAt.one (w : World) (u : Value) (t : TypeId) : CellsAt (w.alloc (.cells #[u] t)) (some ⟨w.heap.size,0,none⟩) 1 [u]:=by
 refine ⟨rfl,.inr ⟨w.heap.size,0,rfl,fun j x hx=>?_⟩⟩
 have h:=World.news_of_block (heap_alloc_new w (.cells #[u] t)) j x hx
 rwa [add_plain] at h
/-- A key's byte; a key. -/
def keyC (c : Nat) : Bool:=(decide (97≤c) && decide (c≤122)) || (decide (48≤c) && decide (c≤57))
def keyB (l : List UInt8) : Bool:=l.all (fun c=>keyC c.toNat) && (decide (1≤l.length) && decide (l.length≤12))
theorem keyB_bad (l : List UInt8) (k : Nat) (h : k < l.length) (hc : keyC l[k].toNat = false) : keyB l = false:=by
 unfold keyB
 rw [Bool.and_eq_false_iff]
 left
 rw [List.all_eq_false]
 exact ⟨l[k],List.getElem_mem h,by rw [hc];simp⟩
theorem keys_take (l : List UInt8) (k : Nat) (h : k < l.length) (ht : (l.take k).all (fun c=>keyC c.toNat) = true) (hc : keyC l[k].toNat = true) : (l.take (k + 1)).all (fun c=>keyC c.toNat) = true:=by
 rw [List.take_succ_eq_append_getElem h,List.all_append,ht];simp [hc]
theorem keyB_len (l : List UInt8) (h : l.length < 1∨12 < l.length) : keyB l = false:=by
 unfold keyB
 rw [Bool.and_eq_false_iff]
 right
 rw [Bool.and_eq_false_iff,decide_eq_false_iff_not,decide_eq_false_iff_not]
 omega
theorem refKey_any (s : ByteArray) (w : World) (hs : s.size≤maxLen) :
  Calls Tryz.prog 122 #[.string s] w fun e w'=>e = .returned (.bool (keyB s.data.toList))∧w = w':=by
 unfold maxLen at hs
 have hz : s.data.toList.length = s.size:=by rw [Array.length_toList];rfl
 have HZ:=hid hz
 clear hz
 go_enter Tryz.func122,Tryz.ntmps122
 go_wp2
 go_loop [3] (fun i => ∃ k : Nat,k≤s.size∧i = .int .i64 k∧(s.data.toList.take k).all (fun c=>keyC c.toNat) = true) (fun i=>s.size - (intOf i).toNat)
 case atStart=>exact ⟨0,Nat.zero_le _,rfl,rfl⟩
 case round =>
  obtain ⟨k,hk,rfl,ht⟩:=hrel
  have HT:=hid ht
  clear ht
  by_cases hlt : k < s.size
  ·have hl : k < s.data.toList.length:=by rw [HZ.out];exact hlt
   have hbad:=fun h=>hid (keyB_bad s.data.toList k hl h)
   have hgood:=fun h=>hid (keys_take s.data.toList k hl HT.out h)
   have hv : s.data.toList[k].toNat = (s[k]'hlt).toNat:=rfl
   rw [hv] at hbad hgood
   clear hv
   obtain ⟨v,hv⟩ : ∃ v,(s[k]'hlt).toNat = v:=⟨_,rfl⟩
   rw [hv] at hbad hgood
   by_cases h1 : v < 97
   ·by_cases h2 : v < 48
    ·have R:=hbad (by simp [keyC];omega)
     clear hbad hgood
     go_wp2
     go_ret
     exact ⟨by rw [R.out];rfl,rfl⟩
    ·by_cases h3 : 57 < v
     ·have R:=hbad (by simp [keyC];omega)
      clear hbad hgood
      go_wp2
      go_ret
      exact ⟨by rw [R.out];rfl,rfl⟩
     ·have R:=hgood (by simp [keyC];omega)
      clear hbad hgood
      go_wp2
      go_round
      case rel=>exact ⟨k + 1,by omega,by go_num,R.out⟩
      case measure=>simp [intOf];omega
   ·by_cases h2 : 122 < v
    ·have R:=hbad (by simp [keyC];omega)
     clear hbad hgood
     go_wp2
     go_ret
     exact ⟨by rw [R.out];rfl,rfl⟩
    ·have R:=hgood (by simp [keyC];omega)
     clear hbad hgood
     go_wp2
     go_round
     case rel=>exact ⟨k + 1,by omega,by go_num,R.out⟩
     case measure=>simp [intOf];omega
  ·have hR : keyB s.data.toList = (decide (1≤s.size) && decide (s.size≤12)):=by
    have h1:=HT.out
    rw [List.take_of_length_le (by rw [HZ.out];omega)] at h1
    unfold keyB
    rw [h1,HZ.out,Bool.true_and]
   have HR:=hid hR
   clear hR HT
   by_cases h1 : 1≤s.size
   ·by_cases h2 : s.size≤12
    ·have d1 : decide ((1 : Int)≤(s.size : Int)) = true:=by simp;omega
     have d2 : decide ((s.size : Int)≤12) = true:=by simp;omega
     go_wp2
     go_ret
     exact ⟨by rw [HR.out,decide_eq_true h1,decide_eq_true h2];rfl,rfl⟩
    ·have d1 : decide ((1 : Int)≤(s.size : Int)) = true:=by simp;omega
     have d2 : decide ((s.size : Int)≤12) = false:=by simp;omega
     go_wp2
     go_ret
     exact ⟨by rw [HR.out,decide_eq_true h1,decide_eq_false h2];rfl,rfl⟩
   ·have d1 : decide ((1 : Int)≤(s.size : Int)) = false:=by simp;omega
    go_wp2
    go_ret
    exact ⟨by rw [HR.out,decide_eq_false h1];rfl,rfl⟩
theorem keyByte_any (c : Nat) (w : World) (hc : c < 256) : Calls Tryz.prog 145 #[.int .u8 c] w fun e w'=>e = .returned (.bool (keyC c))∧w = w':=by
 unfold keyC
 by_cases h1 : 97≤c
 ·have q1 : decide ((97 : Int)≤(c : Int)) = true:=by simp;omega
  by_cases h2 : c≤122
  ·have q2 : decide ((c : Int)≤122) = true:=by simp;omega
   rw [decide_eq_true h1,decide_eq_true h2]
   go_enter Tryz.func145,Tryz.ntmps145
   go_wp2
   go_ret
   exact ⟨rfl,rfl⟩
  ·have q2 : decide ((c : Int)≤122) = false:=by simp;omega
   have q3 : decide ((48 : Int)≤(c : Int)) = true:=by simp;omega
   have q4 : decide ((c : Int)≤57) = false:=by simp;omega
   rw [decide_eq_true h1,decide_eq_false h2,decide_eq_true (show 48≤c by omega),decide_eq_false (show ¬ c≤57 by omega)]
   go_enter Tryz.func145,Tryz.ntmps145
   go_wp2
   go_ret
   exact ⟨rfl,rfl⟩
 ·have q1 : decide ((97 : Int)≤(c : Int)) = false:=by simp;omega
  rw [decide_eq_false h1,Bool.false_and,Bool.false_or]
  by_cases h3 : 48≤c
  ·have q3 : decide ((48 : Int)≤(c : Int)) = true:=by simp;omega
   rw [decide_eq_true h3,Bool.true_and]
   by_cases h4 : c≤57
   ·have q4 : decide ((c : Int)≤57) = true:=by simp;omega
    rw [decide_eq_true h4]
    go_enter Tryz.func145,Tryz.ntmps145
    go_wp2
    go_ret
    exact ⟨rfl,rfl⟩
   ·have q4 : decide ((c : Int)≤57) = false:=by simp;omega
    rw [decide_eq_false h4]
    go_enter Tryz.func145,Tryz.ntmps145
    go_wp2
    go_ret
    exact ⟨rfl,rfl⟩
  ·have q3 : decide ((48 : Int)≤(c : Int)) = false:=by simp;omega
   rw [decide_eq_false h3,Bool.false_and]
   go_enter Tryz.func145,Tryz.ntmps145
   go_wp2
   go_ret
   exact ⟨rfl,rfl⟩
theorem key_same (s : ByteArray) (w : World) (hs : s.size≤maxLen) :
  Calls Tryz.prog 134 #[.string s] w fun e w'=>e = .returned (.bool (keyB s.data.toList))∧w = w':=by
 unfold maxLen at hs
 have hz : s.data.toList.length = s.size:=by rw [Array.length_toList];rfl
 by_cases h1 : s.size < 1
 ·have q1 : decide ((s.size : Int) < 1) = true:=by simp;omega
  rw [keyB_len _ (by omega)]
  clear hz
  go_enter Tryz.func134,Tryz.ntmps134
  go_wp2
  go_ret
  exact ⟨rfl,rfl⟩
 ·have q1 : decide ((s.size : Int) < 1) = false:=by simp;omega
  by_cases h12 : 12 < s.size
  ·have q2 : decide ((12 : Int) < (s.size : Int)) = true:=by simp;omega
   rw [keyB_len _ (by omega)]
   clear hz
   go_enter Tryz.func134,Tryz.ntmps134
   go_wp2
   go_ret
   exact ⟨rfl,rfl⟩
  ·have q2 : decide ((12 : Int) < (s.size : Int)) = false:=by simp;omega
   have HZ:=hid hz
   clear hz
   go_enter Tryz.func134,Tryz.ntmps134
   go_wp2
   go_loop [14] (fun i => ∃ k : Nat,k≤s.size∧i = .int .i64 k∧(s.data.toList.take k).all (fun c=>keyC c.toNat) = true) (fun i=>s.size - (intOf i).toNat)
   case atStart=>exact ⟨0,Nat.zero_le _,rfl,rfl⟩
   case round =>
    obtain ⟨k,hk,rfl,ht⟩:=hrel
    have HT:=hid ht
    clear ht
    by_cases hlt : k < s.size
    ·have hl : k < s.data.toList.length:=by rw [HZ.out];exact hlt
     have hbad:=fun h=>hid (keyB_bad s.data.toList k hl h)
     have hgood:=fun h=>hid (keys_take s.data.toList k hl HT.out h)
     have hv : s.data.toList[k].toNat = (s[k]'hlt).toNat:=rfl
     rw [hv] at hbad hgood
     clear hv
     have hv256 : (s[k]'hlt).toNat < 256:=UInt8.toNat_lt _
     obtain ⟨v,hv⟩ : ∃ v,(s[k]'hlt).toNat = v:=⟨_,rfl⟩
     rw [hv] at hbad hgood hv256
     have cK:=fun W=>keyByte_any v W hv256
     cases hk : keyC v
     ·rw [hk] at cK
      have R:=hbad hk
      clear hbad hgood hk
      go_wp2_with (go_at_call 145;((with_reducible refine (cK _).mono ?_);rintro e w' ⟨rfl,rfl⟩))
      go_ret
      exact ⟨by rw [R.out];rfl,rfl⟩
     ·rw [hk] at cK
      have R:=hgood hk
      clear hbad hgood hk
      go_wp2_with (go_at_call 145;((with_reducible refine (cK _).mono ?_);rintro e w' ⟨rfl,rfl⟩))
      go_round
      case rel=>exact ⟨k + 1,by omega,by go_num,R.out⟩
      case measure=>simp [intOf];omega
    ·obtain rfl : k = s.size:=by omega
     have R : Hid (keyB s.data.toList = true):=by
      show keyB _ = true
      have h:=HT.out
      rw [List.take_of_length_le (by rw [HZ.out];exact Nat.le_refl _)] at h
      unfold keyB
      rw [h,HZ.out]
      simp;omega
     go_wp2
     go_ret
     exact ⟨by rw [R.out];rfl,rfl⟩
/-- The texts' bytes. -/
def txt (Bs : List ByteArray) : List (List UInt8):=Bs.map fun s=>s.data.toList
theorem txt_len (Bs : List ByteArray) : (txt Bs).length = Bs.length:=by simp [txt]
theorem txt_get (Bs : List ByteArray) (i : Nat) (h : i < Bs.length) : (txt Bs)[i]'(by rw [txt_len];exact h) = Bs[i].data.toList:=by simp [txt]
/-- A group's size. -/
def sizeB (z : Int) : Bool:=z == 1 || (z == 3 || z == 5)
theorem all_bad {α : Type} (p : α→Bool) (l : List α) (k : Nat) (h : k < l.length) (hp : p l[k] = false) : l.all p = false :=
 List.all_eq_false.2 ⟨l[k],List.getElem_mem h,by rw [hp];simp⟩
theorem all_next {α : Type} (p : α→Bool) (l : List α) (k : Nat) (h : k < l.length) (ht : (l.take k).all p = true) (hp : p l[k] = true) : (l.take (k + 1)).all p = true:=by
 rw [List.take_succ_eq_append_getElem h,List.all_append,ht];simp [hp]
theorem all_done {α : Type} (p : α→Bool) (l : List α) (k : Nat) (h : l.length≤k) (ht : (l.take k).all p = true) : l.all p = true:=by
 rwa [List.take_of_length_le h] at ht
/-- Each bound is above the one ahead of it. -/
def adjB (L : List (List UInt8)) : Bool:=(List.range (L.length - 1)).all fun i => !leB (L[i + 1]?.getD []) (L[i]?.getD [])
theorem adj_bad (L : List (List UInt8)) (k : Nat) (h : k + 1 < L.length) (hp : leB L[k + 1] L[k] = true) : adjB L = false:=by
 unfold adjB
 rw [List.all_eq_false]
 refine ⟨k,by simp;omega,?_⟩
 rw [List.getElem?_eq_getElem h,List.getElem?_eq_getElem (by omega)]
 simp [hp]
theorem adj_all (L : List (List UInt8)) (h : ∀ k (hk : k + 1 < L.length),leB L[k + 1] L[k] = false) : adjB L = true:=by
 unfold adjB
 rw [List.all_eq_true]
 intro i hi
 have hi' : i + 1 < L.length:=by simp at hi;omega
 rw [List.getElem?_eq_getElem hi',List.getElem?_eq_getElem (by omega)]
 simp [h i hi']
/-- A configuration is formed. -/
def formedC (R : List Int) (L : List (List UInt8)) : Bool :=
 (decide (1≤R.length) && (decide (R.length≤4) && decide (L.length + 1 = R.length))) && (R.all sizeB && (L.all keyB && adjB L))
structure FormedP (R : List Int) (L : List (List UInt8)) : Prop where
 lo : 1≤R.length
 hi : R.length≤4
 len : L.length + 1 = R.length
 sizes : R.all sizeB = true
 keys : L.all keyB = true
 adj : adjB L = true
/-- What is answered: a key's group, the groups of keys. -/
def homeI (R : List Int) (L : List (List UInt8)) (k : List UInt8) : Int:=if formedC R L then (homeC L k : Nat) else -1
def groupsI (R : List Int) (L : List (List UInt8)) (ks : List (List UInt8)) : List Nat:=if formedC R L then groupsC R.length (ks.map (homeC L)) else []
/-- The replicas as numbers; how many there are, a replica's place, the replica of a place. -/
def natR (R : List Int) : List Nat:=R.map Int.toNat
def totalI (R : List Int) (L : List (List UInt8)) : Nat:=if formedC R L then (natR R).sum else 0
def optI : Option Nat→Int
 | some p=>p
 | none => -1
def pairI : Option (Nat×Nat)→Int×Int
 | some x=>(x.1,x.2)
 | none=>(-1,-1)
def placeI (R : List Int) (L : List (List UInt8)) (g k : Int) : Int:=if formedC R L = true∧0≤g∧0≤k then optI (placeL (natR R) g.toNat k.toNat) else -1
def atI (R : List Int) (L : List (List UInt8)) (p : Int) : Int×Int:=if formedC R L = true∧0≤p then pairI (atL (natR R) p.toNat) else (-1,-1)
end Go.Proofs.YtcfmifongbapkaaGreatDoor
