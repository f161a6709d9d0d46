/- Words for lists of bytes in memory: a slice that reads as a list of bytes, a row of the call's own, and append onto it. No condition. Plain mathematics of layer code: a number's bytes, and the number in bytes. Contracts of code.Put and code.PutText: the bytes that they put, as new memory. Conditions: what they are handed lies in memory and is not longer than 2^40. Contracts of code.New and of a code.Reader's methods OK, Left, End, fail, next. Conditions: the reader lies in memory as New lays it. -/
import Derived.Below
import Derived.Laws.OwnMore
import Derived.Maps.AppendAt
import Derived.Deep.AppendLies
import Derived.Deep.Draws
import Derived.RegionTactic
import Derived.OwnWalk
import Derived.Lib.AppendStr
import Derived.Lib.Hide
import Derived.Laws.BytesArg
import Derived.Tactics
import Derived.Test.YtcfmifongbapkaaGreatDoorChecked
import Derived.WalkKit
import Derived.Tactics2
import Derived.Deep.DeepCutAuto
import Derived.Laws.MakeOwn
import Derived.Laws.BitsAllLaws
import Derived.Lib.SliceRun
namespace Go.Proofs.YtcfmifongbapkaaGreatDoor
set_option maxHeartbeats 1000000
open Go.RowKit
theorem add_plain (b o k : Nat) : (⟨b,o,none⟩ : Addr).add k = ⟨b,o + k,none⟩:=by
 by_cases h : k = 0 <;> simp [Addr.add,h]
/-- The cells of a list of bytes. -/
def bcells (l : List UInt8) : List Value:=l.map fun c=>Value.int .u8 (c.toNat : Int)
theorem bcells_len (l : List UInt8) : (bcells l).length = l.length:=by simp [bcells]
theorem bcells_app (l m : List UInt8) : bcells (l ++ m) = bcells l ++ bcells m:=by simp [bcells]
theorem bcells_one (l : List UInt8) : ∀ u ∈ bcells l,u.oneCell' = true:=by
 intro u hu;simp only [bcells,List.mem_map] at hu;obtain ⟨c,_,rfl⟩:=hu;rfl
theorem bcells_get {l : List UInt8} {j : Nat} {u : Value} (h : (bcells l)[j]? = some u) : ∃ hj : j < l.length,u = .int .u8 (l[j].toNat : Int):=by
 have hj : j < l.length:=by
  rcases Nat.lt_or_ge j l.length with h1 | h1
  ·exact h1
  ·rw [List.getElem?_eq_none (by rw [bcells_len];exact h1)] at h;cases h
 refine ⟨hj,?_⟩
 simp [bcells,List.getElem?_eq_getElem hj] at h
 exact h.symm
/-- A slice of length n at address a reads as the bytes l, in a block below B. -/
def BAt (w : World) (B : Nat) (a : Option Addr) (n : Nat) (l : List UInt8) : Prop :=
 l.length = n∧(n = 0∨∃ b off,a = some ⟨b,off,none⟩∧b < B∧∀ i (h : i < l.length),w.cell? ⟨b,off + i,none⟩ = some (.int .u8 (l[i].toNat : Int)))
section
variable {w w' : World} {B B' n : Nat} {a : Option Addr} {l : List UInt8}
theorem BAt.len (h : BAt w B a n l) : l.length = n:=h.1
theorem BAt.nil : BAt w B a 0 []:=⟨rfl,.inl rfl⟩
theorem BAt.keep (h : BAt w B a n l) (hk : ∀ p : Addr,p.block < B→w'.cell? p = w.cell? p) : BAt w' B a n l:=by
 rcases h with ⟨hn,h | ⟨b,off,ha,hb,hc⟩⟩
 ·exact ⟨hn,.inl h⟩
 ·exact ⟨hn,.inr ⟨b,off,ha,hb,fun i hi=>(hk _ hb).trans (hc i hi)⟩⟩
theorem BAt.more (h : BAt w B a n l) (hB : B≤B') : BAt w B' a n l:=by
 rcases h with ⟨hn,h | ⟨b,off,ha,hb,hc⟩⟩
 ·exact ⟨hn,.inl h⟩
 ·exact ⟨hn,.inr ⟨b,off,ha,by omega,hc⟩⟩
theorem BAt.below {C : Nat} (h : BAt w B a n l) (hb : Below C w w') (hC : B≤C) : BAt w' B a n l:=h.keep fun _ hp=>hb.cell (by omega)
theorem BAt.drewN (h : BAt w B a n l) (k : Nat) : BAt (w.drewN k) B a n l:=h
theorem BAt.alloc (h : BAt w B a n l) (hB : B≤w.heap.size) (o : Obj) : BAt (w.alloc o) B a n l:=h.keep fun p hp=>World.cell?_alloc_lt w o p (by omega)
theorem BAt.grown {g : Nat} (h : BAt w B a n l) (hg : w.grownBy w' (some g)) (hB : B≤w.heap.size) (hr : B≤g) : BAt w' B a n l :=
 h.keep fun p hp=>World.cell?_of_block (hg.block p.block (by omega) (fun e=>by injection e;omega))
theorem BAt.at_ (h : BAt w B a n l) {i : Nat} (hi : i < l.length) : ∃ b off,a = some ⟨b,off,none⟩∧b < B∧w.cell? ⟨b,off + i,none⟩ = some (.int .u8 (l[i].toNat : Int)):=by
 rcases h with ⟨hn,h | ⟨b,off,ha,hb,hc⟩⟩
 ·omega
 ·exact ⟨b,off,ha,hb,hc i hi⟩
theorem BAt.take (h : BAt w B a n l) {k : Nat} (hk : k≤n) : BAt w B a k (l.take k):=by
 rcases h with ⟨hn,h | ⟨b,off,ha,hb,hc⟩⟩
 ·exact ⟨by simp;omega,.inl (by omega)⟩
 ·refine ⟨by simp;omega,.inr ⟨b,off,ha,hb,fun i hi=>?_⟩⟩
  have h1 : i < l.length:=by simp at hi;omega
  rw [hc i h1];simp
theorem BAt.drop (h : BAt w B a n l) {k cap : Nat} (hk : k≤n) (hc : n≤cap) : BAt w B (if cap = k then a else a.map (·.add k)) (n - k) (l.drop k):=by
 rcases h with ⟨hn,h | ⟨b,off,ha,hb,hcell⟩⟩
 ·exact ⟨by simp;omega,.inl (by omega)⟩
 ·by_cases e : cap = k
  ·exact ⟨by simp;omega,.inl (by omega)⟩
  ·rw [if_neg e]
   refine ⟨by simp;omega,.inr ⟨b,off + k,by rw [ha,Option.map_some,add_plain],hb,fun i hi=>?_⟩⟩
   have h1 : k + i < l.length:=by simp at hi;omega
   rw [Nat.add_assoc,hcell _ h1];simp
theorem BAt.of_own {base : Nat} {e : TypeId} {m c : Nat} (h : w.ownsRow base e 1 (.slice a m c) n (bcells l)) : BAt w w.heap.size a n l:=by
 have hln : l.length = n:=by have:=h.1;rw [bcells_len] at this;omega
 refine ⟨hln,?_⟩
 rcases Nat.eq_zero_or_pos n with h0 | hn
 ·exact .inl h0
 ·obtain ⟨g,cap,hv,_,hlt⟩:=h.form hn
  have hA : a = some ⟨g,0,none⟩:=by injection hv
  subst hA
  refine .inr ⟨g,0,rfl,hlt,fun i hi=>?_⟩
  have:=h.cells (g:=g) rfl i (.int .u8 (l[i].toNat : Int)) (by simp [bcells,List.getElem?_eq_getElem hi])
  rwa [add_plain] at this
/-- A block of one byte reads as that byte. -/
theorem BAt.one (w : World) (b : Int) (c : UInt8) (t : TypeId) (h : b = (c.toNat : Int)) : BAt (w.alloc (.cells #[.int .u8 b] t)) (w.heap.size + 1) (some ⟨w.heap.size,0,none⟩) 1 [c]:=by
 refine ⟨rfl,.inr ⟨w.heap.size,0,rfl,by omega,fun i hi=>?_⟩⟩
 have h0 : i = 0:=by simp at hi;exact hi
 subst h0;subst h
 rw [cell_of_row _ w.heap.size _ _ t (0,0) (heap_alloc_new w _)];rfl
theorem own_len {base : Nat} {e : TypeId} {v : Value} (h : w.ownsRow base e 1 v n (bcells l)) : l.length = n:=by have:=h.1;rw [bcells_len] at this;omega
end
/-- One call more: the world that it began in is w, drawn from. -/
theorem below_on (k : Nat) {a w w' : World} (h : Below a.heap.size a w) (hb : Below (w.drewN k).heap.size (w.drewN k) w') : Below a.heap.size a w' :=
 (⟨h.os,h.tape,h.output,h.size,h.block⟩ : Below a.heap.size a (w.drewN k)).trans (hb.mono h.size)
theorem below_drewN (k : Nat) {B : Nat} {a w : World} (h : Below B a w) : Below B a (w.drewN k):=⟨h.os,h.tape,h.output,h.size,h.block⟩
/-- A value that owns a row of bytes is a slice of that length. -/
theorem own_form {w : World} {base : Nat} {e : TypeId} {v : Value} {n : Nat} {xs : List Value} (h : w.ownsRow base e 1 v n xs) :
  ∃ a c,v = .slice a n c∧n≤c∧c≤maxLen∧∀ ad,a = some ad→base≤ad.block∧ad.block < w.heap.size:=by
 rcases h.2 with ⟨rfl,rfl⟩ | ⟨g,cap,cur,rfl,hb,hh,hnc,hcm,_⟩
 ·exact ⟨none,0,rfl,Nat.le_refl _,by unfold maxLen;omega,fun ad h=>by cases h⟩
 ·refine ⟨_,cap,rfl,hnc,hcm,fun ad h=>?_⟩
  injection h with h;subst h
  refine ⟨hb,?_⟩
  rcases Nat.lt_or_ge g w.heap.size with hlt | hge
  ·exact hlt
  ·rw [Array.getElem?_eq_none hge] at hh;cases hh
theorem own_below {w w' : World} {B e n : Nat} {v : Value} {xs : List Value} (h : w.ownsRow B e 1 v n xs) (hb : Below w.heap.size w w') : w'.ownsRow B e 1 v n xs:=by
 refine ⟨h.1,?_⟩
 rcases h.2 with ⟨rfl,rfl⟩ | ⟨g,cap,cur,rfl,h1,hh,hr⟩
 ·exact .inl ⟨rfl,rfl⟩
 ·refine .inr ⟨g,cap,cur,rfl,h1,?_,hr⟩
  rcases Nat.lt_or_ge g w.heap.size with hlt | hge
  ·rw [hb.block g hlt];exact hh
  ·rw [Array.getElem?_eq_none hge] at hh;cases hh
theorem own_base {w : World} {B B' e n : Nat} {v : Value} {xs : List Value} (h : w.ownsRow B' e 1 v n xs) (hB : B≤B') : w.ownsRow B e 1 v n xs:=by
 refine ⟨h.1,?_⟩
 rcases h.2 with h2 | ⟨g,cap,cur,hv,h1,hr⟩
 ·exact .inl h2
 ·exact .inr ⟨g,cap,cur,hv,by omega,hr⟩
theorem own_block {w : World} {B e n : Nat} {v : Value} {xs : List Value} (h : w.ownsRow B e 1 v n xs) : ∀ k,v.ownBlock = some k→B≤k:=by
 intro k hk
 rcases h.2 with ⟨rfl,_⟩ | ⟨g,cap,cur,rfl,h1,_⟩
 ·simp [Value.ownBlock] at hk
 ·simp [Value.ownBlock] at hk;omega
section
variable {P : Program} (w : World)
/-- append of a list of bytes, nil or not, onto a row of the call's own. -/
theorem run_append_bytes (base : Nat) (t ty e : TypeId) (i : TypeInfo) (ht : P.underlying t = some (.slice e)) (hi : P.info? e = some i) (hz : i.zero = some (.int .u8 0))
  (hsize : i.size = 1) (hby : i.bytes = 1) (v : Value) (n : Nat) (l : List UInt8) (hown : w.ownsRow base e 1 v n (bcells l))
  (B : Nat) (a : Option Addr) (m : Nat) (news : List UInt8) (c : Nat) (hr : BAt w B a m news)
  (hlen : n + m≤140737488355328) (hbase : base≤w.heap.size) :
  ∃ v' w',(Builtin.append_ #[t,t] ty #[v,.slice a m c]).run P w = .ok v' w'∧w'.ownsRow base e 1 v' (n + m) (bcells (l ++ news))∧w.grownBy w' v.ownBlock:=by
 have hm:=hr.len
 rcases a with _ | ad
 ·have hm0 : m = 0:=by
   rcases hr with ⟨_,h | ⟨b,off,h,_⟩⟩
   ·exact h
   ·cases h
  subst hm0
  obtain rfl : news = []:=List.eq_nil_of_length_eq_zero hm
  refine ⟨v,w,?_,by simpa using hown,World.grownBy.refl w _⟩
  rcases hown.2 with ⟨rfl,h0⟩ | ⟨g,cap,cur,rfl,_,_,hnc,_⟩
  ·simp [Builtin.append_,run_underlying ht,sizeOf,typeInfo,hi,Builtin.lenOf,Builtin.firstCells]
  ·simp [Builtin.append_,run_underlying ht,sizeOf,typeInfo,hi,Builtin.lenOf,Builtin.firstCells,hnc,storeCells]
 ·have hcells : ∀ j u,(bcells news)[j]? = some u→w.cell? (ad.add j) = some u:=by
   intro j u hu
   obtain ⟨hj,rfl⟩:=bcells_get hu
   obtain ⟨b,off,e1,_,hc⟩:=hr.at_ hj
   injection e1 with e1;subst e1
   rw [add_plain];exact hc
  obtain ⟨v',w',hrun,h2,h3,_,_⟩:=run_append_own_at (P:=P) w base t ty e i (.int .u8 0) 1 1 ht hi hz hsize hby rfl (by decide) v n (bcells l) hown ad m c (bcells news) (by rw [bcells_len];omega) hcells (bcells_one news) (by unfold maxLen;omega) (by omega) hbase
  exact ⟨v',w',hrun,by rw [bcells_app];exact h2,h3⟩
theorem wpList_append_bytes {ops : Array Oper} {rest : List Oper} {o : Oper} {act : Act} {Q : Exit→Act→World→Prop} (hgd : o.guard = none) (s x : Operand) (t : TypeId)
  (ho : o.op = .call { callee:=.builtin .append,args:=#[s,x],argTypes:=#[t,t] })
  (base : Nat) (e : TypeId) (i : TypeInfo) (ht : P.underlying t = some (.slice e)) (hi : P.info? e = some i) (hz : i.zero = some (.int .u8 0))
  (hsize : i.size = 1) (hby : i.bytes = 1) (v : Value) (n : Nat) (l : List UInt8) (hs : act.eval s = v) (hown : w.ownsRow base e 1 v n (bcells l))
  (B : Nat) (a : Option Addr) (m : Nat) (news : List UInt8) (c : Nat) (hx : act.eval x = .slice a m c) (hr : BAt w B a m news)
  (hlen : n + m≤140737488355328) (hbase : base≤w.heap.size)
  (h : ∀ v' w',w'.ownsRow base e 1 v' (n + m) (bcells (l ++ news))→w.grownBy w' v.ownBlock→wpList P ops Q rest (act.put o.dst v') w') : wpList P ops Q (o :: rest) act w:=by
 refine wpList_plain hgd fun K hK=>?_
 obtain ⟨v',w',hrun,h2,h3⟩:=run_append_bytes (P:=P) w base t o.type e i ht hi hz hsize hby v n l hown B a m news c hr hlen hbase
 unfold Oper.wp execOp
 simp only [ho,resolve,invoke,builtin,Sem.run_bind,Sem.run_pure,Result.andThen_ok,List.map_toArray,List.map_cons,List.map_nil,hs,hx,hrun]
 exact hK _ _ (h v' w' h2 h3)
/-- append of a text's bytes. -/
theorem wpList_append_text {ops : Array Oper} {rest : List Oper} {o : Oper} {act : Act} {Q : Exit→Act→World→Prop} (hgd : o.guard = none) (s x : Operand) (t u : TypeId)
  (ho : o.op = .call { callee:=.builtin .append,args:=#[s,x],argTypes:=#[t,u] })
  (base : Nat) (e : TypeId) (i : TypeInfo) (ht : P.underlying t = some (.slice e)) (hu : P.underlying u = some .string) (hi : P.info? e = some i) (hz : i.zero = some (.int .u8 0))
  (hsize : i.size = 1) (hby : i.bytes = 1) (v : Value) (n : Nat) (l : List UInt8) (hs : act.eval s = v) (hown : w.ownsRow base e 1 v n (bcells l))
  (str : ByteArray) (hx : act.eval x = .string str) (hlen : n + str.size≤140737488355328) (hbase : base≤w.heap.size)
  (h : ∀ v' w',w'.ownsRow base e 1 v' (n + str.size) (bcells (l ++ str.data.toList))→w.grownBy w' v.ownBlock→wpList P ops Q rest (act.put o.dst v') w') : wpList P ops Q (o :: rest) act w:=by
 refine Lib.wpList_append_own_string w hgd s x t u ho base e i ht hu hi hz hsize hby v n (bcells l) hs hown str hx (by unfold maxLen;omega) hlen hbase fun v' w' h2 h3 _=>h v' w' ?_ h3
 rw [bcells_app];exact h2
/-- string(b). -/
theorem run_convert_bytes (src e dst : TypeId) (hs : P.underlying src = some (.slice e)) (he : P.underlying e = some (.int .u8)) (hd : P.underlying dst = some .string)
  (B : Nat) (a : Option Addr) (n : Nat) (l : List UInt8) (c : Nat) (hr : BAt w B a n l) : (convert src dst (.slice a n c)).run P w = .ok (.string ⟨l.toArray⟩) w:=by
 obtain rfl:=hr.len
 rcases a with _ | ad
 ·have hm : l = []:=by
   rcases hr with ⟨_,h | ⟨b,off,h,_⟩⟩
   ·exact List.eq_nil_of_length_eq_zero h
   ·cases h
  subst hm
  rw [run_convert_bytes_nil w src e hs he _ c dst hd];rfl
 ·rw [run_convert_bytes_string w src dst e _ l.length c hs he hd]
  have hl : (loadCells ad l.length).run P w = .ok ((l.map fun c=>(c.toNat : Int)).map (Value.int .u8)).toArray w:=by
   have:=run_loadCells_list (P:=P) w ad (bcells l) (fun j u hj=>by
    obtain ⟨hj',rfl⟩:=bcells_get hj
    obtain ⟨b,off,e1,_,hc⟩:=hr.at_ hj'
    injection e1 with e1;subst e1
    rw [add_plain];exact hc)
   rw [bcells_len] at this
   rw [this];simp [bcells]
  rw [run_bytesToString w _ l.length c _ hl,foldl_push_bytes]
  congr 3
  show _ = l.toArray
  have hm : ∀ m : List UInt8,List.map ((fun n : Int=>UInt8.ofNat n.toNat) ∘ fun c : UInt8=>(c.toNat : Int)) m = m:=by
   intro m;induction m with
   | nil=>rfl
   | cons c r ih=>rw [List.map_cons,ih];simp
  simp [ByteArray.empty,ByteArray.emptyWithCapacity]
  exact hm l
end
/-- The last k bytes of x, the most significant first. -/
def putB (x : Nat) : Nat→List UInt8
 | 0=>[]
 | k + 1=>UInt8.ofNat (x / 256 ^ k) :: putB x k
theorem putB_len (x k : Nat) : (putB x k).length = k:=by induction k with
 | zero=>rfl
 | succ k ih=>simp [putB,ih]
/-- The number in bytes. -/
def numB (l : List UInt8) : Nat:=l.foldl (fun x c=>x * 256 + c.toNat) 0
theorem numB_snoc (l : List UInt8) (c : UInt8) : numB (l ++ [c]) = numB l * 256 + c.toNat:=by simp [numB]
theorem numB_nil : numB [] = 0:=rfl
theorem foldl_num (l : List UInt8) (a : Nat) : l.foldl (fun x c=>x * 256 + c.toNat) a = a * 256 ^ l.length + numB l:=by
 induction l generalizing a with
 | nil=>simp [numB]
 | cons c r ih =>
  have h1 : numB (c :: r) = (0 * 256 + c.toNat) * 256 ^ r.length + numB r:=by show List.foldl _ _ r = _;rw [ih]
  rw [List.foldl_cons,ih,h1,List.length_cons,Nat.pow_succ]
  rw [Nat.add_mul,Nat.zero_mul,Nat.zero_add,Nat.mul_assoc,Nat.mul_comm 256,Nat.add_assoc]
theorem numB_cons (c : UInt8) (r : List UInt8) : numB (c :: r) = c.toNat * 256 ^ r.length + numB r:=by
 have:=foldl_num r c.toNat
 show List.foldl _ (0 * 256 + c.toNat) r = _
 rw [Nat.zero_mul,Nat.zero_add];exact this
theorem numB_lt (l : List UInt8) : numB l < 256 ^ l.length:=by
 induction l with
 | nil=>simp [numB]
 | cons c r ih =>
  rw [numB_cons,List.length_cons,Nat.pow_succ]
  have h1:=c.toNat_lt
  have h2 : c.toNat * 256 ^ r.length≤255 * 256 ^ r.length:=Nat.mul_le_mul_right _ (by omega)
  omega
theorem numB_put (x k : Nat) : numB (putB x k) = x % 256 ^ k:=by
 induction k with
 | zero=>simp [putB,numB,Nat.mod_one]
 | succ k ih =>
  have h8 : (UInt8.ofNat (x / 256 ^ k)).toNat = x / 256 ^ k % 256:=UInt8.toNat_ofNat'
  rw [putB,numB_cons,ih,putB_len,h8,Nat.pow_succ 256,Nat.mod_mul (a:=256 ^ k) (b:=256)]
  rw [Nat.mul_comm (256 ^ k),Nat.add_comm]
theorem take_app (l m : List UInt8) (n : Nat) (h : l.length = n) : (l ++ m).take n = l:=by subst h;simp
theorem drop_app (l m : List UInt8) (n : Nat) (h : l.length = n) : (l ++ m).drop n = m:=by subst h;simp
/-- n held to 0 to 8. -/
def held (n : Int) : Nat:=(min (max n 0) 8).toNat
theorem held_le (n : Int) : held n≤8:=by unfold held;omega
/-- A text's bytes. -/
def textB (s : List UInt8) : List UInt8:=putB (min s.length 65535) 2 ++ s.take 65535
theorem textB_len (s : List UInt8) : (textB s).length = 2 + min s.length 65535:=by simp [textB,putB_len];omega
theorem take_snoc (l : List UInt8) (k : Nat) (h : k < l.length) : l.take (k + 1) = l.take k ++ [l[k]]:=by rw [List.take_succ_eq_append_getElem h]
set_option linter.unusedVariables false
theorem Tryz.info5 : (Tryz.prog.info? 5).map (fun i=>(i.zero,i.size,i.bytes)) = some (some (.int .u8 0),1,1):=by kernel_rfl
theorem info_parts {i? : Option TypeInfo} {z : Value} {n m : Nat} (h : i?.map (fun i=>(i.zero,i.size,i.bytes)) = some (some z,n,m)) :
  ∃ i,i? = some i∧i.zero = some z∧i.size = n∧i.bytes = m:=by
 cases i? with
 | none=>cases h
 | some i=>simp at h;exact ⟨i,rfl,h.1,h.2.1,h.2.2⟩
/-- New memory that holds the bytes l is answered. -/
def NewB (w : World) (l : List UInt8) (e : Ending) (w' : World) : Prop :=
 ∃ a n c,e = .returned (.slice a n c)∧w'.ownsRow w.heap.size 5 1 (.slice a n c) n (bcells l)∧Below w.heap.size w w'
theorem byte_eq (x j : Nat) : ((x : Int) / 2 ^ (8 * j) % 256) = ((UInt8.ofNat (x / 256 ^ j)).toNat : Int):=by
 have h8 : (UInt8.ofNat (x / 256 ^ j)).toNat = x / 256 ^ j % 256:=UInt8.toNat_ofNat'
 have h2 : (2 : Int) ^ (8 * j) = ((256 ^ j : Nat) : Int):=by
  have h3 : (2 : Int) ^ 8 = ((256 : Nat) : Int):=by decide
  rw [Int.pow_mul,h3,Int.natCast_pow]
 rw [h8,h2,Int.natCast_emod,Int.natCast_ediv];rfl
/-- What Put's loop holds. -/
def PutIn (w wr : World) (v : Value) (n : Nat) (l : List UInt8) : Prop:=wr.ownsRow w.heap.size 5 1 v n (bcells l)∧Below w.heap.size w wr
theorem PutIn.next {w wr w1 : World} {v v' : Value} {n m : Nat} {l l' : List UInt8} (h : PutIn w wr v n l) {o : Obj} (ho : w1.ownsRow w.heap.size 5 1 v' m (bcells l'))
  (hg : (wr.alloc o).grownBy w1 v.ownBlock) : PutIn w w1 v' m l':=by
 have hs:=h.2.size
 exact ⟨ho,(h.2.alloc hs o).grown hg (by simp;omega) (own_block h.1)⟩
theorem PutIn.next0 {w wr w1 : World} {v v' : Value} {n m : Nat} {l l' : List UInt8} (h : PutIn w wr v n l) (ho : w1.ownsRow w.heap.size 5 1 v' m (bcells l'))
  (hg : wr.grownBy w1 v.ownBlock) : PutIn w w1 v' m l':=⟨ho,h.2.grown hg h.2.size (own_block h.1)⟩
theorem PutIn.out {w wr : World} {v : Value} {n : Nat} {l : List UInt8} (h : PutIn w wr v n l) : NewB w l (.returned v) wr:=by
 obtain ⟨a,c,rfl,_⟩:=own_form h.1
 exact ⟨a,n,c,rfl,h.1,h.2⟩
theorem PutIn.cast {w wr : World} {v : Value} {n : Nat} {l m : List UInt8} (h : PutIn w wr v n l) (e : l = m) : PutIn w wr v n m:=e ▸ h
theorem PutIn.len {w wr : World} {v : Value} {n : Nat} {l : List UInt8} (h : PutIn w wr v n l) : l.length = n:=own_len h.1
theorem run_make_bytes (m k : Nat) (h : m + k≤281474976710656) (W : World) :
  (Instr.makeSlice 34 (.int .i64 0) (.int .i64 ((m : Int) + (k : Int)))).run Tryz.prog W = .ok (.slice (some ⟨W.heap.size,0,none⟩) 0 (m + k)) (W.alloc (.cells (madeCells (Value.int .u8 0).cells (m + k)) 5)):=by
 obtain ⟨i0,hi,hz0,hz1,hz2⟩:=info_parts Tryz.info5
 have hr:=run_make (P:=Tryz.prog) W 34 5 i0 (.int .u8 0) Tryz.underlying34 hi hz0 .i64 .i64 0 ((m : Int) + (k : Int)) (by omega) (by omega) (by rw [hz2];omega) (by omega)
 have e1 : ((m : Int) + (k : Int)).toNat = m + k:=by omega
 rw [hr,hz1,e1,Nat.mul_one];rfl
theorem own_made (w : World) (m k : Nat) (h : m + k≤281474976710656) :
  (w.alloc (.cells (madeCells #[Value.int .u8 0] (m + k)) 5)).ownsRow w.heap.size 5 1 (.slice (some ⟨w.heap.size,0,none⟩) 0 (m + k)) 0 (bcells []):=by
 refine ⟨rfl,.inr ⟨w.heap.size,m + k,_,rfl,Nat.le_refl _,heap_alloc_new w _,by simp,by unfold maxLen;omega,by rw [size_madeCells,Nat.mul_one],by simp [bcells]⟩⟩
theorem held_if (n : Int) : (if 8 < (if n < 0 then 0 else n) then (8 : Int) else if n < 0 then 0 else n) = ((held n : Nat) : Int):=by
 unfold held;by_cases h : n < 0 <;> simp [h] <;> (try split) <;> omega
theorem put_any (a : Option Addr) (m c x : Nat) (n : Int) (l : List UInt8) (w : World) (hl : BAt w w.heap.size a m l) (hlen : m≤1099511627776) (hx : x < 18446744073709551616) :
  Calls Tryz.prog 34 #[.slice a m c,.int .u64 x,.int .i64 n] w (NewB w (l ++ putB x (held n))):=by
 obtain ⟨i0,hi,hz0,hz1,hz2⟩:=info_parts Tryz.info5
 have hk8:=held_le n
 go_enter Tryz.func34,Tryz.ntmps34
 go_upto_region 2 with (fail)
 rw [held_if]
 generalize held n = k at *
 generalize (if n < 0 then (0 : Int) else n) = z
 have hmk:=run_make_bytes m k (by omega)
 go_wp2_with (at_builtin;(refine wpList_append_bytes _ rfl _ _ 34 rfl w.heap.size 5 i0 Tryz.underlying34 hi hz0 hz1 hz2 _ 0 [] rfl (own_made w m k (by omega)) w.heap.size a m l c rfl (hl.alloc (Nat.le_refl _) _) (by omega) (by simp) ?_;intro v' w1 hown hg;have hin : PutIn w w1 v' (0 + m) ([] ++ l):=⟨hown,((Below.refl _ _).alloc (Nat.le_refl _) _).grown hg (by simp) (own_block (own_made w m k (by omega)))⟩;clear hown hg))
 have hml:=hl.len
 go_loopw [7,8] (fun v i wr => ∃ (r : Nat) (d : List UInt8) (q : Nat),r≤k∧i = .int .i64 ((r : Int) - 1)∧d ++ putB x r = putB x k∧PutIn w wr v q (l ++ d)) (fun _ i _=>(intOf i + 1).toNat)
 case atStart=>exact ⟨k,[],_,Nat.le_refl _,rfl,rfl,hin.cast (by simp)⟩
 case round =>
  obtain ⟨r,d,q,hr,rfl,hd,hM⟩:=hrel
  clear hin
  rcases r with _ | j
  ·have HR : PutIn w wr u7 q (l ++ putB x k):=hM.cast (by rw [← hd];simp [putB])
   clear hd hM hml
   go_wp2
   go_ret
   exact HR.out
  ·have ej : ((j + 1 : Nat) : Int) - 1 = (j : Int):=by omega
   rw [ej]
   clear ej
   have hdl : q≤1099511627800:=by have h1:=congrArg List.length hd;have h2:=hM.len;simp [putB_len] at h1 h2;omega
   have HD:=Lib.hid hd;clear hd hml
   have hown:=hM.1
   have hsz:=hM.2.size
   go_wp2_with (at_builtin;(refine wpList_append_bytes _ rfl _ _ 34 rfl w.heap.size 5 i0 Tryz.underlying34 hi hz0 hz1 hz2 _ q (l ++ d) rfl (hown.alloc _) (wr.heap.size + 1) (some ⟨wr.heap.size,0,none⟩) 1 [UInt8.ofNat (x / 256 ^ j)] 1 rfl (BAt.one _ _ _ _ (byte_eq x j)) (by omega) (by simp;omega) ?_;intro v2 w2 ho2 hg2;have R:=hM.next ho2 hg2;clear ho2 hg2))
   go_roundw
   case rel=>exact ⟨j,d ++ [UInt8.ofNat (x / 256 ^ j)],_,by omega,rfl,by rw [← HD.out];simp [putB],R.cast (by simp)⟩
   case measure=>simp [intOf]
theorem putText_any (a : Option Addr) (m c : Nat) (s : ByteArray) (l : List UInt8) (w : World) (hl : BAt w w.heap.size a m l) (hlen : m≤1099511627000) (hs : s.size≤maxLen) :
  Calls Tryz.prog 129 #[.slice a m c,.string s] w (NewB w (l ++ textB s.data.toList)):=by
 obtain ⟨i0,hi,hz0,hz1,hz2⟩:=info_parts Tryz.info5
 unfold maxLen at hs
 by_cases h : s.size≤65535
 ·have hd : decide ((65535 : Int) < (s.size : Int)) = false:=by simp;omega
  go_enter Tryz.func129,Tryz.ntmps129
  go_wp2_with (first | (go_at_call 34;((with_reducible refine (put_any _ _ _ _ _ _ _ hl (by omega) (by omega)).mono ?_);rintro e w1 ⟨a1,n1,c1,rfl,ho,hb⟩)) | (at_builtin;(refine wpList_append_text _ rfl _ _ 34 9 rfl w.heap.size 5 i0 Tryz.underlying34 Tryz.underlying9 hi hz0 hz1 hz2 _ n1 _ rfl ho s rfl (by have:=own_len ho;simp [putB_len,held] at this;have:=hl.len;omega) hb.size ?_;intro v2 w2 ho2 hg2;have R : PutIn w w2 v2 _ _:=PutIn.next0 ⟨ho,hb⟩ ho2 hg2;clear ho2 hg2)))
  go_ret
  refine (R.cast ?_).out
  have ht : s.data.toList.take 65535 = s.data.toList:=List.take_of_length_le (by rw [Array.length_toList];exact h)
  have hz : min s.data.toList.length 65535 = s.size:=by rw [Array.length_toList];show min s.size 65535 = _;omega
  rw [textB,ht,hz,List.append_assoc];rfl
 ·have hd : decide ((65535 : Int) < (s.size : Int)) = true:=by simp;omega
  have ht : s.data.toList.take 65535 = (s.extract 0 65535).data.toList:=by simp
  have hz : min s.data.toList.length 65535 = (s.extract 0 65535).size:=by rw [ByteArray.size_extract,Array.length_toList];show min s.size 65535 = _;omega
  have hsz : (s.extract 0 65535).size≤65535:=by rw [← hz];omega
  have hT : textB s.data.toList = putB (s.extract 0 65535).size 2 ++ (s.extract 0 65535).data.toList:=by rw [textB,ht,hz]
  rw [hT]
  clear ht hz hT
  go_enter Tryz.func129,Tryz.ntmps129
  go_upto_region 2 with (fail)
  generalize s.extract 0 65535 = t at *
  go_wp2_with (first | (go_at_call 34;((with_reducible refine (put_any _ _ _ _ _ _ _ hl (by omega) (by omega)).mono ?_);rintro e w1 ⟨a1,n1,c1,rfl,ho,hb⟩)) | (at_builtin;(refine wpList_append_text _ rfl _ _ 34 9 rfl w.heap.size 5 i0 Tryz.underlying34 Tryz.underlying9 hi hz0 hz1 hz2 _ n1 _ rfl ho t rfl (by have:=own_len ho;simp [putB_len,held] at this;have:=hl.len;omega) hb.size ?_;intro v2 w2 ho2 hg2;have R : PutIn w w2 v2 _ _:=PutIn.next0 ⟨ho,hb⟩ ho2 hg2;clear ho2 hg2)))
  go_ret
  refine (R.cast ?_).out
  rw [List.append_assoc];rfl
/-- A reader in block g: the bytes that are left, and whether it is well. -/
def RdAt (w : World) (g : Nat) (l : List UInt8) (ok : Bool) : Prop :=
 ∃ a n c,w.heap[g]? = some (.cells #[.slice a n c,.bool (!ok)] 130 (0,0))∧n≤c∧c≤maxLen∧BAt w g a n l∧(ok = false→l = [])
/-- A new reader is answered. -/
def NewR (w : World) (l : List UInt8) (e : Ending) (w' : World) : Prop :=
 ∃ g,e = .returned (.pointer (some ⟨g,0,none⟩))∧RdAt w' g l true∧w.heap.size≤g∧g < w'.heap.size∧Below w.heap.size w w'
theorem own_empty (w : World) : (w.alloc (.cells #[] 5)).ownsRow w.heap.size 5 1 (.slice (some ⟨w.heap.size,0,none⟩) 0 0) 0 (bcells []) :=
 ⟨rfl,.inr ⟨w.heap.size,0,_,rfl,Nat.le_refl _,heap_alloc_new w _,by simp,by unfold maxLen;omega,rfl,rfl⟩⟩
theorem clone_any (a : Option Addr) (m c : Nat) (l : List UInt8) (w : World) (hl : BAt w w.heap.size a m l) (hlen : m≤1099511627776) :
  Calls Tryz.prog 79 #[.slice a m c] w (NewB w l):=by
 obtain ⟨i0,hi,hz0,hz1,hz2⟩:=info_parts Tryz.info5
 rcases a with _ | ad
 ·have hm : m = 0:=by
   rcases hl with ⟨_,h | ⟨b,off,h,_⟩⟩
   ·exact h
   ·cases h
  obtain rfl : l = []:=List.eq_nil_of_length_eq_zero (by rw [hl.len,hm])
  have heq : ∀ W : World,(binOp .eql 34 (.slice none m c) (.slice none 0 0)).run Tryz.prog W = .ok (.bool true) W:=fun W=>Lib.run_eql_slice_nil W 34 5 _ _ _ _ _ Tryz.underlying34
  clear hm
  go_enter Tryz.func79,Tryz.ntmps79
  go_wp2
  go_ret
  exact ⟨none,0,0,rfl,World.ownsRow_nil _ _ _ _,Below.refl _ _⟩
 ·have heq : ∀ W : World,(binOp .eql 34 (.slice (some ad) m c) (.slice none 0 0)).run Tryz.prog W = .ok (.bool false) W:=fun W=>Lib.run_eql_slice_nil W 34 5 _ _ _ _ _ Tryz.underlying34
  go_enter Tryz.func79,Tryz.ntmps79
  go_wp2_with (at_builtin;(refine wpList_append_bytes _ rfl _ _ 34 rfl w.heap.size 5 i0 Tryz.underlying34 hi hz0 hz1 hz2 _ 0 [] rfl (own_empty w) w.heap.size (some ad) m l c rfl (hl.alloc (Nat.le_refl _) _) (by omega) (by simp) ?_;intro v' w1 hown hg;have R : PutIn w w1 v' (0 + m) ([] ++ l):=⟨hown,((Below.refl _ _).alloc (Nat.le_refl _) _).grown hg (by simp) (own_block (own_empty w))⟩;clear hown hg))
  go_ret
  exact R.out
theorem new_any (a : Option Addr) (m c : Nat) (l : List UInt8) (w : World) (hl : BAt w w.heap.size a m l) (hlen : m≤1099511627776) :
  Calls Tryz.prog 42 #[.slice a m c] w (NewR w l):=by
 go_enter Tryz.func42,Tryz.ntmps42
 go_wp2_with (go_at_call 79;((with_reducible refine (clone_any _ _ _ _ _ hl hlen).mono ?_);rintro e w1 ⟨a1,n1,c1,rfl,ho,hb⟩))
 go_ret
 obtain ⟨_,_,e1,h1,h2,_⟩:=own_form ho
 injection e1 with e1 e2 e3
 subst e1;subst e3
 exact ⟨w1.heap.size,rfl,⟨a1,n1,c1,heap_alloc_new _ _,h1,h2,(BAt.of_own ho).alloc (Nat.le_refl _) _,fun h=>by cases h⟩,hb.size,by simp,hb.alloc hb.size _⟩
/-- Only block g has turned. -/
def Only (g : Nat) (w w' : World) : Prop:=w.grownBy w' (some g)
theorem Only.refl (g : Nat) (w : World) : Only g w w:=World.grownBy.refl w _
theorem Only.trans {g : Nat} {a b c : World} (h : Only g a b) (k : Only g b c) : Only g a c:=World.grownBy.trans h k
theorem Only.below {B g : Nat} {w0 w w' : World} (hb : Below B w0 w) (h : Only g w w') (h1 : B≤g) (h2 : B≤w.heap.size) : Below B w0 w' :=
 hb.grown h h2 fun k hk=>by injection hk;omega
theorem rd_cells {w : World} {g : Nat} {x y : Value} {t : TypeId} (h : w.heap[g]? = some (.cells #[x,y] t (0,0))) :
  w.cell? ⟨g,0,none⟩ = some x∧w.cell? ⟨g,1,none⟩ = some y∧w.frozen? ⟨g,0,none⟩ = false∧w.frozen? ⟨g,1,none⟩ = false:=by
 refine ⟨by rw [cell_of_row _ _ _ _ _ _ h];rfl,by rw [cell_of_row _ _ _ _ _ _ h];rfl,?_,?_⟩ <;> simp [World.frozen?,h]
theorem ok_any (g : Nat) (l : List UInt8) (ok : Bool) (w : World) (h : RdAt w g l ok) :
  Calls Tryz.prog 85 #[.pointer (some ⟨g,0,none⟩)] w fun e w'=>e = .returned (.bool ok)∧w = w':=by
 obtain ⟨a,n,c,hh,h1,h2,hl,hf⟩:=h
 obtain ⟨c0,c1,_,_⟩:=rd_cells hh
 clear hh hf
 cases ok
 all_goals
  go_enter Tryz.func85,Tryz.ntmps85
  go_wp2
  go_ret
  exact ⟨rfl,rfl⟩
theorem left_yes (g : Nat) (l : List UInt8) (w : World) (h : RdAt w g l true) :
  Calls Tryz.prog 86 #[.pointer (some ⟨g,0,none⟩)] w fun e w'=>e = .returned (.int .i64 l.length)∧w = w':=by
 have hok:=ok_any g l true w h
 obtain ⟨a,n,c,hh,h1,h2,hl,hf⟩:=h
 obtain ⟨c0,c1,_,_⟩:=rd_cells hh
 have hlen:=Lib.hid hl.len
 clear hh hf
 go_enter Tryz.func86,Tryz.ntmps86
 go_wp2_with (go_at_call 85;((with_reducible refine hok.mono ?_);rintro e w' ⟨rfl,rfl⟩))
 go_ret
 exact ⟨by rw [hlen.out];rfl,rfl⟩
theorem left_no (g : Nat) (l : List UInt8) (w : World) (h : RdAt w g l false) :
  Calls Tryz.prog 86 #[.pointer (some ⟨g,0,none⟩)] w fun e w'=>e = .returned (.int .i64 0)∧w = w':=by
 go_enter Tryz.func86,Tryz.ntmps86
 go_wp2_with (go_at_call 85;((with_reducible refine (ok_any g l false _ h).mono ?_);rintro e w' ⟨rfl,rfl⟩))
 go_ret
 exact ⟨rfl,rfl⟩
theorem left_any (g : Nat) (l : List UInt8) (ok : Bool) (w : World) (h : RdAt w g l ok) :
  Calls Tryz.prog 86 #[.pointer (some ⟨g,0,none⟩)] w fun e w'=>e = .returned (.int .i64 l.length)∧w = w':=by
 cases ok
 ·have hl : l = []:=by obtain ⟨_,_,_,_,_,_,_,hf⟩:=h;exact hf rfl
  subst hl;exact left_no g _ w h
 ·exact left_yes g l w h
theorem end_any (g : Nat) (l : List UInt8) (ok : Bool) (w : World) (h : RdAt w g l ok) :
  Calls Tryz.prog 44 #[.pointer (some ⟨g,0,none⟩)] w fun e w'=>e = .returned (.bool (ok && l.isEmpty))∧w = w':=by
 cases ok
 ·go_enter Tryz.func44,Tryz.ntmps44
  go_wp2_with (go_at_call 85;((with_reducible refine (ok_any g l false _ h).mono ?_);rintro e w' ⟨rfl,rfl⟩))
  go_ret
  exact ⟨rfl,rfl⟩
 ·cases l with
  | nil =>
   go_enter Tryz.func44,Tryz.ntmps44
   go_wp2_with (first | (go_at_call 85;((with_reducible refine (ok_any g _ true _ h).mono ?_);rintro e w' ⟨rfl,rfl⟩)) | (go_at_call 86;((with_reducible refine (left_any g _ true _ h).mono ?_);rintro e w' ⟨rfl,rfl⟩)))
   go_ret
   exact ⟨rfl,rfl⟩
  | cons x r =>
   have h1 : ((((x :: r).length : Nat) : Int) == 0) = false:=by simp;omega
   go_enter Tryz.func44,Tryz.ntmps44
   go_wp2_with (first | (go_at_call 85;((with_reducible refine (ok_any g _ true _ h).mono ?_);rintro e w' ⟨rfl,rfl⟩)) | (go_at_call 86;((with_reducible refine (left_any g _ true _ h).mono ?_);rintro e w' ⟨rfl,rfl⟩)))
   go_ret
   exact ⟨by simp;omega,rfl⟩
theorem set_row {w : World} {g : Nat} {cs : Array Value} {t : TypeId} (h : w.heap[g]? = some (.cells cs t (0,0))) (i : Nat) (u : Value) :
  (w.setCell ⟨g,i,none⟩ u).heap[g]? = some (.cells (cs.setIfInBounds i u) t (0,0)):=by
 simp [World.setCell,Array.getElem?_modify,h]
theorem only_set (w : World) (g i : Nat) (u : Value) : Only g w (w.setCell ⟨g,i,none⟩ u) :=
 ⟨rfl,rfl,rfl,by simp [World.setCell],fun k _ hk=>Below.heap_setCell w ⟨g,i,none⟩ u k (fun e=>hk (by subst e;rfl))⟩
theorem only_set2 (w : World) (g i j : Nat) (u v : Value) : Only g w ((w.setCell ⟨g,i,none⟩ u).setCell ⟨g,j,none⟩ v):=(only_set w g i u).trans (only_set _ g j v)
theorem fail_any (g : Nat) (l : List UInt8) (ok : Bool) (w : World) (h : RdAt w g l ok) :
  Calls Tryz.prog 109 #[.pointer (some ⟨g,0,none⟩)] w fun e w'=>e = .returned (.tuple #[])∧RdAt w' g [] false∧Only g w w':=by
 obtain ⟨a,n,c,hh,h1,h2,hl,hf⟩:=h
 obtain ⟨c0,c1,f0,f1⟩:=rd_cells hh
 have HH:=Lib.hid hh
 clear hh hf
 go_enter Tryz.func109,Tryz.ntmps109
 go_wp2
 go_end0
 exact ⟨rfl,⟨none,0,0,by rw [set_row (set_row HH.out _ _)];rfl,Nat.le_refl _,by unfold maxLen;omega,BAt.nil,fun _=>rfl⟩,only_set2 _ _ _ _ _ _⟩
/-- The next n bytes are answered: they read as l, and lie below the reader. -/
def Took (g : Nat) (l r : List UInt8) (w : World) (e : Ending) (w' : World) : Prop :=
 ∃ a n c,e = .returned (.slice a n c)∧BAt w' g a n l∧RdAt w' g r true∧Only g w w'
theorem next_no (g : Nat) (l : List UInt8) (ok : Bool) (n : Int) (w : World) (h : RdAt w g l ok) (hn : ok = false∨n < 0∨(l.length : Int) < n) :
  Calls Tryz.prog 110 #[.pointer (some ⟨g,0,none⟩),.int .i64 n] w fun e w'=>e = .returned (.slice none 0 0)∧RdAt w' g [] false∧Only g w w':=by
 by_cases h0 : n < 0
 ·go_enter Tryz.func110,Tryz.ntmps110
  go_wp2_with (first | (go_at_call 109;((with_reducible refine (fail_any g l ok _ h).mono ?_);rintro e w1 ⟨rfl,hr,ho⟩)) | (go_at_call 85;((with_reducible refine (ok_any g [] false _ hr).mono ?_);rintro e w' ⟨rfl,rfl⟩)))
  go_ret
  exact ⟨rfl,hr,ho⟩
 ·by_cases h1 : (l.length : Int) < n
  ·have hd : decide ((l.length : Int) < n) = true:=by simpa using h1
   go_enter Tryz.func110,Tryz.ntmps110
   go_wp2_with (first | (go_at_call 86;((with_reducible refine (left_any g l ok _ h).mono ?_);rintro e w' ⟨rfl,rfl⟩)) | (go_at_call 109;((with_reducible refine (fail_any g l ok _ h).mono ?_);rintro e w1 ⟨rfl,hr,ho⟩)) | (go_at_call 85;((with_reducible refine (ok_any g [] false _ hr).mono ?_);rintro e w' ⟨rfl,rfl⟩)))
   go_ret
   exact ⟨rfl,hr,ho⟩
  ·have hok : ok = false:=by rcases hn with h | h | h;(· exact h);(· omega);(· omega)
   subst hok
   have hl : l = []:=by obtain ⟨_,_,_,_,_,_,_,hf⟩:=h;exact hf rfl
   subst hl
   have hd : decide ((0 : Int) < n) = false:=by simpa using h1
   go_enter Tryz.func110,Tryz.ntmps110
   go_wp2_with (first | (go_at_call 86;((with_reducible refine (left_no g _ _ h).mono ?_);rintro e w' ⟨rfl,rfl⟩)) | (go_at_call 85;((with_reducible refine (ok_any g [] false _ h).mono ?_);rintro e w' ⟨rfl,rfl⟩)))
   go_ret
   exact ⟨rfl,h,Only.refl _ _⟩
theorem lt_of_heap {w : World} {g : Nat} {o : Obj} (h : w.heap[g]? = some o) : g < w.heap.size:=by
 rcases Nat.lt_or_ge g w.heap.size with h1 | h1
 ·exact h1
 ·rw [Array.getElem?_eq_none h1] at h;cases h
theorem took_mk {w : World} {g n c k : Nat} {a a' : Option Addr} {l : List UInt8} (hh : w.heap[g]? = some (.cells #[.slice a n c,.bool (!true)] 130 (0,0))) (hl : BAt w g a n l) (hk : k≤n) (h1 : n≤c) (h2 : c≤maxLen)
  (ha : a' = if c = k then a else a.map (·.add k)) : Took g (l.take k) (l.drop k) w (.returned (.slice a k c)) (w.setCell ⟨g,0,none⟩ (.slice a' (n - k) (c - k))):=by
 have hg:=lt_of_heap hh
 have ho:=only_set w g 0 (.slice a' (n - k) (c - k))
 refine ⟨a,k,c,rfl,(hl.take hk).grown ho (by omega) (Nat.le_refl _),⟨a',n - k,c - k,by rw [set_row hh];rfl,by omega,by omega,?_,fun h=>by cases h⟩,ho⟩
 have hdr:=hl.drop hk h1
 rw [← ha] at hdr
 exact hdr.grown ho (by omega) (Nat.le_refl _)
theorem next_yes (g : Nat) (l : List UInt8) (k : Nat) (w : World) (h : RdAt w g l true) (hk : k≤l.length) :
  Calls Tryz.prog 110 #[.pointer (some ⟨g,0,none⟩),.int .i64 k] w (Took g (l.take k) (l.drop k) w):=by
 have hL:=left_any g l true w h
 have hO:=ok_any g l true w h
 obtain ⟨a,n,c,hh,h1,h2,hl,hf⟩:=h
 have hn:=hl.len
 obtain ⟨c0,c1,f0,f1⟩:=rd_cells hh
 have hd : decide (l.length < k) = false:=by simp;omega
 have hkn : k≤n:=by omega
 have hT:=fun a'=>took_mk (a':=a') hh hl hkn h1 h2
 unfold maxLen at h2
 clear hh hf hn hl
 by_cases e : c = k
 ·obtain rfl : n = k:=by omega
  subst e
  have hT':=Lib.hid (hT a (by rw [if_pos rfl]))
  clear hT
  go_enter Tryz.func110,Tryz.ntmps110
  go_wp2_with (first | (go_at_call 86;((with_reducible refine hL.mono ?_);rintro e w' ⟨rfl,rfl⟩)) | (go_at_call 85;((with_reducible refine hO.mono ?_);rintro e w' ⟨rfl,rfl⟩)))
  go_ret
  simpa using hT'.out
 ·have hT':=Lib.hid (hT (a.map (·.add k)) (by rw [if_neg e]))
  clear hT
  go_enter Tryz.func110,Tryz.ntmps110
  go_wp2_with (first | (go_at_call 86;((with_reducible refine hL.mono ?_);rintro e w' ⟨rfl,rfl⟩)) | (go_at_call 85;((with_reducible refine hO.mono ?_);rintro e w' ⟨rfl,rfl⟩)))
  go_ret
  exact hT'.out
end Go.Proofs.YtcfmifongbapkaaGreatDoor
