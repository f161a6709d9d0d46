/- Contract of the document's own Put of values. Conditions: what it is handed lies in memory and fits its kinds. -/
import Derived.Test.YtcfmifongbapkaaGreatDoorRF
import Derived.Laws.StructEq
import Derived.Test.YtcfmifongbapkaaGreatDoorRB
namespace Go.Proofs.YtcfmifongbapkaaGreatDoor
open Go.RowKit
theorem held8 : held 8 = 8:=by decide
/-- A value's bytes. -/
def bytesV (v : Val) : List UInt8:=if v.k = 1 then 1 :: putB v.b 8 else if v.k = 2 then 2 :: textB v.t else [0]
def putV (l : List UInt8) (v : Val) : List UInt8:=if formedB v then l ++ bytesV v else l
theorem bytesV_len (v : Val) : (bytesV v).length≤65538:=by
 unfold bytesV
 split
 ·simp [putB_len]
 ·split
  ·rw [List.length_cons,textB_len];omega
  ·simp
theorem formed_kinds {k : Int} {b : Nat} {t : List UInt8} (h : formedB ⟨k,b,t⟩ = true) : k = 0∨k = 1∨k = 2:=by
 by_cases k0 : k = 0
 ·exact .inl k0
 ·by_cases k1 : k = 1
  ·exact .inr (.inl k1)
  ·by_cases k2 : k = 2
   ·exact .inr (.inr k2)
   ·rw [formed_other k b t k0 k1 k2] at h;cases h
theorem box_later {w w1 : World} {x y z : Value} {ty : TypeId} (hB : Below (w.alloc (.cells #[x,y,z] ty)).heap.size (w.alloc (.cells #[x,y,z] ty)) w1) :
  w1.cell? ⟨w.heap.size,0,none⟩ = some x∧w1.cell? ⟨w.heap.size,1,none⟩ = some y∧w1.cell? ⟨w.heap.size,2,none⟩ = some z:=by
 obtain ⟨a1,a2,a3⟩:=box3 w x y z ty
 exact ⟨(hB.cell (p:=⟨w.heap.size,0,none⟩) (by simp)).trans a1,(hB.cell (p:=⟨w.heap.size,1,none⟩) (by simp)).trans a2,(hB.cell (p:=⟨w.heap.size,2,none⟩) (by simp)).trans a3⟩
theorem NewB.wide {w0 w : World} {l m : List UInt8} {e : Ending} {w' : World} (h : NewB w l e w') (hB : Below w0.heap.size w0 w) (e1 : l = m) : NewB w0 m e w':=by
 subst e1
 obtain ⟨a,n,c,he,ho,hb⟩:=h
 exact ⟨a,n,c,he,own_base ho hB.size,hB.trans (hb.mono hB.size)⟩
set_option maxHeartbeats 1000000 in
theorem refPutV_any (a : Option Addr) (m c : Nat) (l : List UInt8) (k : Int) (b : Nat) (t : ByteArray) (w : World) (hl : BAt w w.heap.size a m l) (hm : m≤1099511600000) (hb : b < 18446744073709551616) (ht : t.size≤maxLen) :
  Calls Tryz.prog 108 #[.slice a m c,.agg #[.int .i64 k,.int .u64 b,.string t]] w (NewB w (putV l ⟨k,b,t.data.toList⟩)):=by
 obtain ⟨i0,hi,hz0,hz1,hz2⟩:=info_parts Tryz.info5
 have c1:=fun W=>refFormed_any k b t W hb ht
 have ht':=ht
 unfold maxLen at ht'
 have hB0 : Below w.heap.size w (w.alloc (.cells #[.int .i64 k,.int .u64 b,.string t] 155)):=(Below.refl _ _).alloc (Nat.le_refl _) _
 have hlb:=hl.alloc (Nat.le_refl _) (.cells #[.int .i64 k,.int .u64 b,.string t] 155)
 cases hf : formedB ⟨k,b,t.data.toList⟩
 ·rw [hf] at c1
  have R : Hid (putV l ⟨k,b,t.data.toList⟩ = l):=by show putV _ _ = _;simp [putV,hf]
  clear hf
  go_enter Tryz.func108,Tryz.ntmps108
  go_wp2_with (first | (at_builtin;(refine wpList_append_bytes _ rfl _ _ 34 rfl (w.heap.size + 1) 5 i0 Tryz.underlying34 hi hz0 hz1 hz2 _ 0 [] rfl (World.ownsRow_nil _ _ _ _) w.heap.size a m l c rfl hlb (by omega) (by simp) ?_;intro v1 w1 ho1 hg1;rw [Nat.zero_add,List.nil_append] at ho1;have hB1 : Below (w.heap.size + 1) (w.alloc (.cells #[.int .i64 k,.int .u64 b,.string t] 155)) w1:=(Below.refl _ _).grown hg1 (by simp) (by intro j hj;cases hj);obtain ⟨p1,p2,p3⟩:=box_later (by simpa using hB1);clear hg1)) | (go_at_call 123;((with_reducible refine (c1 _).mono ?_);rintro e w2 ⟨rfl,hb2⟩)))
  go_ret
  have hBw : Below w.heap.size w w1:=hB0.trans (hB1.mono (by omega))
  rw [R.out]
  exact PutIn.out ⟨own_base (own_below ho1 hb2) (by omega),hBw.trans (hb2.mono hBw.size)⟩
 ·rw [hf] at c1
  have R : Hid (putV l ⟨k,b,t.data.toList⟩ = l ++ bytesV ⟨k,b,t.data.toList⟩):=by show putV _ _ = _;simp [putV,hf]
  have hk:=formed_kinds hf
  clear hf
  rcases hk with rfl | rfl | rfl
  ·have T : Hid (bytesV ⟨0,b,t.data.toList⟩ = [0]):=by show bytesV _ = _;simp [bytesV]
   go_enter Tryz.func108,Tryz.ntmps108
   go_upto_region 3 with (at_builtin;(refine wpList_append_bytes _ rfl _ _ 34 rfl (w.heap.size + 1) 5 i0 Tryz.underlying34 hi hz0 hz1 hz2 _ 0 [] rfl (World.ownsRow_nil _ _ _ _) w.heap.size a m l c rfl hlb (by omega) (by simp) ?_;intro v1 w1 ho1 hg1;rw [Nat.zero_add,List.nil_append] at ho1;have hB1 : Below (w.heap.size + 1) (w.alloc (.cells #[.int .i64 0,.int .u64 b,.string t] 155)) w1:=(Below.refl _ _).grown hg1 (by simp) (by intro j hj;cases hj);clear hg1))
   obtain ⟨p1,p2,p3⟩:=box_later (by simpa using hB1)
   have hs1 : w.heap.size + 1≤w1.heap.size:=by have:=hB1.size;simpa using this
   go_upto_region 5 with (go_at_call 123;((with_reducible refine (c1 _).mono ?_);rintro e w2 ⟨rfl,hb2⟩;have hB2 : Below (w.heap.size + 1) (w.alloc (.cells #[.int .i64 0,.int .u64 b,.string t] 155)) w2:=hB1.trans (hb2.mono hs1)))
   have ho2:=own_below ho1 hb2
   clear p1 p2 p3
   obtain ⟨p1,p2,p3⟩:=box_later (by simpa using hB2)
   have hs2 : w.heap.size + 1≤w2.heap.size:=Nat.le_trans hs1 hb2.size
   go_upto_region 6 with (at_builtin;(refine wpList_append_bytes _ rfl _ _ 34 rfl (w.heap.size + 1) 5 i0 Tryz.underlying34 hi hz0 hz1 hz2 _ m l rfl (ho2.alloc _) (w2.heap.size + 1) (some ⟨w2.heap.size,0,none⟩) 1 [0] 1 rfl (BAt.one _ _ _ _ rfl) (by omega) (by simp;omega) ?_;intro v3 w3 ho3 hg3;have hB3 : Below (w.heap.size + 1) (w.alloc (.cells #[.int .i64 0,.int .u64 b,.string t] 155)) w3:=(hB2.alloc hs2 _).grown hg3 (by simp;omega) (own_block ho2);clear hg3))
   clear p1 p2 p3
   obtain ⟨p1,p2,p3⟩:=box_later (by simpa using hB3)
   have hBw : Below w.heap.size w w3:=hB0.trans (hB3.mono (by omega))
   go_wp2
   go_ret
   rw [R.out,T.out]
   exact PutIn.out ⟨own_base ho3 (by omega),hBw⟩
  ·have T : Hid (bytesV ⟨1,b,t.data.toList⟩ = [1] ++ putB b (held 8)):=by show bytesV _ = _;simp [bytesV,held8]
   go_enter Tryz.func108,Tryz.ntmps108
   go_upto_region 3 with (at_builtin;(refine wpList_append_bytes _ rfl _ _ 34 rfl (w.heap.size + 1) 5 i0 Tryz.underlying34 hi hz0 hz1 hz2 _ 0 [] rfl (World.ownsRow_nil _ _ _ _) w.heap.size a m l c rfl hlb (by omega) (by simp) ?_;intro v1 w1 ho1 hg1;rw [Nat.zero_add,List.nil_append] at ho1;have hB1 : Below (w.heap.size + 1) (w.alloc (.cells #[.int .i64 1,.int .u64 b,.string t] 155)) w1:=(Below.refl _ _).grown hg1 (by simp) (by intro j hj;cases hj);clear hg1))
   obtain ⟨p1,p2,p3⟩:=box_later (by simpa using hB1)
   have hs1 : w.heap.size + 1≤w1.heap.size:=by have:=hB1.size;simpa using this
   go_upto_region 5 with (go_at_call 123;((with_reducible refine (c1 _).mono ?_);rintro e w2 ⟨rfl,hb2⟩;have hB2 : Below (w.heap.size + 1) (w.alloc (.cells #[.int .i64 1,.int .u64 b,.string t] 155)) w2:=hB1.trans (hb2.mono hs1)))
   have ho2:=own_below ho1 hb2
   clear p1 p2 p3
   obtain ⟨p1,p2,p3⟩:=box_later (by simpa using hB2)
   have hs2 : w.heap.size + 1≤w2.heap.size:=Nat.le_trans hs1 hb2.size
   go_upto_region 6 with (at_builtin;(refine wpList_append_bytes _ rfl _ _ 34 rfl (w.heap.size + 1) 5 i0 Tryz.underlying34 hi hz0 hz1 hz2 _ m l rfl (ho2.alloc _) (w2.heap.size + 1) (some ⟨w2.heap.size,0,none⟩) 1 [1] 1 rfl (BAt.one _ _ _ _ rfl) (by omega) (by simp;omega) ?_;intro v3 w3 ho3 hg3;have hB3 : Below (w.heap.size + 1) (w.alloc (.cells #[.int .i64 1,.int .u64 b,.string t] 155)) w3:=(hB2.alloc hs2 _).grown hg3 (by simp;omega) (own_block ho2);clear hg3))
   clear p1 p2 p3
   obtain ⟨p1,p2,p3⟩:=box_later (by simpa using hB3)
   have hBw : Below w.heap.size w w3:=hB0.trans (hB3.mono (by omega))
   obtain ⟨a3,c3,rfl,_,_,_⟩:=own_form ho3
   have hb3:=BAt.of_own ho3
   go_wp2_with (go_at_call 40;((with_reducible refine (refPut_any a3 (m + 1) c3 b 8 (l ++ [1]) _ hb3 (by omega) hb (by omega) (by omega)).mono ?_);intro e w4 hN);obtain ⟨a4,n4,c4,rfl,ho4,hb4⟩:=hN)
   go_ret
   rw [R.out,T.out]
   exact NewB.wide ⟨a4,n4,c4,rfl,ho4,hb4⟩ hBw (by simp)
  ·have T : Hid (bytesV ⟨2,b,t.data.toList⟩ = [2] ++ textB t.data.toList):=by show bytesV _ = _;simp [bytesV]
   go_enter Tryz.func108,Tryz.ntmps108
   go_upto_region 3 with (at_builtin;(refine wpList_append_bytes _ rfl _ _ 34 rfl (w.heap.size + 1) 5 i0 Tryz.underlying34 hi hz0 hz1 hz2 _ 0 [] rfl (World.ownsRow_nil _ _ _ _) w.heap.size a m l c rfl hlb (by omega) (by simp) ?_;intro v1 w1 ho1 hg1;rw [Nat.zero_add,List.nil_append] at ho1;have hB1 : Below (w.heap.size + 1) (w.alloc (.cells #[.int .i64 2,.int .u64 b,.string t] 155)) w1:=(Below.refl _ _).grown hg1 (by simp) (by intro j hj;cases hj);clear hg1))
   obtain ⟨p1,p2,p3⟩:=box_later (by simpa using hB1)
   have hs1 : w.heap.size + 1≤w1.heap.size:=by have:=hB1.size;simpa using this
   go_upto_region 5 with (go_at_call 123;((with_reducible refine (c1 _).mono ?_);rintro e w2 ⟨rfl,hb2⟩;have hB2 : Below (w.heap.size + 1) (w.alloc (.cells #[.int .i64 2,.int .u64 b,.string t] 155)) w2:=hB1.trans (hb2.mono hs1)))
   have ho2:=own_below ho1 hb2
   clear p1 p2 p3
   obtain ⟨p1,p2,p3⟩:=box_later (by simpa using hB2)
   have hs2 : w.heap.size + 1≤w2.heap.size:=Nat.le_trans hs1 hb2.size
   go_upto_region 6 with (at_builtin;(refine wpList_append_bytes _ rfl _ _ 34 rfl (w.heap.size + 1) 5 i0 Tryz.underlying34 hi hz0 hz1 hz2 _ m l rfl (ho2.alloc _) (w2.heap.size + 1) (some ⟨w2.heap.size,0,none⟩) 1 [2] 1 rfl (BAt.one _ _ _ _ rfl) (by omega) (by simp;omega) ?_;intro v3 w3 ho3 hg3;have hB3 : Below (w.heap.size + 1) (w.alloc (.cells #[.int .i64 2,.int .u64 b,.string t] 155)) w3:=(hB2.alloc hs2 _).grown hg3 (by simp;omega) (own_block ho2);clear hg3))
   clear p1 p2 p3
   obtain ⟨p1,p2,p3⟩:=box_later (by simpa using hB3)
   have hBw : Below w.heap.size w w3:=hB0.trans (hB3.mono (by omega))
   obtain ⟨a3,c3,rfl,_,_,_⟩:=own_form ho3
   have hb3:=BAt.of_own ho3
   go_wp2_with (go_at_call 107;((with_reducible refine (refPutText_any a3 (m + 1) c3 t (l ++ [2]) _ hb3 (by omega) ht).mono ?_);intro e w4 hN);obtain ⟨a4,n4,c4,rfl,ho4,hb4⟩:=hN)
   go_ret
   rw [R.out,T.out]
   exact NewB.wide ⟨a4,n4,c4,rfl,ho4,hb4⟩ hBw (by simp)
end Go.Proofs.YtcfmifongbapkaaGreatDoor
