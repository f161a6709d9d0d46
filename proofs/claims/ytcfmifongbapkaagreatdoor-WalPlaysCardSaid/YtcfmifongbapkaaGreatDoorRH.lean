/- Contract of the document's own Take of values. Conditions: its reader lies in memory as its literal lays it. Plain mathematics: what is put is taken. No condition. Plain mathematics: a value is read out of bytes; what stands behind is left; what is put is taken. -/
import Derived.Test.YtcfmifongbapkaaGreatDoorRF
import Derived.Test.YtcfmifongbapkaaGreatDoorRD
import Derived.Test.YtcfmifongbapkaaGreatDoorValuePut
import Derived.Test.YtcfmifongbapkaaGreatDoorRB
namespace Go.Proofs.YtcfmifongbapkaaGreatDoor
set_option maxHeartbeats 1000000
open Go.RowKit
open Go.Lib (hid)
set_option linter.unusedVariables false
/-- The kind that is next; the value that may be next; how many bytes it has; whether it is there. -/
def tkC (l : List UInt8) : Nat:=numB (l.take 1)
def tkV (l : List UInt8) : Val:=if tkC l = 1 then ⟨1,numB ((l.drop 1).take 8),[]⟩ else if tkC l = 2 then ⟨2,0,((l.drop 1).drop 2).take (textLen (l.drop 1))⟩ else ⟨tkC l,0,[]⟩
def tkN (l : List UInt8) : Nat:=if tkC l = 1 then 1 + 8 else if tkC l = 2 then 1 + 2 + textLen (l.drop 1) else 1
def tkOk (l : List UInt8) : Prop:=1≤l.length∧(tkC l = 1→8≤(l.drop 1).length)∧(tkC l = 2→textOk (l.drop 1) 40)∧formedB (tkV l) = true
theorem tkC_lt (l : List UInt8) : tkC l < 256:=by
 have h:=numB_lt (l.take 1)
 have h2 : 256 ^ (l.take 1).length≤256 ^ 1:=Nat.pow_le_pow_right (by omega) (by simp;omega)
 unfold tkC;omega
theorem num8_lt (l : List UInt8) : numB (l.take 8) < 18446744073709551616:=by
 have h:=numB_lt (l.take 8)
 have h2 : 256 ^ (l.take 8).length≤256 ^ 8:=Nat.pow_le_pow_right (by omega) (by simp;omega)
 omega
/-- What holds while a value is taken: the reader, and the answer's cell. -/
def TW (w W : World) (B g : Nat) (L : List UInt8) (k : Nat) (ok : Bool) : Prop :=
 RefAt W B g L k ok∧Only g w W∧W.heap[w.heap.size]? = some (.cells #[.int .i64 0,.int .u64 0,.string ⟨#[]⟩] 155 (0,0))∧g < w.heap.size
/-- The value that is made up. -/
def VW (W : World) (G : Nat) (k : Int) (b : Nat) (t : ByteArray) : Prop:=W.heap[G]? = some (.cells #[.int .i64 k,.int .u64 (b : Nat),.string t] 155 (0,0))
section
variable {w W W' : World} {B g k k' G : Nat} {L : List UInt8} {ok ok' : Bool} {x : Int} {b : Nat} {t : ByteArray}
theorem TW.start (h : RefAt w B g L k ok) : TW w (w.alloc (.cells #[.int .i64 0,.int .u64 0,.string ⟨#[]⟩] 155)) B g L k ok :=
 ⟨h.keep fun b hb=>Below.heap_alloc _ _ _ (by have:=h.lt;omega),⟨rfl,rfl,rfl,by simp,fun b hb _=>Below.heap_alloc _ _ _ hb⟩,heap_alloc_new _ _,h.lt⟩
theorem TW.ref (h : TW w W B g L k ok) : RefAt W B g L k ok:=h.1
theorem TW.size (h : TW w W B g L k ok) : w.heap.size < W.heap.size:=lt_of_heap h.2.2.1
theorem TW.only (h : TW w W B g L k ok) (hr : RefAt W' B g L k' ok') (ho : Only g W W') : TW w W' B g L k' ok' :=
 ⟨hr,h.2.1.trans ho,(ho.block _ h.size (fun e=>by injection e with e;have:=h.2.2.2;omega)).trans h.2.2.1,h.2.2.2⟩
theorem TW.alloc (h : TW w W B g L k ok) (o : Obj) : TW w (W.alloc o) B g L k ok :=
 h.only (h.1.keep fun b hb=>Below.heap_alloc _ _ _ (by have:=h.1.lt;omega)) ⟨rfl,rfl,rfl,by simp,fun b hb _=>Below.heap_alloc _ _ _ hb⟩
theorem TW.below (h : TW w W B g L k ok) (hb : Below W.heap.size W W') : TW w W' B g L k ok :=
 h.only (h.1.keep fun b hb'=>hb.block _ (by have:=h.1.lt;omega)) ⟨hb.os,hb.tape,hb.output,hb.size,fun b hb' _=>hb.block _ hb'⟩
theorem TW.setNew (h : TW w W B g L k ok) (hG : w.heap.size < G) (i : Nat) (u : Value) : TW w (W.setCell ⟨G,i,none⟩ u) B g L k ok :=
 ⟨h.1.keep fun b hb=>Below.heap_setCell _ _ _ _ (by have:=h.2.2.2;show b≠G;omega),⟨h.2.1.os,h.2.1.tape,h.2.1.output,by have:=h.2.1.size;simpa [World.setCell] using this,fun b hb hne=>(Below.heap_setCell _ _ _ _ (by show b≠G;omega)).trans (h.2.1.block b hb hne)⟩,(Below.heap_setCell _ _ _ _ (by show w.heap.size≠G;omega)).trans h.2.2.1,h.2.2.2⟩
theorem TW.fails (h : TW w W B g L k ok) : TW w (W.setCell ⟨g,2,none⟩ (.bool true)) B g L k false:=h.only h.1.fails (only_set W g 2 _)
theorem VW.only (h : VW W G x b t) (ho : Only g W W') (hG : g≠G) : VW W' G x b t:=(ho.block G (lt_of_heap h) (fun e=>by injection e with e;omega)).trans h
theorem VW.below (h : VW W G x b t) (hb : Below W.heap.size W W') : VW W' G x b t:=(hb.block G (lt_of_heap h)).trans h
theorem VW.set1 {b' : Nat} (h : VW W G x b t) : VW (W.setCell ⟨G,1,none⟩ (.int .u64 (b' : Nat))) G x b' t:=by
 show (W.setCell _ _).heap[G]? = _;rw [set_row h];rfl
theorem VW.set2 {t' : ByteArray} (h : VW W G x b t) : VW (W.setCell ⟨G,2,none⟩ (.string t')) G x b t':=by
 show (W.setCell _ _).heap[G]? = _;rw [set_row h];rfl
theorem TW.out (h : TW w W B g L k ok) (u v z : Value) : RefAt (((W.setCell ⟨w.heap.size,0,none⟩ u).setCell ⟨w.heap.size,1,none⟩ v).setCell ⟨w.heap.size,2,none⟩ z) B g L k ok∧Only g w (((W.setCell ⟨w.heap.size,0,none⟩ u).setCell ⟨w.heap.size,1,none⟩ v).setCell ⟨w.heap.size,2,none⟩ z):=by
 have hb : ∀ b,b < w.heap.size→(((W.setCell ⟨w.heap.size,0,none⟩ u).setCell ⟨w.heap.size,1,none⟩ v).setCell ⟨w.heap.size,2,none⟩ z).heap[b]? = W.heap[b]?:=by
  intro b hb
  rw [Below.heap_setCell _ _ _ _ (by show b≠w.heap.size;omega),Below.heap_setCell _ _ _ _ (by show b≠w.heap.size;omega),Below.heap_setCell _ _ _ _ (by show b≠w.heap.size;omega)]
 have hg:=h.2.2.2
 refine ⟨h.1.keep fun b hb'=>hb b (by omega),⟨h.2.1.os,h.2.1.tape,h.2.1.output,by have:=h.2.1.size;simpa [World.setCell] using this,fun b hb' hne=>(hb b hb').trans (h.2.1.block b hb' hne)⟩⟩
theorem TW.cells (h : TW w W B g L k ok) : W.cell? ⟨w.heap.size,0,none⟩ = some (.int .i64 0)∧W.cell? ⟨w.heap.size,1,none⟩ = some (.int .u64 0)∧W.cell? ⟨w.heap.size,2,none⟩ = some (.string ⟨#[]⟩)∧W.frozen? ⟨w.heap.size,0,none⟩ = false∧W.frozen? ⟨w.heap.size,1,none⟩ = false∧W.frozen? ⟨w.heap.size,2,none⟩ = false:=three_cells h.2.2.1
end
theorem refTake1_yes (B g : Nat) (L : List UInt8) (k : Nat) (w : World) (h : RefAt w B g L k true) (ht : 1≤(L.drop k).length) :
  Calls Tryz.prog 45 #[.pointer (some ⟨g,0,none⟩),.int .i64 1] w fun e w'=>e = .returned (.int .u64 (tkC (L.drop k) : Nat))∧RefAt w' B g L (k + 1) true∧Only g w w':=refTake_yes B g L k 1 w h ht (by omega)
theorem refTake8_yes (B g : Nat) (L : List UInt8) (k : Nat) (w : World) (h : RefAt w B g L (k + 1) true) (ht : 8≤((L.drop k).drop 1).length) :
  Calls Tryz.prog 45 #[.pointer (some ⟨g,0,none⟩),.int .i64 8] w fun e w'=>e = .returned (.int .u64 (numB (((L.drop k).drop 1).take 8) : Nat))∧RefAt w' B g L (k + 1 + 8) true∧Only g w w':=by
 rw [List.drop_drop] at ht ⊢
 exact refTake_yes B g L (k + 1) 8 w h ht (by omega)
/-- A value is answered; the reader has gone on. -/
def TookV (B g : Nat) (L : List UInt8) (k : Nat) (ok : Bool) (v : Val) (w : World) (e : Ending) (w' : World) : Prop :=
 e = .returned (.agg #[.int .i64 v.k,.int .u64 (v.b : Nat),.string ⟨v.t.toArray⟩])∧RefAt w' B g L k ok∧Only g w w'
theorem refTakeV_zero (B g : Nat) (L : List UInt8) (k : Nat) (w : World) (h : RefAt w B g L k true) (h1 : 1≤(L.drop k).length) (hc : tkC (L.drop k) = 0) :
  Calls Tryz.prog 116 #[.pointer (some ⟨g,0,none⟩)] w (TookV B g L (k + 1) true ⟨0,0,[]⟩ w):=by
 have hT0:=hid (TW.start h)
 have hgn : ¬ g = w.heap.size:=by have:=h.lt;omega
 have hgn' : ¬ w.heap.size = g:=by have:=h.lt;omega
 have c1 : ∀ W,RefAt W B g L k true→Calls Tryz.prog 45 #[.pointer (some ⟨g,0,none⟩),.int .i64 1] W fun e w'=>e = .returned (.int .u64 0)∧RefAt w' B g L (k + 1) true∧Only g W w':=fun W hW=>by
  have:=refTake1_yes B g L k W hW h1
  rw [hc] at this;exact this
 have cF : ∀ W,Calls Tryz.prog 123 #[.agg #[.int .i64 0,.int .u64 0,.string ⟨#[]⟩]] W (fun e w'=>e = .returned (.bool true)∧Below W.heap.size W w'):=fun W=>refFormed_any 0 0 ⟨#[]⟩ W (by omega) (by decide)
 clear hc h1
 go_enter Tryz.func116,Tryz.ntmps116
 go_upto_region 2 with (go_at_call 45;((with_reducible refine (c1 _ hT0.out.ref).mono ?_);rintro e w1 ⟨rfl,hr1,ho1⟩))
 have T1:=hT0.out.only hr1 ho1
 have hG:=T1.size
 have T2:=hid (T1.alloc (.cells #[.int .i64 0,.int .u64 0,.string ⟨#[]⟩] 155))
 have V2 : Hid (VW (w1.alloc (.cells #[.int .i64 0,.int .u64 0,.string ⟨#[]⟩] 155)) w1.heap.size 0 0 ⟨#[]⟩):=heap_alloc_new _ _
 clear T1
 generalize w1.alloc (.cells #[.int .i64 0,.int .u64 0,.string ⟨#[]⟩] 155) = W2 at *
 generalize w1.heap.size = G at *
 obtain ⟨x0,x1,x2,xf0,xf1,xf2⟩:=three_cells V2.out
 obtain ⟨fl,ff⟩:=T2.out.ref.flag
 obtain ⟨m0,m1,m2,n0,n1,n2⟩:=T2.out.cells
 have hgG : g≠G:=by have:=T2.out.2.2.2;omega
 go_wp2_with (go_at_call 123;((with_reducible refine (cF _).mono ?_);rintro e w5 ⟨rfl,hb5⟩;have T3:=hid (T2.out.below hb5);have V3:=hid (V2.out.below hb5);clear x0 x1 x2 xf0 xf1 xf2 fl ff m0 m1 m2 n0 n1 n2;obtain ⟨x0,x1,x2,xf0,xf1,xf2⟩:=three_cells V3.out;obtain ⟨fl,ff⟩:=T3.out.ref.flag;obtain ⟨m0,m1,m2,n0,n1,n2⟩:=T3.out.cells))
 exact bodyPost_ret (v:=.agg #[.int .i64 0,.int .u64 0,.string ⟨#[]⟩]) (by simp [results,Tryz.results116,go_sem,m0,m1,m2]) rfl ⟨rfl,(T3.out.out _ _ _).1,(T3.out.out _ _ _).2⟩
theorem refTakeV_none (B g : Nat) (L : List UInt8) (k : Nat) (ok : Bool) (w : World) (h : RefAt w B g L k ok) (hbad : ok = false∨(1 : Int) < 0∨(8 : Int) < 1∨(((L.drop k).length : Nat) : Int) < 1) :
  Calls Tryz.prog 116 #[.pointer (some ⟨g,0,none⟩)] w (TookV B g L k false ⟨0,0,[]⟩ w):=by
 have hT0:=hid (TW.start h)
 have hgn : ¬ g = w.heap.size:=by have:=h.lt;omega
 have hgn' : ¬ w.heap.size = g:=by have:=h.lt;omega
 have c1 : ∀ W,RefAt W B g L k ok→Calls Tryz.prog 45 #[.pointer (some ⟨g,0,none⟩),.int .i64 1] W fun e w'=>e = .returned (.int .u64 0)∧RefAt w' B g L k false∧Only g W w':=fun W hW=>refTake_no B g L k ok 1 W hW hbad
 clear hbad
 go_enter Tryz.func116,Tryz.ntmps116
 go_upto_region 2 with (go_at_call 45;((with_reducible refine (c1 _ hT0.out.ref).mono ?_);rintro e w1 ⟨rfl,hr1,ho1⟩))
 have T1:=hT0.out.only hr1 ho1
 have hG:=T1.size
 have T2:=hid (T1.alloc (.cells #[.int .i64 0,.int .u64 0,.string ⟨#[]⟩] 155))
 have V2 : Hid (VW (w1.alloc (.cells #[.int .i64 0,.int .u64 0,.string ⟨#[]⟩] 155)) w1.heap.size 0 0 ⟨#[]⟩):=heap_alloc_new _ _
 clear T1
 generalize w1.alloc (.cells #[.int .i64 0,.int .u64 0,.string ⟨#[]⟩] 155) = W2 at *
 generalize w1.heap.size = G at *
 obtain ⟨x0,x1,x2,xf0,xf1,xf2⟩:=three_cells V2.out
 obtain ⟨fl,ff⟩:=T2.out.ref.flag
 obtain ⟨m0,m1,m2,n0,n1,n2⟩:=T2.out.cells
 have hgG : g≠G:=by have:=T2.out.2.2.2;omega
 go_wp2
 exact bodyPost_ret (v:=.agg #[.int .i64 0,.int .u64 0,.string ⟨#[]⟩]) (by simp [results,Tryz.results116,go_sem,m0,m1,m2]) rfl ⟨rfl,(T2.out.fails.out _ _ _).1,(T2.out.fails.out _ _ _).2⟩
theorem refTakeV_odd (B g : Nat) (L : List UInt8) (k : Nat) (w : World) (h : RefAt w B g L k true) (h1 : 1≤(L.drop k).length) (c : Nat) (hc : tkC (L.drop k) = c) (hc3 : 3≤c) :
  Calls Tryz.prog 116 #[.pointer (some ⟨g,0,none⟩)] w (TookV B g L (k + 1) false ⟨0,0,[]⟩ w):=by
 have hT0:=hid (TW.start h)
 have hgn : ¬ g = w.heap.size:=by have:=h.lt;omega
 have hgn' : ¬ w.heap.size = g:=by have:=h.lt;omega
 have c1 : ∀ W,RefAt W B g L k true→Calls Tryz.prog 45 #[.pointer (some ⟨g,0,none⟩),.int .i64 1] W fun e w'=>e = .returned (.int .u64 (c : Nat))∧RefAt w' B g L (k + 1) true∧Only g W w':=fun W hW=>by
  have:=refTake1_yes B g L k W hW h1
  rw [hc] at this;exact this
 have hc256 : c < 256:=by rw [← hc];exact tkC_lt _
 have cF : ∀ W,Calls Tryz.prog 123 #[.agg #[.int .i64 (c : Nat),.int .u64 0,.string ⟨#[]⟩]] W (fun e w'=>e = .returned (.bool false)∧Below W.heap.size W w'):=fun W=>by
  have:=refFormed_any (c : Nat) 0 ⟨#[]⟩ W (by omega) (by decide)
  rw [formed_other (c : Nat) 0 _ (by omega) (by omega) (by omega)] at this
  exact this
 have q1 : ((c : Int) == 1) = false:=by simp;omega
 have q2 : ((c : Int) == 2) = false:=by simp;omega
 clear hc h1
 go_enter Tryz.func116,Tryz.ntmps116
 go_upto_region 2 with (go_at_call 45;((with_reducible refine (c1 _ hT0.out.ref).mono ?_);rintro e w1 ⟨rfl,hr1,ho1⟩))
 have T1:=hT0.out.only hr1 ho1
 have hG:=T1.size
 have T2:=hid (T1.alloc (.cells #[.int .i64 (c : Nat),.int .u64 0,.string ⟨#[]⟩] 155))
 have V2 : Hid (VW (w1.alloc (.cells #[.int .i64 (c : Nat),.int .u64 0,.string ⟨#[]⟩] 155)) w1.heap.size (c : Nat) 0 ⟨#[]⟩):=heap_alloc_new _ _
 clear T1
 generalize w1.alloc (.cells #[.int .i64 (c : Nat),.int .u64 0,.string ⟨#[]⟩] 155) = W2 at *
 generalize w1.heap.size = G at *
 obtain ⟨x0,x1,x2,xf0,xf1,xf2⟩:=three_cells V2.out
 obtain ⟨fl,ff⟩:=T2.out.ref.flag
 obtain ⟨m0,m1,m2,n0,n1,n2⟩:=T2.out.cells
 have hgG : g≠G:=by have:=T2.out.2.2.2;omega
 go_wp2_with (go_at_call 123;((with_reducible refine (cF _).mono ?_);rintro e w5 ⟨rfl,hb5⟩;have T3:=hid (T2.out.below hb5);have V3:=hid (V2.out.below hb5);clear x0 x1 x2 xf0 xf1 xf2 fl ff m0 m1 m2 n0 n1 n2;obtain ⟨x0,x1,x2,xf0,xf1,xf2⟩:=three_cells V3.out;obtain ⟨fl,ff⟩:=T3.out.ref.flag;obtain ⟨m0,m1,m2,n0,n1,n2⟩:=T3.out.cells))
 exact bodyPost_ret (v:=.agg #[.int .i64 0,.int .u64 0,.string ⟨#[]⟩]) (by simp [results,Tryz.results116,go_sem,m0,m1,m2]) rfl ⟨rfl,(T3.out.fails.out _ _ _).1,(T3.out.fails.out _ _ _).2⟩
theorem refTakeV_num_yes (B g : Nat) (L : List UInt8) (k : Nat) (w : World) (h : RefAt w B g L k true) (h1 : 1≤(L.drop k).length) (hc : tkC (L.drop k) = 1) (h8 : 8≤((L.drop k).drop 1).length) (x : Nat) (hx : numB (((L.drop k).drop 1).take 8) = x) (hf : formedB ⟨1,x,[]⟩ = true) :
  Calls Tryz.prog 116 #[.pointer (some ⟨g,0,none⟩)] w (TookV B g L (k + 1 + 8) true ⟨1,x,[]⟩ w):=by
 have hT0:=hid (TW.start h)
 have hgn : ¬ g = w.heap.size:=by have:=h.lt;omega
 have hgn' : ¬ w.heap.size = g:=by have:=h.lt;omega
 have c1 : ∀ W,RefAt W B g L k true→Calls Tryz.prog 45 #[.pointer (some ⟨g,0,none⟩),.int .i64 1] W fun e w'=>e = .returned (.int .u64 1)∧RefAt w' B g L (k + 1) true∧Only g W w':=fun W hW=>by
  have:=refTake1_yes B g L k W hW h1
  rw [hc] at this;exact this
 have hxl : x < 18446744073709551616:=by rw [← hx];exact num8_lt _
 have c8 : ∀ W,RefAt W B g L (k + 1) true→Calls Tryz.prog 45 #[.pointer (some ⟨g,0,none⟩),.int .i64 8] W fun e w'=>e = .returned (.int .u64 (x : Nat))∧RefAt w' B g L (k + 1 + 8) true∧Only g W w':=fun W hW=>by
  have:=refTake8_yes B g L k W hW h8
  rw [hx] at this;exact this
 have cF : ∀ W,Calls Tryz.prog 123 #[.agg #[.int .i64 1,.int .u64 (x : Nat),.string ⟨#[]⟩]] W (fun e w'=>e = .returned (.bool true)∧Below W.heap.size W w'):=fun W=>by
  have:=refFormed_any 1 x ⟨#[]⟩ W hxl (by decide)
  rw [show formedB ⟨1,x,(⟨#[]⟩ : ByteArray).data.toList⟩ = true from hf] at this
  exact this
 clear hc h1 h8 hx hf
 go_enter Tryz.func116,Tryz.ntmps116
 go_upto_region 2 with (go_at_call 45;((with_reducible refine (c1 _ hT0.out.ref).mono ?_);rintro e w1 ⟨rfl,hr1,ho1⟩))
 have T1:=hT0.out.only hr1 ho1
 have hG:=T1.size
 have T2:=hid (T1.alloc (.cells #[.int .i64 1,.int .u64 0,.string ⟨#[]⟩] 155))
 have V2 : Hid (VW (w1.alloc (.cells #[.int .i64 1,.int .u64 0,.string ⟨#[]⟩] 155)) w1.heap.size 1 0 ⟨#[]⟩):=heap_alloc_new _ _
 clear T1
 generalize w1.alloc (.cells #[.int .i64 1,.int .u64 0,.string ⟨#[]⟩] 155) = W2 at *
 generalize w1.heap.size = G at *
 obtain ⟨x0,x1,x2,xf0,xf1,xf2⟩:=three_cells V2.out
 obtain ⟨fl,ff⟩:=T2.out.ref.flag
 obtain ⟨m0,m1,m2,n0,n1,n2⟩:=T2.out.cells
 have hgG : g≠G:=by have:=T2.out.2.2.2;omega
 go_upto_region 6 with (go_at_call 45;((with_reducible refine (c8 _ T2.out.ref).mono ?_);rintro e w3 ⟨rfl,hr3,ho3⟩;have V3:=V2.out.only ho3 hgG;obtain ⟨y0,y1,y2,yf0,yf1,yf2⟩:=three_cells V3))
 have T3:=T2.out.only hr3 ho3
 have T4:=hid (T3.setNew hG 1 (.int .u64 (x : Nat)))
 have V4 : Hid (VW (w3.setCell ⟨G,1,none⟩ (.int .u64 (x : Nat))) G 1 x ⟨#[]⟩):=(V2.out.only ho3 hgG).set1
 clear T3 V3 y0 y1 y2 yf0 yf1 yf2 x0 x1 x2 xf0 xf1 xf2 fl ff m0 m1 m2 n0 n1 n2
 generalize w3.setCell ⟨G,1,none⟩ (.int .u64 (x : Nat)) = W4 at *
 obtain ⟨x0,x1,x2,xf0,xf1,xf2⟩:=three_cells V4.out
 obtain ⟨fl,ff⟩:=T4.out.ref.flag
 obtain ⟨m0,m1,m2,n0,n1,n2⟩:=T4.out.cells
 go_wp2_with (go_at_call 123;((with_reducible refine (cF _).mono ?_);rintro e w5 ⟨rfl,hb5⟩;have T5:=hid (T4.out.below hb5);have V5:=hid (V4.out.below hb5);clear x0 x1 x2 xf0 xf1 xf2 fl ff m0 m1 m2 n0 n1 n2;obtain ⟨x0,x1,x2,xf0,xf1,xf2⟩:=three_cells V5.out;obtain ⟨fl,ff⟩:=T5.out.ref.flag;obtain ⟨m0,m1,m2,n0,n1,n2⟩:=T5.out.cells))
 exact bodyPost_ret (v:=.agg #[.int .i64 1,.int .u64 (x : Nat),.string ⟨#[]⟩]) (by simp [results,Tryz.results116,go_sem,m0,m1,m2]) rfl ⟨rfl,(T5.out.out _ _ _).1,(T5.out.out _ _ _).2⟩
theorem refTakeV_num_odd (B g : Nat) (L : List UInt8) (k : Nat) (w : World) (h : RefAt w B g L k true) (h1 : 1≤(L.drop k).length) (hc : tkC (L.drop k) = 1) (h8 : 8≤((L.drop k).drop 1).length) (x : Nat) (hx : numB (((L.drop k).drop 1).take 8) = x) (hf : formedB ⟨1,x,[]⟩ = false) :
  Calls Tryz.prog 116 #[.pointer (some ⟨g,0,none⟩)] w (TookV B g L (k + 1 + 8) false ⟨0,0,[]⟩ w):=by
 have hT0:=hid (TW.start h)
 have hgn : ¬ g = w.heap.size:=by have:=h.lt;omega
 have hgn' : ¬ w.heap.size = g:=by have:=h.lt;omega
 have c1 : ∀ W,RefAt W B g L k true→Calls Tryz.prog 45 #[.pointer (some ⟨g,0,none⟩),.int .i64 1] W fun e w'=>e = .returned (.int .u64 1)∧RefAt w' B g L (k + 1) true∧Only g W w':=fun W hW=>by
  have:=refTake1_yes B g L k W hW h1
  rw [hc] at this;exact this
 have hxl : x < 18446744073709551616:=by rw [← hx];exact num8_lt _
 have c8 : ∀ W,RefAt W B g L (k + 1) true→Calls Tryz.prog 45 #[.pointer (some ⟨g,0,none⟩),.int .i64 8] W fun e w'=>e = .returned (.int .u64 (x : Nat))∧RefAt w' B g L (k + 1 + 8) true∧Only g W w':=fun W hW=>by
  have:=refTake8_yes B g L k W hW h8
  rw [hx] at this;exact this
 have cF : ∀ W,Calls Tryz.prog 123 #[.agg #[.int .i64 1,.int .u64 (x : Nat),.string ⟨#[]⟩]] W (fun e w'=>e = .returned (.bool false)∧Below W.heap.size W w'):=fun W=>by
  have:=refFormed_any 1 x ⟨#[]⟩ W hxl (by decide)
  rw [show formedB ⟨1,x,(⟨#[]⟩ : ByteArray).data.toList⟩ = false from hf] at this
  exact this
 clear hc h1 h8 hx hf
 go_enter Tryz.func116,Tryz.ntmps116
 go_upto_region 2 with (go_at_call 45;((with_reducible refine (c1 _ hT0.out.ref).mono ?_);rintro e w1 ⟨rfl,hr1,ho1⟩))
 have T1:=hT0.out.only hr1 ho1
 have hG:=T1.size
 have T2:=hid (T1.alloc (.cells #[.int .i64 1,.int .u64 0,.string ⟨#[]⟩] 155))
 have V2 : Hid (VW (w1.alloc (.cells #[.int .i64 1,.int .u64 0,.string ⟨#[]⟩] 155)) w1.heap.size 1 0 ⟨#[]⟩):=heap_alloc_new _ _
 clear T1
 generalize w1.alloc (.cells #[.int .i64 1,.int .u64 0,.string ⟨#[]⟩] 155) = W2 at *
 generalize w1.heap.size = G at *
 obtain ⟨x0,x1,x2,xf0,xf1,xf2⟩:=three_cells V2.out
 obtain ⟨fl,ff⟩:=T2.out.ref.flag
 obtain ⟨m0,m1,m2,n0,n1,n2⟩:=T2.out.cells
 have hgG : g≠G:=by have:=T2.out.2.2.2;omega
 go_upto_region 6 with (go_at_call 45;((with_reducible refine (c8 _ T2.out.ref).mono ?_);rintro e w3 ⟨rfl,hr3,ho3⟩;have V3:=V2.out.only ho3 hgG;obtain ⟨y0,y1,y2,yf0,yf1,yf2⟩:=three_cells V3))
 have T3:=T2.out.only hr3 ho3
 have T4:=hid (T3.setNew hG 1 (.int .u64 (x : Nat)))
 have V4 : Hid (VW (w3.setCell ⟨G,1,none⟩ (.int .u64 (x : Nat))) G 1 x ⟨#[]⟩):=(V2.out.only ho3 hgG).set1
 clear T3 V3 y0 y1 y2 yf0 yf1 yf2 x0 x1 x2 xf0 xf1 xf2 fl ff m0 m1 m2 n0 n1 n2
 generalize w3.setCell ⟨G,1,none⟩ (.int .u64 (x : Nat)) = W4 at *
 obtain ⟨x0,x1,x2,xf0,xf1,xf2⟩:=three_cells V4.out
 obtain ⟨fl,ff⟩:=T4.out.ref.flag
 obtain ⟨m0,m1,m2,n0,n1,n2⟩:=T4.out.cells
 go_wp2_with (go_at_call 123;((with_reducible refine (cF _).mono ?_);rintro e w5 ⟨rfl,hb5⟩;have T5:=hid (T4.out.below hb5);have V5:=hid (V4.out.below hb5);clear x0 x1 x2 xf0 xf1 xf2 fl ff m0 m1 m2 n0 n1 n2;obtain ⟨x0,x1,x2,xf0,xf1,xf2⟩:=three_cells V5.out;obtain ⟨fl,ff⟩:=T5.out.ref.flag;obtain ⟨m0,m1,m2,n0,n1,n2⟩:=T5.out.cells))
 exact bodyPost_ret (v:=.agg #[.int .i64 0,.int .u64 0,.string ⟨#[]⟩]) (by simp [results,Tryz.results116,go_sem,m0,m1,m2]) rfl ⟨rfl,(T5.out.fails.out _ _ _).1,(T5.out.fails.out _ _ _).2⟩
theorem refTakeV_num_no (B g : Nat) (L : List UInt8) (k : Nat) (w : World) (h : RefAt w B g L k true) (h1 : 1≤(L.drop k).length) (hc : tkC (L.drop k) = 1) (h8 : ¬ 8≤((L.drop k).drop 1).length) :
  Calls Tryz.prog 116 #[.pointer (some ⟨g,0,none⟩)] w (TookV B g L (k + 1) false ⟨0,0,[]⟩ w):=by
 have hT0:=hid (TW.start h)
 have hgn : ¬ g = w.heap.size:=by have:=h.lt;omega
 have hgn' : ¬ w.heap.size = g:=by have:=h.lt;omega
 have c1 : ∀ W,RefAt W B g L k true→Calls Tryz.prog 45 #[.pointer (some ⟨g,0,none⟩),.int .i64 1] W fun e w'=>e = .returned (.int .u64 1)∧RefAt w' B g L (k + 1) true∧Only g W w':=fun W hW=>by
  have:=refTake1_yes B g L k W hW h1
  rw [hc] at this;exact this
 have c8 : ∀ W,RefAt W B g L (k + 1) true→Calls Tryz.prog 45 #[.pointer (some ⟨g,0,none⟩),.int .i64 8] W fun e w'=>e = .returned (.int .u64 0)∧RefAt w' B g L (k + 1) false∧Only g W w':=fun W hW=>refTake_no B g L (k + 1) true 8 W hW (.inr (.inr (.inr (by rw [List.drop_drop] at h8;omega))))
 clear hc h1 h8
 go_enter Tryz.func116,Tryz.ntmps116
 go_upto_region 2 with (go_at_call 45;((with_reducible refine (c1 _ hT0.out.ref).mono ?_);rintro e w1 ⟨rfl,hr1,ho1⟩))
 have T1:=hT0.out.only hr1 ho1
 have hG:=T1.size
 have T2:=hid (T1.alloc (.cells #[.int .i64 1,.int .u64 0,.string ⟨#[]⟩] 155))
 have V2 : Hid (VW (w1.alloc (.cells #[.int .i64 1,.int .u64 0,.string ⟨#[]⟩] 155)) w1.heap.size 1 0 ⟨#[]⟩):=heap_alloc_new _ _
 clear T1
 generalize w1.alloc (.cells #[.int .i64 1,.int .u64 0,.string ⟨#[]⟩] 155) = W2 at *
 generalize w1.heap.size = G at *
 obtain ⟨x0,x1,x2,xf0,xf1,xf2⟩:=three_cells V2.out
 obtain ⟨fl,ff⟩:=T2.out.ref.flag
 obtain ⟨m0,m1,m2,n0,n1,n2⟩:=T2.out.cells
 have hgG : g≠G:=by have:=T2.out.2.2.2;omega
 go_upto_region 6 with (go_at_call 45;((with_reducible refine (c8 _ T2.out.ref).mono ?_);rintro e w3 ⟨rfl,hr3,ho3⟩;have V3:=V2.out.only ho3 hgG;obtain ⟨y0,y1,y2,yf0,yf1,yf2⟩:=three_cells V3))
 have T3:=T2.out.only hr3 ho3
 have T4:=hid (T3.setNew hG 1 (.int .u64 0))
 have V4 : Hid (VW (w3.setCell ⟨G,1,none⟩ (.int .u64 0)) G 1 0 ⟨#[]⟩):=(V2.out.only ho3 hgG).set1
 clear T3 V3 y0 y1 y2 yf0 yf1 yf2 x0 x1 x2 xf0 xf1 xf2 fl ff m0 m1 m2 n0 n1 n2
 generalize w3.setCell ⟨G,1,none⟩ (.int .u64 0) = W4 at *
 obtain ⟨x0,x1,x2,xf0,xf1,xf2⟩:=three_cells V4.out
 obtain ⟨fl,ff⟩:=T4.out.ref.flag
 obtain ⟨m0,m1,m2,n0,n1,n2⟩:=T4.out.cells
 go_wp2
 exact bodyPost_ret (v:=.agg #[.int .i64 0,.int .u64 0,.string ⟨#[]⟩]) (by simp [results,Tryz.results116,go_sem,m0,m1,m2]) rfl ⟨rfl,(T4.out.fails.out _ _ _).1,(T4.out.fails.out _ _ _).2⟩
theorem refTakeV_text_yes (B g : Nat) (L : List UInt8) (k : Nat) (w : World) (h : RefAt w B g L k true) (h1 : 1≤(L.drop k).length) (hc : tkC (L.drop k) = 2) (hT : textOk ((L.drop k).drop 1) 40) (y : ByteArray) (hy : (((L.drop k).drop 1).drop 2).take (textLen ((L.drop k).drop 1)) = y.data.toList) (hf : formedB ⟨2,0,y.data.toList⟩ = true) :
  Calls Tryz.prog 116 #[.pointer (some ⟨g,0,none⟩)] w (TookV B g L (k + 1 + 2 + textLen ((L.drop k).drop 1)) true ⟨2,0,y.data.toList⟩ w):=by
 have hT0:=hid (TW.start h)
 have hgn : ¬ g = w.heap.size:=by have:=h.lt;omega
 have hgn' : ¬ w.heap.size = g:=by have:=h.lt;omega
 have c1 : ∀ W,RefAt W B g L k true→Calls Tryz.prog 45 #[.pointer (some ⟨g,0,none⟩),.int .i64 1] W fun e w'=>e = .returned (.int .u64 2)∧RefAt w' B g L (k + 1) true∧Only g W w':=fun W hW=>by
  have:=refTake1_yes B g L k W hW h1
  rw [hc] at this;exact this
 have hyl : y.size≤40:=by
  have h40:=hT.2.1
  have : y.data.toList.length≤textLen ((L.drop k).drop 1):=by rw [← hy];exact List.length_take_le _ _
  rw [Array.length_toList] at this
  have : y.size≤textLen ((L.drop k).drop 1):=this
  omega
 have c8 : ∀ W,RefAt W B g L (k + 1) true→Calls Tryz.prog 115 #[.pointer (some ⟨g,0,none⟩),.int .i64 40] W fun e w'=>e = .returned (.string y)∧RefAt w' B g L (k + 1 + 2 + textLen ((L.drop k).drop 1)) true∧Only g W w':=fun W hW=>by
  have:=refTakeText_yes B g L (k + 1) 40 W hW (by rw [← List.drop_drop];exact hT)
  rw [← List.drop_drop,hy,← str_eq rfl] at this
  exact this
 have cF : ∀ W,Calls Tryz.prog 123 #[.agg #[.int .i64 2,.int .u64 0,.string y]] W (fun e w'=>e = .returned (.bool true)∧Below W.heap.size W w'):=fun W=>by
  have:=refFormed_any 2 0 y W (by omega) (by unfold maxLen;omega)
  rw [hf] at this
  exact this
 clear hc h1 hT hy hf
 generalize k + 1 + 2 + textLen ((L.drop k).drop 1) = kn at *
 go_enter Tryz.func116,Tryz.ntmps116
 go_upto_region 2 with (go_at_call 45;((with_reducible refine (c1 _ hT0.out.ref).mono ?_);rintro e w1 ⟨rfl,hr1,ho1⟩))
 have T1:=hT0.out.only hr1 ho1
 have hG:=T1.size
 have T2:=hid (T1.alloc (.cells #[.int .i64 2,.int .u64 0,.string ⟨#[]⟩] 155))
 have V2 : Hid (VW (w1.alloc (.cells #[.int .i64 2,.int .u64 0,.string ⟨#[]⟩] 155)) w1.heap.size 2 0 ⟨#[]⟩):=heap_alloc_new _ _
 clear T1
 generalize w1.alloc (.cells #[.int .i64 2,.int .u64 0,.string ⟨#[]⟩] 155) = W2 at *
 generalize w1.heap.size = G at *
 obtain ⟨x0,x1,x2,xf0,xf1,xf2⟩:=three_cells V2.out
 obtain ⟨fl,ff⟩:=T2.out.ref.flag
 obtain ⟨m0,m1,m2,n0,n1,n2⟩:=T2.out.cells
 have hgG : g≠G:=by have:=T2.out.2.2.2;omega
 go_upto_region 6 with (go_at_call 115;((with_reducible refine (c8 _ T2.out.ref).mono ?_);rintro e w3 ⟨rfl,hr3,ho3⟩;have V3:=V2.out.only ho3 hgG;obtain ⟨y0,y1,y2,yf0,yf1,yf2⟩:=three_cells V3))
 have T3:=T2.out.only hr3 ho3
 have T4:=hid (T3.setNew hG 2 (.string y))
 have V4 : Hid (VW (w3.setCell ⟨G,2,none⟩ (.string y)) G 2 0 y):=(V2.out.only ho3 hgG).set2
 clear T3 V3 y0 y1 y2 yf0 yf1 yf2 x0 x1 x2 xf0 xf1 xf2 fl ff m0 m1 m2 n0 n1 n2
 generalize w3.setCell ⟨G,2,none⟩ (.string y) = W4 at *
 obtain ⟨x0,x1,x2,xf0,xf1,xf2⟩:=three_cells V4.out
 obtain ⟨fl,ff⟩:=T4.out.ref.flag
 obtain ⟨m0,m1,m2,n0,n1,n2⟩:=T4.out.cells
 go_wp2_with (go_at_call 123;((with_reducible refine (cF _).mono ?_);rintro e w5 ⟨rfl,hb5⟩;have T5:=hid (T4.out.below hb5);have V5:=hid (V4.out.below hb5);clear x0 x1 x2 xf0 xf1 xf2 fl ff m0 m1 m2 n0 n1 n2;obtain ⟨x0,x1,x2,xf0,xf1,xf2⟩:=three_cells V5.out;obtain ⟨fl,ff⟩:=T5.out.ref.flag;obtain ⟨m0,m1,m2,n0,n1,n2⟩:=T5.out.cells))
 exact bodyPost_ret (v:=.agg #[.int .i64 2,.int .u64 0,.string y]) (by simp [results,Tryz.results116,go_sem,m0,m1,m2]) rfl ⟨by show _ = Ending.returned (.agg #[_,_,.string ⟨y.data.toList.toArray⟩]);rw [← str_eq rfl];rfl,(T5.out.out _ _ _).1,(T5.out.out _ _ _).2⟩
theorem refTakeV_text_odd (B g : Nat) (L : List UInt8) (k : Nat) (w : World) (h : RefAt w B g L k true) (h1 : 1≤(L.drop k).length) (hc : tkC (L.drop k) = 2) (hT : textOk ((L.drop k).drop 1) 40) (y : ByteArray) (hy : (((L.drop k).drop 1).drop 2).take (textLen ((L.drop k).drop 1)) = y.data.toList) (hf : formedB ⟨2,0,y.data.toList⟩ = false) :
  Calls Tryz.prog 116 #[.pointer (some ⟨g,0,none⟩)] w (TookV B g L (k + 1 + 2 + textLen ((L.drop k).drop 1)) false ⟨0,0,[]⟩ w):=by
 have hT0:=hid (TW.start h)
 have hgn : ¬ g = w.heap.size:=by have:=h.lt;omega
 have hgn' : ¬ w.heap.size = g:=by have:=h.lt;omega
 have c1 : ∀ W,RefAt W B g L k true→Calls Tryz.prog 45 #[.pointer (some ⟨g,0,none⟩),.int .i64 1] W fun e w'=>e = .returned (.int .u64 2)∧RefAt w' B g L (k + 1) true∧Only g W w':=fun W hW=>by
  have:=refTake1_yes B g L k W hW h1
  rw [hc] at this;exact this
 have hyl : y.size≤40:=by
  have h40:=hT.2.1
  have : y.data.toList.length≤textLen ((L.drop k).drop 1):=by rw [← hy];exact List.length_take_le _ _
  rw [Array.length_toList] at this
  have : y.size≤textLen ((L.drop k).drop 1):=this
  omega
 have c8 : ∀ W,RefAt W B g L (k + 1) true→Calls Tryz.prog 115 #[.pointer (some ⟨g,0,none⟩),.int .i64 40] W fun e w'=>e = .returned (.string y)∧RefAt w' B g L (k + 1 + 2 + textLen ((L.drop k).drop 1)) true∧Only g W w':=fun W hW=>by
  have:=refTakeText_yes B g L (k + 1) 40 W hW (by rw [← List.drop_drop];exact hT)
  rw [← List.drop_drop,hy,← str_eq rfl] at this
  exact this
 have cF : ∀ W,Calls Tryz.prog 123 #[.agg #[.int .i64 2,.int .u64 0,.string y]] W (fun e w'=>e = .returned (.bool false)∧Below W.heap.size W w'):=fun W=>by
  have:=refFormed_any 2 0 y W (by omega) (by unfold maxLen;omega)
  rw [hf] at this
  exact this
 clear hc h1 hT hy hf
 generalize k + 1 + 2 + textLen ((L.drop k).drop 1) = kn at *
 go_enter Tryz.func116,Tryz.ntmps116
 go_upto_region 2 with (go_at_call 45;((with_reducible refine (c1 _ hT0.out.ref).mono ?_);rintro e w1 ⟨rfl,hr1,ho1⟩))
 have T1:=hT0.out.only hr1 ho1
 have hG:=T1.size
 have T2:=hid (T1.alloc (.cells #[.int .i64 2,.int .u64 0,.string ⟨#[]⟩] 155))
 have V2 : Hid (VW (w1.alloc (.cells #[.int .i64 2,.int .u64 0,.string ⟨#[]⟩] 155)) w1.heap.size 2 0 ⟨#[]⟩):=heap_alloc_new _ _
 clear T1
 generalize w1.alloc (.cells #[.int .i64 2,.int .u64 0,.string ⟨#[]⟩] 155) = W2 at *
 generalize w1.heap.size = G at *
 obtain ⟨x0,x1,x2,xf0,xf1,xf2⟩:=three_cells V2.out
 obtain ⟨fl,ff⟩:=T2.out.ref.flag
 obtain ⟨m0,m1,m2,n0,n1,n2⟩:=T2.out.cells
 have hgG : g≠G:=by have:=T2.out.2.2.2;omega
 go_upto_region 6 with (go_at_call 115;((with_reducible refine (c8 _ T2.out.ref).mono ?_);rintro e w3 ⟨rfl,hr3,ho3⟩;have V3:=V2.out.only ho3 hgG;obtain ⟨y0,y1,y2,yf0,yf1,yf2⟩:=three_cells V3))
 have T3:=T2.out.only hr3 ho3
 have T4:=hid (T3.setNew hG 2 (.string y))
 have V4 : Hid (VW (w3.setCell ⟨G,2,none⟩ (.string y)) G 2 0 y):=(V2.out.only ho3 hgG).set2
 clear T3 V3 y0 y1 y2 yf0 yf1 yf2 x0 x1 x2 xf0 xf1 xf2 fl ff m0 m1 m2 n0 n1 n2
 generalize w3.setCell ⟨G,2,none⟩ (.string y) = W4 at *
 obtain ⟨x0,x1,x2,xf0,xf1,xf2⟩:=three_cells V4.out
 obtain ⟨fl,ff⟩:=T4.out.ref.flag
 obtain ⟨m0,m1,m2,n0,n1,n2⟩:=T4.out.cells
 go_wp2_with (go_at_call 123;((with_reducible refine (cF _).mono ?_);rintro e w5 ⟨rfl,hb5⟩;have T5:=hid (T4.out.below hb5);have V5:=hid (V4.out.below hb5);clear x0 x1 x2 xf0 xf1 xf2 fl ff m0 m1 m2 n0 n1 n2;obtain ⟨x0,x1,x2,xf0,xf1,xf2⟩:=three_cells V5.out;obtain ⟨fl,ff⟩:=T5.out.ref.flag;obtain ⟨m0,m1,m2,n0,n1,n2⟩:=T5.out.cells))
 exact bodyPost_ret (v:=.agg #[.int .i64 0,.int .u64 0,.string ⟨#[]⟩]) (by simp [results,Tryz.results116,go_sem,m0,m1,m2]) rfl ⟨rfl,(T5.out.fails.out _ _ _).1,(T5.out.fails.out _ _ _).2⟩
theorem refTakeV_text_no (B g : Nat) (L : List UInt8) (k : Nat) (w : World) (h : RefAt w B g L k true) (h1 : 1≤(L.drop k).length) (hc : tkC (L.drop k) = 2) (hT : ¬ textOk ((L.drop k).drop 1) 40) :
  Calls Tryz.prog 116 #[.pointer (some ⟨g,0,none⟩)] w (fun e w' => ∃ k',TookV B g L k' false ⟨0,0,[]⟩ w e w'):=by
 have hT0:=hid (TW.start h)
 have hgn : ¬ g = w.heap.size:=by have:=h.lt;omega
 have hgn' : ¬ w.heap.size = g:=by have:=h.lt;omega
 have c1 : ∀ W,RefAt W B g L k true→Calls Tryz.prog 45 #[.pointer (some ⟨g,0,none⟩),.int .i64 1] W fun e w'=>e = .returned (.int .u64 2)∧RefAt w' B g L (k + 1) true∧Only g W w':=fun W hW=>by
  have:=refTake1_yes B g L k W hW h1
  rw [hc] at this;exact this
 have c8 : ∀ W,RefAt W B g L (k + 1) true→Calls Tryz.prog 115 #[.pointer (some ⟨g,0,none⟩),.int .i64 40] W fun e w'=>e = .returned (.string ⟨#[]⟩)∧(∃ k',RefAt w' B g L k' false)∧Only g W w':=fun W hW=>refTakeText_no B g L (k + 1) true 40 W hW (fun ⟨_,e⟩=>hT (by rw [← List.drop_drop] at e;exact e))
 clear hc h1 hT
 go_enter Tryz.func116,Tryz.ntmps116
 go_upto_region 2 with (go_at_call 45;((with_reducible refine (c1 _ hT0.out.ref).mono ?_);rintro e w1 ⟨rfl,hr1,ho1⟩))
 have T1:=hT0.out.only hr1 ho1
 have hG:=T1.size
 have T2:=hid (T1.alloc (.cells #[.int .i64 2,.int .u64 0,.string ⟨#[]⟩] 155))
 have V2 : Hid (VW (w1.alloc (.cells #[.int .i64 2,.int .u64 0,.string ⟨#[]⟩] 155)) w1.heap.size 2 0 ⟨#[]⟩):=heap_alloc_new _ _
 clear T1
 generalize w1.alloc (.cells #[.int .i64 2,.int .u64 0,.string ⟨#[]⟩] 155) = W2 at *
 generalize w1.heap.size = G at *
 obtain ⟨x0,x1,x2,xf0,xf1,xf2⟩:=three_cells V2.out
 obtain ⟨fl,ff⟩:=T2.out.ref.flag
 obtain ⟨m0,m1,m2,n0,n1,n2⟩:=T2.out.cells
 have hgG : g≠G:=by have:=T2.out.2.2.2;omega
 go_upto_region 6 with (go_at_call 115;((with_reducible refine (c8 _ T2.out.ref).mono ?_);rintro e w3 ⟨rfl,⟨k',hr3⟩,ho3⟩;have V3:=V2.out.only ho3 hgG;obtain ⟨y0,y1,y2,yf0,yf1,yf2⟩:=three_cells V3))
 have T3:=T2.out.only hr3 ho3
 have T4:=hid (T3.setNew hG 2 (.string ⟨#[]⟩))
 have V4 : Hid (VW (w3.setCell ⟨G,2,none⟩ (.string ⟨#[]⟩)) G 2 0 ⟨#[]⟩):=(V2.out.only ho3 hgG).set2
 clear T3 V3 y0 y1 y2 yf0 yf1 yf2 x0 x1 x2 xf0 xf1 xf2 fl ff m0 m1 m2 n0 n1 n2
 generalize w3.setCell ⟨G,2,none⟩ (.string ⟨#[]⟩) = W4 at *
 obtain ⟨x0,x1,x2,xf0,xf1,xf2⟩:=three_cells V4.out
 obtain ⟨fl,ff⟩:=T4.out.ref.flag
 obtain ⟨m0,m1,m2,n0,n1,n2⟩:=T4.out.cells
 go_wp2
 exact bodyPost_ret (v:=.agg #[.int .i64 0,.int .u64 0,.string ⟨#[]⟩]) (by simp [results,Tryz.results116,go_sem,m0,m1,m2]) rfl ⟨k',rfl,(T4.out.fails.out _ _ _).1,(T4.out.fails.out _ _ _).2⟩
/-- What is taken, whatever is next. -/
theorem refTakeV_yes (B g : Nat) (L : List UInt8) (k : Nat) (w : World) (h : RefAt w B g L k true) (hk : tkOk (L.drop k)) :
  Calls Tryz.prog 116 #[.pointer (some ⟨g,0,none⟩)] w (TookV B g L (k + tkN (L.drop k)) true (tkV (L.drop k)) w):=by
 obtain ⟨h1,h8,hT,hf⟩:=hk
 by_cases c1 : tkC (L.drop k) = 1
 ·have ev : tkV (L.drop k) = ⟨1,numB (((L.drop k).drop 1).take 8),[]⟩:=by simp [tkV,c1]
  have en : tkN (L.drop k) = 1 + 8:=by simp [tkN,c1]
  rw [ev] at hf ⊢
  rw [en,← Nat.add_assoc]
  exact refTakeV_num_yes B g L k w h h1 c1 (h8 c1) _ rfl hf
 ·by_cases c2 : tkC (L.drop k) = 2
  ·have ev : tkV (L.drop k) = ⟨2,0,(((L.drop k).drop 1).drop 2).take (textLen ((L.drop k).drop 1))⟩:=by simp [tkV,c2]
   have en : tkN (L.drop k) = 1 + 2 + textLen ((L.drop k).drop 1):=by simp [tkN,c2]
   rw [ev] at hf ⊢
   rw [en,← Nat.add_assoc,← Nat.add_assoc]
   exact refTakeV_text_yes B g L k w h h1 c2 (hT c2) ⟨((((L.drop k).drop 1).drop 2).take (textLen ((L.drop k).drop 1))).toArray⟩ rfl hf
  ·have ev : tkV (L.drop k) = ⟨tkC (L.drop k),0,[]⟩:=by simp [tkV,c1,c2]
   have en : tkN (L.drop k) = 1:=by simp [tkN,c1,c2]
   rw [ev] at hf ⊢
   rw [en]
   have c0 : tkC (L.drop k) = 0:=by
    rcases formed_kinds hf with e | e | e <;> omega
   rw [c0]
   exact refTakeV_zero B g L k w h h1 c0
theorem refTakeV_no (B g : Nat) (L : List UInt8) (k : Nat) (ok : Bool) (w : World) (h : RefAt w B g L k ok) (hk : ¬ (ok = true∧tkOk (L.drop k))) :
  Calls Tryz.prog 116 #[.pointer (some ⟨g,0,none⟩)] w fun e w' => ∃ k',TookV B g L k' false ⟨0,0,[]⟩ w e w':=by
 by_cases h1 : ok = true∧1≤(L.drop k).length
 ·obtain ⟨rfl,h1⟩:=h1
  have hk' : ¬ tkOk (L.drop k):=fun e=>hk ⟨rfl,e⟩
  by_cases c1 : tkC (L.drop k) = 1
  ·by_cases h8 : 8≤((L.drop k).drop 1).length
   ·have hf : formedB ⟨1,numB (((L.drop k).drop 1).take 8),[]⟩ = false:=by
     cases hf : formedB ⟨1,numB (((L.drop k).drop 1).take 8),[]⟩
     ·rfl
     ·exact absurd ⟨h1,fun _=>h8,fun e=>by omega,by unfold tkV;rw [if_pos c1];exact hf⟩ hk'
    exact (refTakeV_num_odd B g L k w h h1 c1 h8 _ rfl hf).mono fun e w' h=>⟨_,h⟩
   ·exact (refTakeV_num_no B g L k w h h1 c1 h8).mono fun e w' h=>⟨_,h⟩
  ·by_cases c2 : tkC (L.drop k) = 2
   ·by_cases hT : textOk ((L.drop k).drop 1) 40
    ·have hf : formedB ⟨2,0,(⟨((((L.drop k).drop 1).drop 2).take (textLen ((L.drop k).drop 1))).toArray⟩ : ByteArray).data.toList⟩ = false:=by
      show formedB ⟨2,0,(((L.drop k).drop 1).drop 2).take (textLen ((L.drop k).drop 1))⟩ = false
      cases hf : formedB ⟨2,0,(((L.drop k).drop 1).drop 2).take (textLen ((L.drop k).drop 1))⟩
      ·rfl
      ·exact absurd ⟨h1,fun e=>by omega,fun _=>hT,by unfold tkV;rw [if_neg c1,if_pos c2];exact hf⟩ hk'
     exact (refTakeV_text_odd B g L k w h h1 c2 hT ⟨((((L.drop k).drop 1).drop 2).take (textLen ((L.drop k).drop 1))).toArray⟩ rfl hf).mono fun e w' h=>⟨_,h⟩
    ·exact refTakeV_text_no B g L k w h h1 c2 hT
   ·have c3 : 3≤tkC (L.drop k):=by
     by_cases c0 : tkC (L.drop k) = 0
     ·exact absurd ⟨h1,fun e=>by omega,fun e=>by omega,by simp [tkV,c0];rfl⟩ hk'
     ·omega
    exact (refTakeV_odd B g L k w h h1 _ rfl c3).mono fun e w' h=>⟨_,h⟩
 ·have hbad : ok = false∨(1 : Int) < 0∨(8 : Int) < 1∨(((L.drop k).length : Nat) : Int) < 1:=by
   cases ok
   ·exact .inl rfl
   ·right;right;right
    have : ¬ 1≤(L.drop k).length:=fun e=>h1 ⟨rfl,e⟩
    omega
  exact (refTakeV_none B g L k ok w h hbad).mono fun e w' h=>⟨_,h⟩
def encTo (f : Nat→List UInt8) : Nat→List UInt8
 | 0=>[]
 | i + 1=>encTo f i ++ f i
def encFrom (f : Nat→List UInt8) (n : Nat) : Nat→List UInt8
 | 0=>[]
 | r + 1=>f (n - (r + 1)) ++ encFrom f n r
theorem drop1_cons (x : UInt8) (l : List UInt8) : (x :: l).drop 1 = l:=rfl
theorem tkC_cons (x : UInt8) (l : List UInt8) : tkC (x :: l) = x.toNat:=by
 unfold tkC
 show numB [x] = _
 simp [numB]
theorem text_back (t R : List UInt8) (h : t.length≤1000) : textLen (textB t ++ R) = t.length∧((textB t ++ R).drop 2).take t.length = t∧((textB t ++ R).drop 2).drop t.length = R:=by
 have ht : t.take 65535 = t:=List.take_of_length_le (by omega)
 have hm : min t.length 65535 = t.length:=by omega
 have e : textB t ++ R = putB t.length 2 ++ (t ++ R):=by rw [textB,ht,hm,List.append_assoc]
 rw [e]
 have hp:=putB_len t.length 2
 refine ⟨?_,?_,?_⟩
 ·rw [textLen,take_app _ _ 2 hp,numB_put];exact Nat.mod_eq_of_lt (by omega)
 ·rw [drop_app _ _ 2 hp,take_app _ _ _ rfl]
 ·rw [drop_app _ _ 2 hp,drop_app _ _ _ rfl]
/-- A formed value's bytes, with anything behind them, are taken as that value. -/
theorem take_back (v : Val) (R : List UInt8) (hb : v.b < 18446744073709551616) (hf : formedB v = true) :
  tkOk (bytesV v ++ R)∧tkV (bytesV v ++ R) = v∧(bytesV v ++ R).drop (tkN (bytesV v ++ R)) = R:=by
 obtain ⟨k,b,t⟩:=v
 rcases formed_kinds hf with rfl | rfl | rfl
 ·have hf':=hf
  rw [formed_none,Bool.and_eq_true] at hf'
  have hb0 : b = 0:=of_decide_eq_true hf'.1
  have ht : t = []:=List.isEmpty_iff.1 hf'.2
  subst hb0;subst ht
  have hc : tkC (bytesV ⟨0,0,[]⟩ ++ R) = 0:=tkC_cons 0 R
  have hv : tkV (bytesV ⟨0,0,[]⟩ ++ R) = ⟨0,0,[]⟩:=by unfold tkV;rw [hc];rfl
  have hn : tkN (bytesV ⟨0,0,[]⟩ ++ R) = 1:=by unfold tkN;rw [hc];rfl
  refine ⟨⟨by simp [bytesV],fun e=>by omega,fun e=>by omega,by rw [hv];exact hf⟩,hv,by rw [hn];rfl⟩
 ·have hf':=hf
  rw [formed_num,Bool.and_eq_true] at hf'
  have ht : t = []:=List.isEmpty_iff.1 hf'.1
  subst ht
  have hB : bytesV ⟨1,b,[]⟩ ++ R = 1 :: (putB b 8 ++ R):=by simp [bytesV]
  have hp:=putB_len b 8
  have h8 : (256 : Nat) ^ 8 = 18446744073709551616:=by decide
  rw [hB]
  have hc : tkC (1 :: (putB b 8 ++ R)) = 1:=tkC_cons 1 _
  have hx : numB (((1 :: (putB b 8 ++ R)).drop 1).take 8) = b:=by
   rw [drop1_cons,take_app _ _ 8 hp,numB_put,h8];exact Nat.mod_eq_of_lt hb
  have hv : tkV (1 :: (putB b 8 ++ R)) = ⟨1,b,[]⟩:=by unfold tkV;rw [if_pos hc,hx]
  have hn : tkN (1 :: (putB b 8 ++ R)) = 1 + 8:=by unfold tkN;rw [if_pos hc]
  refine ⟨⟨by simp,fun _=>by rw [drop1_cons,List.length_append,hp];omega,fun e=>by omega,by rw [hv];exact hf⟩,hv,?_⟩
  rw [hn,← List.drop_drop,drop1_cons,drop_app _ _ 8 hp]
 ·have hf':=hf
  rw [formed_text,Bool.and_eq_true,Bool.and_eq_true] at hf'
  have hb0 : b = 0:=of_decide_eq_true hf'.1.1
  have h40 : t.length≤40:=of_decide_eq_true hf'.1.2
  subst hb0
  have hB : bytesV ⟨2,0,t⟩ ++ R = 2 :: (textB t ++ R):=by simp [bytesV]
  obtain ⟨t1,t2,t3⟩:=text_back t R (by omega)
  rw [hB]
  have hc : tkC (2 :: (textB t ++ R)) = 2:=tkC_cons 2 _
  have hv : tkV (2 :: (textB t ++ R)) = ⟨2,0,t⟩:=by unfold tkV;rw [if_neg (by omega),if_pos hc,drop1_cons,t1,t2]
  have hn : tkN (2 :: (textB t ++ R)) = 1 + 2 + t.length:=by unfold tkN;rw [if_neg (by omega),if_pos hc,drop1_cons,t1]
  refine ⟨⟨by simp,fun e=>by omega,fun _=>?_,by rw [hv];exact hf⟩,hv,?_⟩
  ·rw [drop1_cons]
   refine ⟨by rw [List.length_append,textB_len];omega,by rw [t1];omega,by rw [t1,List.length_append,textB_len];omega⟩
  ·rw [hn,← List.drop_drop,← List.drop_drop,drop1_cons,t3]
noncomputable def valP : Prs Val:=open Classical in fun l=>if tkOk l then some (tkV l,l.drop (tkN l)) else none
theorem valP_yes {l : List UInt8} (h : tkOk l) : valP l = some (tkV l,l.drop (tkN l)):=by unfold valP;rw [if_pos h]
theorem valP_no {l : List UInt8} (h : ¬ tkOk l) : valP l = none:=by unfold valP;rw [if_neg h]
theorem back_val (v : Val) (R : List UInt8) (h : v.b < 18446744073709551616∧formedB v = true) : valP (bytesV v ++ R) = some (v,R):=by
 obtain ⟨h1,h2,h3⟩:=take_back v R h.1 h.2
 rw [valP_yes h1,h2,h3]
end Go.Proofs.YtcfmifongbapkaaGreatDoor
