/- Contracts of ballot.Take and of the document's own. Conditions: the readers lie in memory. The two readers take a ballot, as a state. Conditions: the reader lies in memory. Words for a row of zero bytes that is filled; a piece of bytes. No condition. Words for bytes that are taken one by one into a row. A number of few bytes as an integer. How many bytes a reader that is a state has left. Contracts of wal.fail, takeSlot and takeData. Conditions: the reader lies in memory, and has no more than a million bytes left. -/
import Derived.Test.YtcfmifongbapkaaGreatDoorRO
import Derived.Test.YtcfmifongbapkaaGreatDoorRX
import Derived.Test.YtcfmifongbapkaaGreatDoorRJ
import Derived.Test.YtcfmifongbapkaaGreatDoorRF
import Derived.Test.YtcfmifongbapkaaGreatDoorRA
import Derived.Test.YtcfmifongbapkaaGreatDoorRD
namespace Go.Proofs.YtcfmifongbapkaaGreatDoor
set_option maxHeartbeats 4000000
open Go.RowKit
open Go.Lib (hid)
set_option linter.unusedVariables false
/-- A ballot is answered, and the reader is as it is. -/
def GotB (g : Nat) (r : List UInt8) (ok : Bool) (x : Bal) (w : World) (e : Ending) (w' : World) : Prop :=
 e = .returned (.agg #[.int .u32 x.1,.int .i64 x.2])∧RdAt w' g r ok∧Only g w w'
theorem bfail_any (g : Nat) (l : List UInt8) (ok : Bool) (w : World) (h : RdAt w g l ok) :
  Calls Tryz.prog 111 #[.pointer (some ⟨g,0,none⟩)] w fun e w'=>e = .returned (.tuple #[])∧RdAt w' g [] false∧Only g w w':=by
 have c:=take_no g l ok (-1) w h (.inr (.inl (by omega)))
 go_enter Tryz.func111,Tryz.ntmps111
 go_wp2_with (go_at_call 80;((with_reducible refine c.mono ?_);rintro e w1 ⟨rfl,hr1,ho1⟩))
 go_end0
 exact ⟨rfl,hr1,ho1⟩
theorem bTake_gen (g : Nat) (l l1 l2 : List UInt8) (ok ok1 ok2 : Bool) (x y : Nat) (w : World) (h : RdAt w g l ok) (hx : x < 4294967296) (hy : y < 256)
  (c4 : ∀ W,RdAt W g l ok→Calls Tryz.prog 80 #[.pointer (some ⟨g,0,none⟩),.int .i64 4] W fun e w'=>e = .returned (.int .u64 x)∧RdAt w' g l1 ok1∧Only g W w')
  (c1 : ∀ W,RdAt W g l1 ok1→Calls Tryz.prog 80 #[.pointer (some ⟨g,0,none⟩),.int .i64 1] W fun e w'=>e = .returned (.int .u64 y)∧RdAt w' g l2 ok2∧Only g W w') :
  Calls Tryz.prog 81 #[.pointer (some ⟨g,0,none⟩)] w (GotB g (if formB y then l2 else []) (formB y && ok2) (if formB y && ok2 then ((x : Int),(y : Int)) else (0,0)) w):=by
 have H0:=hid ((RdW.start h).more #[.int .u32 0,.int .i64 0] 24)
 have cF:=fun W=>bFormed_any x y W
 clear h
 cases hf : formB y
 ·rw [hf] at cF
  clear hf
  go_enter Tryz.func81,Tryz.ntmps81
  go_upto_region 2 with (go_at_call 80;((with_reducible refine (c4 _ H0.out.rd).mono ?_);rintro e w1 ⟨rfl,hr1,ho1⟩;have H1:=hid (H0.out.only hr1 ho1)))
  have H2:=hid (H1.out.more #[.int .u32 x,.int .i64 0] 24)
  have hG : w.heap.size < w1.heap.size:=(H1.out.get 0 _ _ _ rfl).lt
  clear H0 H1 hr1 ho1
  generalize w1.alloc (.cells #[.int .u32 x,.int .i64 0] 24) = W2 at *
  generalize w1.heap.size = G at *
  have hgG : g≠G:=by have:=H2.out.2.2.1;omega
  go_upto_region 3 with (go_at_call 80;((with_reducible refine (c1 _ H2.out.rd).mono ?_);rintro e w3 ⟨rfl,hr3,ho3⟩;have H3:=hid (H2.out.only hr3 ho3);obtain ⟨x0,x1⟩:=(H3.out.get 0 _ _ _ rfl).two;have f1:=(H3.out.get 0 _ _ _ rfl).frozen 1))
  have H4 : Hid (RdW w (w3.setCell ⟨G,1,none⟩ (.int .i64 y)) g l2 ok2 [(G,#[.int .u32 x,.int .i64 y],24),(w.heap.size,#[.int .u32 0,.int .i64 0],24)]):=H3.out.set (by simp;omega) 1 (.int .i64 y)
  clear H2 H3 hr3 ho3 x0 x1 f1
  generalize w3.setCell ⟨G,1,none⟩ (.int .i64 y) = W4 at *
  obtain ⟨x0,x1⟩:=(H4.out.get 0 _ _ _ rfl).two
  go_wp2_with (first | (go_at_call 49;((with_reducible refine (cF _).mono ?_);rintro e w5 ⟨rfl,hb5⟩;have H5:=hid (H4.out.below hb5))) | (go_at_call 111;((with_reducible refine (bfail_any g l2 ok2 _ H5.out.rd).mono ?_);rintro e w6 ⟨rfl,hr6,ho6⟩;have H6:=hid (H5.out.only hr6 ho6);obtain ⟨x0,x1⟩:=(H6.out.get 0 _ _ _ rfl).two;obtain ⟨z0,z1⟩:=(H6.out.get 1 _ _ _ rfl).two;have f0:=(H6.out.get 1 _ _ _ rfl).frozen 0;have f1:=(H6.out.get 1 _ _ _ rfl).frozen 1)) | (go_at_call 85;((with_reducible refine (ok_any g [] false _ H6.out.rd).mono ?_);rintro e w' ⟨rfl,rfl⟩)))
  exact bodyPost_ret (v:=.agg #[.int .u32 0,.int .i64 0]) (by simp [results,Tryz.results81,go_sem,z0,z1]) rfl ⟨rfl,((H6.out.out (Nat.le_refl _) _).out (Nat.le_refl _) _).1,((H6.out.out (Nat.le_refl _) _).out (Nat.le_refl _) _).2.1⟩
 ·rw [hf] at cF
  clear hf
  go_enter Tryz.func81,Tryz.ntmps81
  go_upto_region 2 with (go_at_call 80;((with_reducible refine (c4 _ H0.out.rd).mono ?_);rintro e w1 ⟨rfl,hr1,ho1⟩;have H1:=hid (H0.out.only hr1 ho1)))
  have H2:=hid (H1.out.more #[.int .u32 x,.int .i64 0] 24)
  have hG : w.heap.size < w1.heap.size:=(H1.out.get 0 _ _ _ rfl).lt
  clear H0 H1 hr1 ho1
  generalize w1.alloc (.cells #[.int .u32 x,.int .i64 0] 24) = W2 at *
  generalize w1.heap.size = G at *
  have hgG : g≠G:=by have:=H2.out.2.2.1;omega
  go_upto_region 3 with (go_at_call 80;((with_reducible refine (c1 _ H2.out.rd).mono ?_);rintro e w3 ⟨rfl,hr3,ho3⟩;have H3:=hid (H2.out.only hr3 ho3);obtain ⟨x0,x1⟩:=(H3.out.get 0 _ _ _ rfl).two;have f1:=(H3.out.get 0 _ _ _ rfl).frozen 1))
  have H4 : Hid (RdW w (w3.setCell ⟨G,1,none⟩ (.int .i64 y)) g l2 ok2 [(G,#[.int .u32 x,.int .i64 y],24),(w.heap.size,#[.int .u32 0,.int .i64 0],24)]):=H3.out.set (by simp;omega) 1 (.int .i64 y)
  clear H2 H3 hr3 ho3 x0 x1 f1
  generalize w3.setCell ⟨G,1,none⟩ (.int .i64 y) = W4 at *
  obtain ⟨x0,x1⟩:=(H4.out.get 0 _ _ _ rfl).two
  cases ok2
  ·go_wp2_with (first | (go_at_call 49;((with_reducible refine (cF _).mono ?_);rintro e w5 ⟨rfl,hb5⟩;have H6:=hid (H4.out.below hb5);obtain ⟨x0,x1⟩:=(H6.out.get 0 _ _ _ rfl).two;obtain ⟨z0,z1⟩:=(H6.out.get 1 _ _ _ rfl).two;have f0:=(H6.out.get 1 _ _ _ rfl).frozen 0;have f1:=(H6.out.get 1 _ _ _ rfl).frozen 1)) | (go_at_call 85;((with_reducible refine (ok_any g l2 false _ H6.out.rd).mono ?_);rintro e w' ⟨rfl,rfl⟩)))
   exact bodyPost_ret (v:=.agg #[.int .u32 0,.int .i64 0]) (by simp [results,Tryz.results81,go_sem,z0,z1]) rfl ⟨rfl,((H6.out.out (Nat.le_refl _) _).out (Nat.le_refl _) _).1,((H6.out.out (Nat.le_refl _) _).out (Nat.le_refl _) _).2.1⟩
  ·go_wp2_with (first | (go_at_call 49;((with_reducible refine (cF _).mono ?_);rintro e w5 ⟨rfl,hb5⟩;have H6:=hid (H4.out.below hb5);obtain ⟨x0,x1⟩:=(H6.out.get 0 _ _ _ rfl).two;obtain ⟨z0,z1⟩:=(H6.out.get 1 _ _ _ rfl).two;have f0:=(H6.out.get 1 _ _ _ rfl).frozen 0;have f1:=(H6.out.get 1 _ _ _ rfl).frozen 1)) | (go_at_call 85;((with_reducible refine (ok_any g l2 true _ H6.out.rd).mono ?_);rintro e w' ⟨rfl,rfl⟩)))
   exact bodyPost_ret (v:=.agg #[.int .u32 x,.int .i64 y]) (by simp [results,Tryz.results81,go_sem,z0,z1]) rfl ⟨rfl,((H6.out.out (Nat.le_refl _) _).out (Nat.le_refl _) _).1,((H6.out.out (Nat.le_refl _) _).out (Nat.le_refl _) _).2.1⟩
/-- What is taken, if a ballot is next; and if none is. -/
theorem bTake_yes (g : Nat) (l : List UInt8) (w : World) (h : RdAt w g l true) (hk : balOk l) :
  Calls Tryz.prog 81 #[.pointer (some ⟨g,0,none⟩)] w (GotB g (l.drop 5) true ((tkR l : Nat),(tkNode l : Nat)) w):=by
 have hf : formB ((tkNode l : Nat) : Int) = true:=by have:=hk.2;simp [formB];omega
 have H:=bTake_gen g l (l.drop 4) ((l.drop 4).drop 1) true true true (tkR l) (tkNode l) w h (tkR_lt l) (tkNode_lt l)
  (fun W hW=>take_yes g l 4 W hW (by have:=hk.1;omega) (by omega)) (fun W hW=>take_yes g (l.drop 4) 1 W hW (by have:=hk.1;simp;omega) (by omega))
 rw [hf,List.drop_drop] at H
 exact H
theorem bTake_no (g : Nat) (l : List UInt8) (ok : Bool) (w : World) (h : RdAt w g l ok) (hk : ¬ (ok = true∧balOk l)) :
  Calls Tryz.prog 81 #[.pointer (some ⟨g,0,none⟩)] w (GotB g [] false (0,0) w):=by
 have h0 : formB ((0 : Nat) : Int) = true:=rfl
 by_cases h4 : ok = true∧4≤l.length
 ·obtain ⟨rfl,h4⟩:=h4
  have c4:=fun W hW=>take_yes g l 4 W hW h4 (by omega)
  by_cases h5 : 1≤(l.drop 4).length
  ·have hf : formB ((tkNode l : Nat) : Int) = false:=by
    have : ¬ tkNode l < 5:=fun e=>hk ⟨rfl,by simp at h5;omega,e⟩
    simp [formB];omega
   have H:=bTake_gen g l (l.drop 4) ((l.drop 4).drop 1) true true true (tkR l) (tkNode l) w h (tkR_lt l) (tkNode_lt l) c4 (fun W hW=>take_yes g (l.drop 4) 1 W hW h5 (by omega))
   rw [hf] at H
   exact H
  ·have H:=bTake_gen g l (l.drop 4) [] true true false (tkR l) 0 w h (tkR_lt l) (by omega) c4 (fun W hW=>take_no g (l.drop 4) true 1 W hW (.inr (.inr (.inr (by omega)))))
   rw [h0] at H
   exact H
 ·have hbad : ok = false∨(4 : Int) < 0∨(8 : Int) < 4∨((l.length : Nat) : Int) < 4:=by
   cases ok
   ·exact .inl rfl
   ·right;right;right
    have : ¬ 4≤l.length:=fun e=>h4 ⟨rfl,e⟩
    omega
  have H:=bTake_gen g l [] [] ok false false 0 0 w h (by omega) (by omega) (fun W hW=>take_no g l ok 4 W hW hbad) (fun W hW=>take_no g [] false 1 W hW (.inl rfl))
  rw [h0] at H
  exact H
/-- A ballot is answered; the document's reader is as it is. -/
def GotR (B g : Nat) (L : List UInt8) (k : Nat) (ok : Bool) (x : Bal) (w : World) (e : Ending) (w' : World) : Prop :=
 e = .returned (.agg #[.int .u32 x.1,.int .i64 x.2])∧RefAt w' B g L k ok∧Only g w w'
theorem rTake_gen (B g : Nat) (L : List UInt8) (k k1 k2 : Nat) (ok ok1 ok2 : Bool) (x y : Nat) (w : World) (h : RefAt w B g L k ok) (hx : x < 4294967296) (hy : y < 256)
  (c4 : ∀ W,RefAt W B g L k ok→Calls Tryz.prog 45 #[.pointer (some ⟨g,0,none⟩),.int .i64 4] W fun e w'=>e = .returned (.int .u64 x)∧RefAt w' B g L k1 ok1∧Only g W w')
  (c1 : ∀ W,RefAt W B g L k1 ok1→Calls Tryz.prog 45 #[.pointer (some ⟨g,0,none⟩),.int .i64 1] W fun e w'=>e = .returned (.int .u64 y)∧RefAt w' B g L k2 ok2∧Only g W w') :
  Calls Tryz.prog 46 #[.pointer (some ⟨g,0,none⟩)] w (GotR B g L k2 (formB y && ok2) (if formB y && ok2 then ((x : Int),(y : Int)) else (0,0)) w):=by
 have H0:=hid ((RfW.start h).more #[.int .u32 0,.int .i64 0] 44)
 have cF:=fun W=>rFormed_any x y W
 clear h
 cases ok2
 ·rw [Bool.and_false]
  go_enter Tryz.func46,Tryz.ntmps46
  go_upto_region 3 with (first | (go_at_call 45;((with_reducible refine (c4 _ H0.out.rd).mono ?_);rintro e w1 ⟨rfl,hr1,ho1⟩;have H1:=hid (H0.out.only hr1 ho1))) | (go_at_call 45;((with_reducible refine (c1 _ H1.out.rd).mono ?_);rintro e w2 ⟨rfl,hr2,ho2⟩;have H2:=hid (H1.out.only hr2 ho2))))
  have H3:=hid (H2.out.more #[.int .u32 x,.int .i64 y] 44)
  have hG : w.heap.size < w2.heap.size:=(H2.out.get 0 _ _ _ rfl).lt
  clear H0 H1 H2 hr1 ho1 hr2 ho2
  generalize w2.alloc (.cells #[.int .u32 x,.int .i64 y] 44) = W3 at *
  generalize w2.heap.size = G at *
  have hgG : g≠G:=by have:=H3.out.2.2.1;omega
  have hgw : g≠w.heap.size:=by have:=H3.out.2.2.1;omega
  obtain ⟨fl,ff⟩:=H3.out.rd.flag
  obtain ⟨x0,x1⟩:=(H3.out.get 0 _ _ _ rfl).two
  obtain ⟨z0,z1⟩:=(H3.out.get 1 _ _ _ rfl).two
  have f0:=(H3.out.get 1 _ _ _ rfl).frozen 0
  have f1:=(H3.out.get 1 _ _ _ rfl).frozen 1
  go_wp2
  exact bodyPost_ret (v:=.agg #[.int .u32 0,.int .i64 0]) (by simp [results,Tryz.results46,go_sem,z0,z1]) rfl ⟨rfl,((H3.out.fails.out (Nat.le_refl _) _).out (Nat.le_refl _) _).1,((H3.out.fails.out (Nat.le_refl _) _).out (Nat.le_refl _) _).2.1⟩
 ·rw [Bool.and_true]
  cases hf : formB y
  ·rw [hf] at cF
   clear hf
   go_enter Tryz.func46,Tryz.ntmps46
   go_upto_region 3 with (first | (go_at_call 45;((with_reducible refine (c4 _ H0.out.rd).mono ?_);rintro e w1 ⟨rfl,hr1,ho1⟩;have H1:=hid (H0.out.only hr1 ho1))) | (go_at_call 45;((with_reducible refine (c1 _ H1.out.rd).mono ?_);rintro e w2 ⟨rfl,hr2,ho2⟩;have H2:=hid (H1.out.only hr2 ho2))))
   have H3:=hid (H2.out.more #[.int .u32 x,.int .i64 y] 44)
   have hG : w.heap.size < w2.heap.size:=(H2.out.get 0 _ _ _ rfl).lt
   clear H0 H1 H2 hr1 ho1 hr2 ho2
   generalize w2.alloc (.cells #[.int .u32 x,.int .i64 y] 44) = W3 at *
   generalize w2.heap.size = G at *
   have hgG : g≠G:=by have:=H3.out.2.2.1;omega
   have hgw : g≠w.heap.size:=by have:=H3.out.2.2.1;omega
   obtain ⟨fl,ff⟩:=H3.out.rd.flag
   obtain ⟨x0,x1⟩:=(H3.out.get 0 _ _ _ rfl).two
   obtain ⟨z0,z1⟩:=(H3.out.get 1 _ _ _ rfl).two
   have f0:=(H3.out.get 1 _ _ _ rfl).frozen 0
   have f1:=(H3.out.get 1 _ _ _ rfl).frozen 1
   go_wp2_with (go_at_call 52;((with_reducible refine (cF _).mono ?_);rintro e w5 ⟨rfl,hb5⟩;have H5:=hid (H3.out.below hb5);clear fl ff x0 x1 z0 z1 f0 f1;obtain ⟨fl,ff⟩:=H5.out.rd.flag;obtain ⟨x0,x1⟩:=(H5.out.get 0 _ _ _ rfl).two;obtain ⟨z0,z1⟩:=(H5.out.get 1 _ _ _ rfl).two;have f0:=(H5.out.get 1 _ _ _ rfl).frozen 0;have f1:=(H5.out.get 1 _ _ _ rfl).frozen 1))
   exact bodyPost_ret (v:=.agg #[.int .u32 0,.int .i64 0]) (by simp [results,Tryz.results46,go_sem,z0,z1]) rfl ⟨rfl,((H5.out.fails.out (Nat.le_refl _) _).out (Nat.le_refl _) _).1,((H5.out.fails.out (Nat.le_refl _) _).out (Nat.le_refl _) _).2.1⟩
  ·rw [hf] at cF
   clear hf
   go_enter Tryz.func46,Tryz.ntmps46
   go_upto_region 3 with (first | (go_at_call 45;((with_reducible refine (c4 _ H0.out.rd).mono ?_);rintro e w1 ⟨rfl,hr1,ho1⟩;have H1:=hid (H0.out.only hr1 ho1))) | (go_at_call 45;((with_reducible refine (c1 _ H1.out.rd).mono ?_);rintro e w2 ⟨rfl,hr2,ho2⟩;have H2:=hid (H1.out.only hr2 ho2))))
   have H3:=hid (H2.out.more #[.int .u32 x,.int .i64 y] 44)
   have hG : w.heap.size < w2.heap.size:=(H2.out.get 0 _ _ _ rfl).lt
   clear H0 H1 H2 hr1 ho1 hr2 ho2
   generalize w2.alloc (.cells #[.int .u32 x,.int .i64 y] 44) = W3 at *
   generalize w2.heap.size = G at *
   have hgG : g≠G:=by have:=H3.out.2.2.1;omega
   have hgw : g≠w.heap.size:=by have:=H3.out.2.2.1;omega
   obtain ⟨fl,ff⟩:=H3.out.rd.flag
   obtain ⟨x0,x1⟩:=(H3.out.get 0 _ _ _ rfl).two
   obtain ⟨z0,z1⟩:=(H3.out.get 1 _ _ _ rfl).two
   have f0:=(H3.out.get 1 _ _ _ rfl).frozen 0
   have f1:=(H3.out.get 1 _ _ _ rfl).frozen 1
   go_wp2_with (go_at_call 52;((with_reducible refine (cF _).mono ?_);rintro e w5 ⟨rfl,hb5⟩;have H5:=hid (H3.out.below hb5);clear fl ff x0 x1 z0 z1 f0 f1;obtain ⟨fl,ff⟩:=H5.out.rd.flag;obtain ⟨x0,x1⟩:=(H5.out.get 0 _ _ _ rfl).two;obtain ⟨z0,z1⟩:=(H5.out.get 1 _ _ _ rfl).two;have f0:=(H5.out.get 1 _ _ _ rfl).frozen 0;have f1:=(H5.out.get 1 _ _ _ rfl).frozen 1))
   exact bodyPost_ret (v:=.agg #[.int .u32 x,.int .i64 y]) (by simp [results,Tryz.results46,go_sem,z0,z1]) rfl ⟨rfl,((H5.out.out (Nat.le_refl _) _).out (Nat.le_refl _) _).1,((H5.out.out (Nat.le_refl _) _).out (Nat.le_refl _) _).2.1⟩
theorem rTake_yes (B g : Nat) (L : List UInt8) (k : Nat) (w : World) (h : RefAt w B g L k true) (hk : balOk (L.drop k)) :
  Calls Tryz.prog 46 #[.pointer (some ⟨g,0,none⟩)] w (GotR B g L (k + 5) true ((tkR (L.drop k) : Nat),(tkNode (L.drop k) : Nat)) w):=by
 have hf : formB ((tkNode (L.drop k) : Nat) : Int) = true:=by have:=hk.2;simp [formB];omega
 have h5 : 5≤(L.drop k).length:=hk.1
 have H:=rTake_gen B g L k (k + 4) (k + 4 + 1) true true true (tkR (L.drop k)) (tkNode (L.drop k)) w h (tkR_lt _) (tkNode_lt _)
  (fun W hW=>refTake_yes B g L k 4 W hW (by omega) (by omega)) (fun W hW=>by
   have:=refTake_yes B g L (k + 4) 1 W hW (by rw [List.length_drop] at h5 ⊢;omega) (by omega)
   rw [← List.drop_drop] at this
   exact this)
 rw [hf] at H
 exact H
theorem rTake_no (B g : Nat) (L : List UInt8) (k : Nat) (ok : Bool) (w : World) (h : RefAt w B g L k ok) (hk : ¬ (ok = true∧balOk (L.drop k))) :
  Calls Tryz.prog 46 #[.pointer (some ⟨g,0,none⟩)] w (fun e w' => ∃ k',GotR B g L k' false (0,0) w e w'):=by
 have h0 : formB ((0 : Nat) : Int) = true:=rfl
 by_cases h4 : ok = true∧4≤(L.drop k).length
 ·obtain ⟨rfl,h4⟩:=h4
  have c4:=fun W hW=>refTake_yes B g L k 4 W hW h4 (by omega)
  by_cases h5 : 1≤(L.drop (k + 4)).length
  ·have hf : formB ((tkNode (L.drop k) : Nat) : Int) = false:=by
    have : ¬ tkNode (L.drop k) < 5:=fun e=>hk ⟨rfl,by rw [List.length_drop] at h5 ⊢;omega,e⟩
    simp [formB];omega
   have H:=rTake_gen B g L k (k + 4) (k + 4 + 1) true true true (tkR (L.drop k)) (tkNode (L.drop k)) w h (tkR_lt _) (tkNode_lt _) c4 (fun W hW=>by
    have:=refTake_yes B g L (k + 4) 1 W hW h5 (by omega)
    rw [← List.drop_drop] at this
    exact this)
   rw [hf] at H
   exact H.mono fun e w' h=>⟨_,h⟩
  ·have H:=rTake_gen B g L k (k + 4) (k + 4) true true false (tkR (L.drop k)) 0 w h (tkR_lt _) (by omega) c4 (fun W hW=>refTake_no B g L (k + 4) true 1 W hW (.inr (.inr (.inr (by omega)))))
   rw [h0] at H
   exact H.mono fun e w' h=>⟨_,h⟩
 ·have hbad : ok = false∨(4 : Int) < 0∨(8 : Int) < 4∨(((L.drop k).length : Nat) : Int) < 4:=by
   cases ok
   ·exact .inl rfl
   ·right;right;right
    have : ¬ 4≤(L.drop k).length:=fun e=>h4 ⟨rfl,e⟩
    omega
  have H:=rTake_gen B g L k k k ok false false 0 0 w h (by omega) (by omega) (fun W hW=>refTake_no B g L k ok 4 W hW hbad) (fun W hW=>refTake_no B g L k false 1 W hW (.inl rfl))
  rw [h0] at H
  exact H.mono fun e w' h=>⟨_,h⟩
/-- A ballot is taken; the zero one where it fails. -/
def TookB (g : Nat) (st : St) (w : World) (e : Ending) (w' : World) : Prop :=
 ∃ (r : Nat) (n : Int) (st' : St),e = .returned (.agg #[.int .u32 ((r : Nat) : Int),.int .i64 n])∧RS g st' w'∧Only g w w'∧Res balQ st (((r : Nat) : Int),n) st'∧r < 4294967296
theorem numI_yes (k : Nat) (l : List UInt8) (h : k≤l.length) : numI k l = some (((numB (l.take k) : Nat) : Int),l.drop k):=by
 unfold numI bindP numP
 rw [if_pos h];rfl
theorem numI_no (k : Nat) (l : List UInt8) (h : ¬ k≤l.length) : numI k l = none:=by
 unfold numI bindP numP
 rw [if_neg h]
theorem balQ_yes (l : List UInt8) (h : balOk l) : balQ l = some ((((tkR l : Nat) : Int),((tkNode l : Nat) : Int)),l.drop 5):=by
 have h1:=h.1
 have h2:=h.2
 refine guard_yes ?_ (by show formB ((tkNode l : Nat) : Int) = true;simp [formB];omega)
 rw [bind_some (numI_yes 4 l (by omega)),bind_some (numI_yes 1 (l.drop 4) (by rw [List.length_drop];omega)),List.drop_drop]
 rfl
theorem balQ_no (l : List UInt8) (h : ¬ balOk l) : balQ l = none:=by
 by_cases h4 : 4≤l.length
 ·by_cases h5 : 1≤(l.drop 4).length
  ·refine guard_bad (x:=(((numB (l.take 4) : Nat) : Int),((numB ((l.drop 4).take 1) : Nat) : Int))) (r:=(l.drop 4).drop 1) ?_ ?_
   ·rw [bind_some (numI_yes 4 l h4),bind_some (numI_yes 1 _ h5)];rfl
   ·have hn : ¬ tkNode l < 5:=fun e=>h ⟨by rw [List.length_drop] at h5;omega,e⟩
    have : ¬ numB ((l.drop 4).take 1) < 5:=hn
    show formB ((numB ((l.drop 4).take 1) : Nat) : Int) = false
    simp [formB];omega
  ·refine guard_none ?_
   rw [bind_some (numI_yes 4 l h4),bind_none (numI_no 1 _ h5)]
 ·exact guard_none (bind_none (numI_no 4 l h4))
theorem bTakeS_any (g : Nat) (st : St) (W : World) (h : RS g st W) : Calls Tryz.prog 81 #[.pointer (some ⟨g,0,none⟩)] W (TookB g st W):=by
 cases st with
 | none=>exact (bTake_no g [] false W h (fun h=>by cases h.1)).mono fun e w' ⟨h1,h2,h3⟩=>⟨0,0,none,h1,h2,h3,.no _ (fun l e=>by cases e),by omega⟩
 | some l =>
  by_cases hk : balOk l
  ·exact (bTake_yes g l W h hk).mono fun e w' ⟨h1,h2,h3⟩=>⟨tkR l,(tkNode l : Nat),some (l.drop 5),h1,h2,h3,.yes (balQ_yes l hk),tkR_lt l⟩
  ·exact (bTake_no g l true W h (fun h=>hk h.2)).mono fun e w' ⟨h1,h2,h3⟩=>⟨0,0,none,h1,h2,h3,.no _ (fun l' e=>by injection e with e;subst e;exact balQ_no l hk),by omega⟩
theorem res_numI {st st1 : St} {k z : Nat} (h : Res (numP k) st z st1) : Res (numI k) st ((z : Nat) : Int) st1:=Res.bind (x:=z) h (Res.pure _ _)
/-- A ballot is taken of the document's reader. -/
def TookBD (B g : Nat) (L : List UInt8) (st : St) (w : World) (e : Ending) (w' : World) : Prop :=
 ∃ (r : Nat) (n : Int) (st' : St),e = .returned (.agg #[.int .u32 ((r : Nat) : Int),.int .i64 n])∧FS B g L st' w'∧Only g w w'∧Res balQ st (((r : Nat) : Int),n) st'∧r < 4294967296
theorem rbTakeS_any (B g : Nat) (L : List UInt8) (st : St) (W : World) (h : FS B g L st W) : Calls Tryz.prog 46 #[.pointer (some ⟨g,0,none⟩)] W (TookBD B g L st W):=by
 obtain ⟨k,h,hk⟩:=h
 cases st with
 | none=>exact (rTake_no B g L k false W h (fun h=>by cases h.1)).mono fun e w' ⟨k',h1,h2,h3⟩=>⟨0,0,none,h1,⟨k',h2,fun l e=>by cases e⟩,h3,.no _ (fun l e=>by cases e),by omega⟩
 | some l =>
  obtain rfl:=hk l rfl
  by_cases hb : balOk (L.drop k)
  ·exact (rTake_yes B g L k W h hb).mono fun e w' ⟨h1,h2,h3⟩=>⟨_,_,some (L.drop (k + 5)),h1,⟨k + 5,h2,fun l e=>by injection e with e;exact e.symm⟩,h3,.yes (by rw [balQ_yes _ hb,List.drop_drop]),tkR_lt _⟩
  ·exact (rTake_no B g L k true W h (fun h=>hb h.2)).mono fun e w' ⟨k',h1,h2,h3⟩=>⟨0,0,none,h1,⟨k',h2,fun l e=>by cases e⟩,h3,.no _ (fun l' e=>by injection e with e;subst e;exact balQ_no _ hb),by omega⟩
theorem set_at (A : List Value) (z v : Value) (n i : Nat) (hA : A.length = i) (hi : i < n) : (A ++ List.replicate (n - i) z).toArray.setIfInBounds i v = ((A ++ [v]) ++ List.replicate (n - (i + 1)) z).toArray:=by
 apply Array.ext'
 rw [Array.toList_setIfInBounds,List.toList_toArray,List.toList_toArray]
 obtain ⟨k,hk⟩ : ∃ k,n - i = k + 1:=⟨n - i - 1,by omega⟩
 have e : n - (i + 1) = k:=by omega
 rw [hk,e,List.replicate_succ,List.set_append_right _ _ (by omega),hA,Nat.sub_self,List.set_cons_zero,List.append_assoc];rfl
theorem made_bytes (n : Nat) : madeCells #[Value.int .u8 0] n = (List.replicate n (Value.int .u8 0)).toArray:=by
 apply Array.ext'
 rw [List.toList_toArray]
 have e : (fun x : Nat=>([Value.int .u8 0][x % 1]?).getD default) = fun _=>Value.int .u8 0:=by funext x;rw [Nat.mod_one];rfl
 simp [madeCells,e]
 rw [List.map_const',List.length_range]
/-- Where the loop stands: i bytes are laid. -/
def DatR (g D : Nat) (r : List UInt8) (n i : Nat) (w wr : World) : Prop :=
 RS g (some (r.drop i)) wr∧Only g w wr∧BoxC wr D (bcells (r.take i) ++ List.replicate (n - i) (Value.int .u8 0)).toArray 5∧w.heap.size≤D
theorem wrap_i64 (z : Nat) (h : z < 9223372036854775808) : IntKind.i64.wrap (z : Int) = z:=by
 simp [IntKind.wrap,IntKind.bits,IntKind.signed];omega
/-- How many bytes are left. -/
def lenS : St→Nat
 | some l=>l.length
 | none=>0
theorem leftS_any (g : Nat) (st : St) (W : World) (h : RS g st W) : Calls Tryz.prog 86 #[.pointer (some ⟨g,0,none⟩)] W fun e w'=>e = .returned (.int .i64 (lenS st : Nat))∧W = w':=by
 cases st with
 | none=>exact left_any g [] false W h
 | some l=>exact left_any g l true W h
set_option linter.unusedSimpArgs false
theorem wfail_any (g : Nat) (st : St) (W : World) (h : RS g st W) :
  Calls Tryz.prog 114 #[.pointer (some ⟨g,0,none⟩)] W fun e w'=>e = .returned (.tuple #[])∧RS g none w'∧Only g W w':=by
 obtain ⟨l,ok,hr⟩:=h.rd
 have c:=take_no g l ok (-1) W hr (.inr (.inl (by omega)))
 clear hr h
 go_enter Tryz.func114,Tryz.ntmps114
 go_wp2_with (go_at_call 80;((with_reducible refine c.mono ?_);rintro e w1 ⟨rfl,hr1,ho1⟩))
 go_end0
 exact ⟨rfl,hr1,ho1⟩
def TookSl (g : Nat) (st : St) (w : World) (e : Ending) (w' : World) : Prop := ∃ (z : Nat) (st' : St),e = .returned (.int .i64 ((z : Nat) : Int))∧RS g st' w'∧Only g w w'∧Res (numP 4) st z st'∧z < 4294967296
theorem wTakeSlot_any (g : Nat) (st : St) (w : World) (h : RS g st w) :
  Calls Tryz.prog 82 #[.pointer (some ⟨g,0,none⟩)] w (TookSl g st w):=by
 have c4 : Calls Tryz.prog 80 #[.pointer (some ⟨g,0,none⟩),.int .i64 4] w (Took1 (RS g) g numV (numP 4) 0 st w):=takeS_any g 4 st w h (by omega)
 clear h
 go_enter Tryz.func82,Tryz.ntmps82
 go_wp2_with (go_at_call 80;((with_reducible refine c4.mono ?_);rintro e w1 ⟨n,st1,rfl,hr1,ho1,hR1,hz1⟩;have D1:=hid hr1;have O1:=hid ho1;have R1:=hid hR1;have hn : n < 4294967296:=num_lt hR1 hz1 (by decide);have ez:=wrap_i64 n (by omega);clear hr1 ho1 hR1 hz1))
 go_ret
 exact ⟨n,st1,by first | rfl | (rw [← ez];rfl),D1.out,O1.out,R1.out,hn⟩
/-- Data are taken, all that is left; none where it fails. -/
def TookDt (g : Nat) (st : St) (w : World) (e : Ending) (w' : World) : Prop :=
 ∃ (a : Option Addr) (m c : Nat) (d : List UInt8) (st' : St),e = .returned (.slice a m c)∧RS g st' w'∧Only g w w'∧BAt w' w'.heap.size a m d∧(m≤1000000∧NewP w.heap.size a)∧Res dataR st d st'
theorem dataR_no {st st1 : St} {n : Nat} (h : Res (numP 4) st n st1) (hz : st1 = none→n = 0) (hn : n≠lenS st1) : Res dataR st [] none:=by
 refine .no [] fun l e=>?_
 rcases h with ⟨l',r,e1,hp,e2⟩ | ⟨_,e1⟩
 ·rw [e] at e1;injection e1 with e1;subst e1;subst e2
  unfold numP at hp
  split at hp
  ·rename_i hl
   injection hp with hp;injection hp with h1 h2
   subst h1;subst h2
   unfold dataR
   rw [if_neg]
   rintro ⟨_,h3⟩
   exact hn (by rw [h3];show _ = (l.drop 4).length;rw [List.length_drop])
  ·cases hp
 ·subst e1;exact absurd (hz rfl) hn
theorem dataR_none {st : St} {n : Nat} (h : Res (numP 4) st n none) : Res dataR st [] none:=by
 refine .no [] fun l e=>?_
 rcases h with ⟨l',r,e1,hp,e2⟩ | ⟨hp,_⟩
 ·cases e2
 ·have:=hp l e
  unfold numP at this
  split at this
  ·cases this
  ·rename_i hl
   unfold dataR;rw [if_neg (fun h=>hl h.1)]
theorem dataR_all {st : St} {n : Nat} {r : List UInt8} (h : Res (numP 4) st n (some r)) (hn : n = r.length) : Res dataR st r (some []):=by
 rcases h with ⟨l,r',rfl,hp,e⟩ | ⟨_,e⟩
 ·injection e with e;subst e
  refine .yes ?_
  unfold numP at hp
  split at hp
  ·rename_i hl
   injection hp with hp;injection hp with h1 h2
   subst h1;subst h2
   unfold dataR
   rw [if_pos ⟨hl,by rw [hn,List.length_drop]⟩]
  ·cases hp
 ·cases e
theorem make_w (w : World) (n : Nat) (hn : n≤1000000) : (Instr.makeSlice 34 (.int .i64 ((n : Nat) : Int)) (.int .i64 ((n : Nat) : Int))).run Tryz.prog w = .ok (.slice (some ⟨w.heap.size,0,none⟩) n n) (w.alloc (.cells (madeCells #[Value.int .u8 0] n) 5)):=by
 obtain ⟨i0,hi,hz0,hz1,hz2⟩:=info_parts Tryz.info5
 have hr:=run_make (P:=Tryz.prog) w 34 5 i0 (.int .u8 0) Tryz.underlying34 hi hz0 .i64 .i64 ((n : Nat) : Int) ((n : Nat) : Int) (by omega) (by omega) (by rw [hz2];omega) (by omega)
 have e1 : ((n : Nat) : Int).toNat = n:=by omega
 rw [hr,hz1,e1,Nat.mul_one];rfl
theorem new_made (W : World) {B n : Nat} (h : B≤n) : NewP B (some ⟨n,0,none⟩):=fun p e=>by injection e with e;subst e;exact h
set_option maxRecDepth 100000 in
theorem wTakeData_any (g : Nat) (st : St) (w : World) (h : RS g st w) (hb : ∀ l,st = some l→l.length≤1000000) :
  Calls Tryz.prog 84 #[.pointer (some ⟨g,0,none⟩)] w (TookDt g st w):=by
 have c4 : Calls Tryz.prog 80 #[.pointer (some ⟨g,0,none⟩),.int .i64 4] w (Took1 (RS g) g numV (numP 4) 0 st w):=takeS_any g 4 st w h (by omega)
 have hgw:=h.lt
 clear h
 have hlb : ∀ (s1 : St) (n : Nat),Res (numP 4) st n s1→lenS s1≤1000000:=fun s1 n h=>by
  rcases h with ⟨l,r,rfl,hp,rfl⟩ | ⟨_,rfl⟩
  ·have:=hb l rfl
   unfold numP at hp
   split at hp
   ·injection hp with hp;injection hp with h1 h2
    subst h2
    show (l.drop 4).length≤_
    rw [List.length_drop];omega
   ·cases hp
  ·exact Nat.zero_le _
 clear hb
 have key : ∀ w1 n st1,RS g st1 w1→Only g w w1→Res (numP 4) st n st1→(st1 = none→n = 0)→n < 4294967296→Calls Tryz.prog 86 #[.pointer (some ⟨g,0,none⟩)] w1 fun e w'=>e = .returned (.int .i64 ((lenS st1 : Nat) : Int))∧w1 = w':=fun w1 n st1 h _ _ _ _=>leftS_any g st1 w1 h
 go_enter Tryz.func84,Tryz.ntmps84
 go_wp2_with (go_at_call 80;((with_reducible refine c4.mono ?_);rintro e w1 ⟨n,st1,rfl,hr1,ho1,hR1,hz1⟩;have D1:=hid hr1;have O1:=hid ho1;have R1:=hid hR1;have Z1:=hid hz1;clear hr1 ho1 hR1))
 have hn32 : n < 4294967296:=num_lt R1.out Z1.out (by decide)
 have hls:=hlb _ _ R1.out
 have cL : Calls Tryz.prog 86 #[.pointer (some ⟨g,0,none⟩)] w1 fun e w'=>e = .returned (.int .i64 ((lenS st1 : Nat) : Int))∧w1 = w':=leftS_any g st1 w1 D1.out
 have hwr : IntKind.u64.wrap ((lenS st1 : Nat) : Int) = ((lenS st1 : Nat) : Int):=by rw [IntKind.wrap_u64];omega
 have hw1:=O1.out.size
 clear hz1 c4 hlb key
 by_cases hne : n = lenS st1
 rotate_left
 ·have i1 : ¬ ((n : Nat) : Int) = ((lenS st1 : Nat) : Int):=by omega
  have Q:=hid (dataR_no R1.out Z1.out hne)
  generalize lenS st1 = z at *
  go_wp2_with (first | (go_at_call 86;((with_reducible refine cL.mono ?_);rintro e w' ⟨rfl,rfl⟩)) | (go_at_call 114;((with_reducible refine (wfail_any g _ _ D1.out).mono ?_);rintro e w2 ⟨rfl,hr2,ho2⟩;have D2:=hid hr2;have O2:=hid (O1.out.trans ho2);have E0 : Hid (RS g none (w2.alloc (.cells (madeCells #[Value.int .u8 0] 0) 5))):=RdAt.keep D2.out (fun b hb=>Below.heap_alloc _ _ _ (by have : g < w2.heap.size:=D2.out.lt;omega));have P0 : Hid (Only g w (w2.alloc (.cells (madeCells #[Value.int .u8 0] 0) 5))):=O2.out.trans (below_only ((Below.refl _ _).alloc (Nat.le_refl _) _));have N0 : Hid (NewP w.heap.size (some ⟨w2.heap.size,0,none⟩)):=new_made w2 O2.out.size;have cL0 : Calls Tryz.prog 86 #[.pointer (some ⟨g,0,none⟩)] w2 fun e w'=>e = .returned (.int .i64 0)∧w2 = w':=leftS_any g none w2 D2.out;have hmk0 : (Instr.makeSlice 34 (.int .i64 0) (.int .i64 0)).run Tryz.prog w2 = .ok (.slice (some ⟨w2.heap.size,0,none⟩) 0 0) (w2.alloc (.cells (madeCells #[Value.int .u8 0] 0) 5)):=make_w w2 0 (by omega))) | (go_at_call 86;((with_reducible refine cL0.mono ?_);rintro e w' ⟨rfl,rfl⟩)))
  generalize w2.alloc (.cells (madeCells #[Value.int .u8 0] 0) 5) = W4 at *
  go_loopw [18] (fun v wr=>v = .int .i64 0∧wr = W4) (fun _ _=>0)
  case atStart=>exact ⟨rfl,rfl⟩
  case round =>
   obtain ⟨rfl,rfl⟩:=hrel
   go_wp2
   go_ret
   exact ⟨_,0,0,[],none,rfl,E0.out,P0.out,BAt.nil,⟨by omega,N0.out⟩,Q.out⟩
 subst hne
 cases st1 with
 | none =>
  have Q:=hid (dataR_none R1.out)
  have E0 : Hid (RS g none (w1.alloc (.cells (madeCells #[Value.int .u8 0] 0) 5))):=RdAt.keep D1.out (fun b hb=>Below.heap_alloc _ _ _ (by have : g < w1.heap.size:=D1.out.lt;omega));have P0 : Hid (Only g w (w1.alloc (.cells (madeCells #[Value.int .u8 0] 0) 5))):=O1.out.trans (below_only ((Below.refl _ _).alloc (Nat.le_refl _) _));have N0 : Hid (NewP w.heap.size (some ⟨w1.heap.size,0,none⟩)):=new_made w1 O1.out.size;have cL0 : Calls Tryz.prog 86 #[.pointer (some ⟨g,0,none⟩)] w1 fun e w'=>e = .returned (.int .i64 0)∧w1 = w':=leftS_any g none w1 D1.out;have hmk0 : (Instr.makeSlice 34 (.int .i64 0) (.int .i64 0)).run Tryz.prog w1 = .ok (.slice (some ⟨w1.heap.size,0,none⟩) 0 0) (w1.alloc (.cells (madeCells #[Value.int .u8 0] 0) 5)):=make_w w1 0 (by omega)
  clear cL hwr hls hn32
  go_wp2_with (first | (go_at_call 86;((with_reducible refine cL0.mono ?_);rintro e w' ⟨rfl,rfl⟩)))
  generalize w1.alloc (.cells (madeCells #[Value.int .u8 0] 0) 5) = W4 at *
  go_loopw [18] (fun v wr=>v = .int .i64 0∧wr = W4) (fun _ _=>0)
  case atStart=>exact ⟨rfl,rfl⟩
  case round =>
   obtain ⟨rfl,rfl⟩:=hrel
   go_wp2
   go_ret
   exact ⟨_,0,0,[],none,rfl,E0.out,P0.out,BAt.nil,⟨by omega,N0.out⟩,Q.out⟩
 | some r =>
  have hrl : r.length≤1000000:=hls
  have Q:=hid (dataR_all R1.out rfl)
  have hmk:=make_w w1 r.length hrl
  have cL1 : Calls Tryz.prog 86 #[.pointer (some ⟨g,0,none⟩)] w1 fun e w'=>e = .returned (.int .i64 ((r.length : Nat) : Int))∧w1 = w':=cL
  have hg1 : g < w1.heap.size:=D1.out.lt
  have E0 : Hid (DatR g w1.heap.size r r.length 0 w (w1.alloc (.cells (madeCells #[Value.int .u8 0] r.length) 5))):=by
   refine ⟨RdAt.keep D1.out (fun b hb=>Below.heap_alloc _ _ _ (by omega)),O1.out.trans (below_only ((Below.refl _ _).alloc (Nat.le_refl _) _)),?_,hw1⟩
   rw [made_bytes]
   exact BoxC.new w1 _ 5
  have hwr1 : IntKind.u64.wrap ((r.length : Nat) : Int) = ((r.length : Nat) : Int):=hwr
  clear cL hls hwr
  have hn : lenS (some r) = r.length:=rfl
  rw [hn] at *
  go_wp2_with (go_at_call 86;((with_reducible refine cL1.mono ?_);rintro e w' ⟨rfl,rfl⟩))
  clear hmk D1 O1 R1 Z1 cL1
  generalize w1.alloc (.cells (madeCells #[Value.int .u8 0] r.length) 5) = W2 at *
  generalize w1.heap.size = D at *
  generalize hN : r.length = N at *
  go_loopw [18] (fun v wr => ∃ i,i≤N∧v = .int .i64 ((i : Nat) : Int)∧DatR g D r N i w wr) (fun v _=>N - (intOf v).toNat)
  case atStart=>exact ⟨0,Nat.zero_le _,rfl,E0.out⟩
  case round =>
   obtain ⟨i,hin,rfl,hE⟩:=hrel
   have E1:=hid hE
   clear hE E0
   by_cases hlt : i < N
   ·have hir : i < r.length:=by omega
    have c1 : Calls Tryz.prog 80 #[.pointer (some ⟨g,0,none⟩),.int .i64 1] wr fun e w'=>e = .returned (.int .u64 ((r[i].toNat : Nat) : Int))∧RdAt w' g ((r.drop i).drop 1) true∧Only g wr w':=by
     have h1:=take_yes g (r.drop i) 1 wr E1.out.1 (by rw [List.length_drop];omega) (by omega)
     have e1 : numB ((r.drop i).take 1) = r[i].toNat:=by
      rw [List.drop_eq_getElem_cons hir,List.take_succ_cons,List.take_zero,numB_cons,numB_nil];simp
     rw [e1] at h1;exact h1
    have hb8 : r[i].toNat < 256:=r[i].toNat_lt
    have TK : Hid (bcells (r.take (i + 1)) = bcells (r.take i) ++ [Value.int .u8 ((r[i].toNat : Nat) : Int)]):=by
     unfold Hid
     rw [List.take_succ_eq_append_getElem hir,bcells_app];rfl
    have LT : Hid ((bcells (r.take i)).length = i):=by unfold Hid;rw [bcells_len,List.length_take];omega
    have DR : Hid ((r.drop i).drop 1 = r.drop (i + 1)):=by unfold Hid;rw [List.drop_drop]
    generalize r[i].toNat = q at *
    have GD : Hid (g < D):=by have:=E1.out.2.2.2;unfold Hid;omega
    clear hN
    go_upto_region 8 with (go_at_call 80;((with_reducible refine c1.mono ?_);rintro e w3 ⟨rfl,hr3,ho3⟩;have B3:=hid (E1.out.2.2.1.only ho3 (by have:=GD.out;omega));have D3:=hid hr3;have O3:=hid (E1.out.2.1.trans ho3);have y3 : w3.cell? ⟨D,i,none⟩ = some (.int .u8 0):=B3.out.cell i _ (by rw [List.getElem?_toArray,List.getElem?_append_right (by rw [LT.out];exact Nat.le_refl _),LT.out,Nat.sub_self,List.getElem?_replicate];simp;omega);have f3:=B3.out.frozen i))
    have E4 : Hid (DatR g D r N (i + 1) w (w3.setCell ⟨D,i,none⟩ (.int .u8 ((q : Nat) : Int)))):=by
     have hD:=E1.out.2.2.2
     refine ⟨?_,?_,?_,hD⟩
     ·rw [← DR.out]
      exact RdAt.keep D3.out (fun b hb=>Below.heap_setCell _ _ _ _ (by have:=GD.out;show b≠D;omega))
     ·exact ⟨O3.out.os,O3.out.tape,O3.out.output,by have:=O3.out.size;simpa [World.setCell] using this,fun b hb hne=>(Below.heap_setCell _ _ _ _ (by show b≠D;omega)).trans (O3.out.block b hb hne)⟩
     ·rw [TK.out,← set_at _ _ _ N i LT.out hlt]
      exact B3.out.set i _
    clear y3 f3
    generalize w3.setCell ⟨D,i,none⟩ (.int .u8 ((q : Nat) : Int)) = W4 at *
    go_wp2
    go_roundw
    case rel=>exact ⟨i + 1,by omega,by go_num,E4.out⟩
    case measure=>simp [intOf];omega
   ·obtain rfl : i = N:=by omega
    have LN : Hid (i = r.length):=hN.symm
    clear hN
    go_wp2
    go_ret
    have e1 : r.take i = r:=by rw [LN.out,List.take_length]
    have hX:=E1.out.2.2.1
    have hD:=E1.out.2.2.2
    rw [e1,Nat.sub_self] at hX
    have hS:=E1.out.1
    rw [LN.out,List.drop_length] at hS
    refine ⟨_,i,i,r,_,rfl,hS,E1.out.2.1,⟨LN.out.symm,.inr ⟨D,0,rfl,hX.lt,fun j hj=>?_⟩⟩,⟨by have:=LN.out;omega,fun p e=>by injection e with e;subst e;exact hD⟩,Q.out⟩
    rw [Nat.zero_add]
    refine hX.cell j _ ?_
    rw [List.getElem?_toArray,List.getElem?_append_left (by rw [bcells_len];exact hj)]
    show (r.map _)[j]? = _
    rw [List.getElem?_map,List.getElem?_eq_getElem hj]
    rfl
end Go.Proofs.YtcfmifongbapkaaGreatDoor
