/- What the law's act does to both disks: both answer alike, and are alike behind it. Conditions: both lie in memory, and the records and bytes that are given; the tables of utf8 lie there. -/
import Derived.Test.YtcfmifongbapkaaGreatDoorRZK
import Derived.Test.YtcfmifongbapkaaGreatDoorRZI
import Derived.Deep.RegionHeld3
import Derived.Deep.RegionLaw
import Derived.Deep.RegionWith
namespace Go.Proofs.YtcfmifongbapkaaGreatDoor
set_option maxRecDepth 100000
set_option maxHeartbeats 4000000
open Go.RowKit
open Go.Lib (hid)
set_option linter.unusedVariables false
set_option linter.unusedSimpArgs false
abbrev FuB (d : Dk) : Prop:=d.fuse < 9223372036854775808
theorem FuB.goes {d : Dk} (h : FuB d) : FuB (goesD d):=by
 unfold FuB goesD at *
 split
 ·exact h
 ·split
  ·show d.fuse - 1 < _;omega
  ·exact h
theorem FuB.app {d : Dk} {l : List UInt8} (h : FuB d) : FuB (appD d l):=by
 unfold appD
 split
 ·exact h
 ·split
  ·exact h
  ·exact h.goes
theorem FuB.syn {d : Dk} (h : FuB d) : FuB (synD d):=by
 unfold synD
 split
 ·exact h
 ·split
  ·exact h.goes
  ·exact h.goes
theorem FuB.rep {d : Dk} {l : List UInt8} (h : FuB d) : FuB (repD d l):=by
 unfold repD
 split
 ·exact h
 ·split
  ·exact h
  ·split
   ·exact h.goes
   ·exact h.goes
theorem FuB.fus {d : Dk} {n : Int} (h : n < 9223372036854775808) : FuB (fusD d n):=by show max n (-1) < _;omega
theorem FuB.cut (d : Dk) (n : Int) : FuB (cutD d n):=by show (-1 : Int) < _;decide
theorem FuB.add {d : Dk} {x : Rc} (h : FuB d) : FuB (addD d x):=by
 unfold addD
 split
 ·exact h.app
 ·exact h
theorem FuB.cmp {d : Dk} {D : List RE} (h : FuB d) : FuB (cmpD d D):=by
 unfold cmpD
 split
 ·exact h.rep
 ·exact h
theorem FuB.opn {d : Dk} (h : FuB d) : FuB (opnD d):=by
 unfold opnD
 split
 ·exact h
 ·split
  ·exact h
  ·exact h.rep
/-- A disk of a law's size: what is there fits. -/
def SzB (d : Dk) : Prop:=d.size≤65535∧BndD d 65535
theorem SzB.new {n : Int} (h : n≤65535) : SzB (newD n):=⟨by show max n 0≤65535;omega,(BndD.new n).mono (by omega)⟩
theorem SzB.app {d : Dk} {l : List UInt8} (h : SzB d) : SzB (appD d l):=by
 unfold appD
 split
 ·exact h
 ·split
  ·exact h
  ·rename_i hf
   unfold fullA at hf
   have hf2 : ¬ d.size < (d.la.length : Int) + d.re.length + l.length:=by simpa using hf
   have h1:=h.1
   refine ⟨by show (goesD d).size≤65535;rw [goes_size];exact h1,?_,?_⟩
   ·show (goesD d).la.length + (d.re ++ l).length≤65535
    rw [goes_la,List.length_append];omega
   ·show (goesD d).half.length≤65535
    rw [goes_half];exact h.2.2
theorem SzB.syn {d : Dk} (h : SzB d) : SzB (synD d):=by
 refine ⟨?_,h.2.syn⟩
 unfold synD
 split
 ·exact h.1
 ·split
  ·rw [goes_size];exact h.1
  ·show (goesD d).size≤65535;rw [goes_size];exact h.1
theorem SzB.rep {d : Dk} {l : List UInt8} (h : SzB d) : SzB (repD d l):=by
 unfold repD
 split
 ·exact h
 ·split
  ·exact h
  ·rename_i hf
   unfold fullR at hf
   have hf2 : ¬ d.size < (l.length : Int):=by simpa using hf
   have h1:=h.1
   split
   ·refine ⟨by show (goesD d).size≤65535;rw [goes_size];exact h1,?_,?_⟩
    ·show (goesD d).la.length + (goesD d).re.length≤65535
     rw [goes_la,goes_re];exact h.2.1
    ·show l.length≤65535
     omega
   ·refine ⟨by show (goesD d).size≤65535;rw [goes_size];exact h1,?_,?_⟩
    ·show l.length + 0≤65535
     omega
    ·show (goesD d).half.length≤65535
     rw [goes_half];exact h.2.2
theorem SzB.fus {d : Dk} (h : SzB d) (n : Int) : SzB (fusD d n):=h
theorem SzB.cut {d : Dk} (h : SzB d) (n : Int) : SzB (cutD d n):=⟨h.1,h.2.cut n⟩
theorem SzB.add {d : Dk} {x : Rc} (h : SzB d) : SzB (addD d x):=by
 unfold addD
 split
 ·exact h.app
 ·exact h
theorem SzB.cmp {d : Dk} {D : List RE} (h : SzB d) : SzB (cmpD d D):=by
 unfold cmpD
 split
 ·exact h.rep
 ·exact h
theorem SzB.opn {d : Dk} (h : SzB d) : SzB (opnD d):=by
 unfold opnD
 split
 ·exact h
 ·split
  ·exact h
  ·exact h.rep
theorem tells_len (ls : List (List UInt8)) : (tells ls).length≤ls.length:=by
 induction ls with
 | nil=>exact Nat.le_refl _
 | cons b r ih =>
  unfold tells
  split
  ·rw [List.length_cons,List.length_cons];omega
  ·exact Nat.zero_le _
theorem opnL_len {d : Dk} (h : SzB d) : (opnL d).length≤65535:=by
 unfold opnL
 split
 ·have h1:=tells_len (allB (opnB d))
  have h2:=(all_sizes (opnB d)).2
  have h3 : (opnB d).length≤65535:=by unfold opnB;rw [List.length_append];exact h.2.1
  have h4 : (tellB (opnB d)).length = (tells (allB (opnB d))).length:=rfl
  omega
 ·exact Nat.zero_le _
theorem rcC_one2 (z : RE) : ∀ u ∈ rcC z,u.oneCell' = true:=by
 intro u hu
 simp [rcC] at hu
 rcases hu with rfl | rfl | rfl | rfl | rfl | rfl | rfl | rfl | rfl | rfl | rfl | rfl | rfl | rfl | rfl <;> rfl
theorem flat_one2 (L : List RE) : ∀ u ∈ L.flatMap rcC,u.oneCell' = true:=by
 intro u hu
 obtain ⟨z,_,hz⟩:=List.mem_flatMap.1 hu
 exact rcC_one2 z u hz
theorem nil_grown2 {W W' : World} {n c : Nat} (h : W.grownBy W' (Value.slice none n c).ownBlock) : Below W.heap.size W W':=⟨h.os,h.tape,h.output,h.size,fun b hb=>h.block b hb (fun e=>by cases e)⟩
theorem own_recs2 {w V V' : World} {a a1 : Option Addr} {n c1 B : Nat} {L : List RE} (h : RcsAt w a n L) (hb : Below w.heap.size w V) (ho : V'.ownsRow B 36 15 (.slice a1 n c1) n (L.flatMap rcC)) (hg : V.grownBy V' (Value.slice none 0 0).ownBlock) : RcsAt V' a1 n L :=
 ⟨h.len,RowAt.of_own ho,fun z hz=>⟨(h.all z hz).1.later (hb.trans ((nil_grown2 hg).mono hb.size)),(h.all z hz).2⟩⟩
abbrev pairC (g h : Nat) : Array Value:=#[.pointer (some ⟨g,0,none⟩),.pointer (some ⟨h,0,none⟩)]
/-- Both answered alike, and are alike. -/
def ActD (W : World) (pb : Nat) (e : Ending) (w' : World) : Prop :=
 e = .returned (.bool true)∧∃ g h d,Duo W w' g h d d [(pb,pairC g h,67)]∧SzB d∧FuB d
theorem BoxC.fourc {w : World} {g : Nat} {c0 c1 c2 c3 : Value} {t : TypeId} (h : BoxC w g #[c0,c1,c2,c3] t) : w.cell? ⟨g,0,none⟩ = some c0∧w.cell? ⟨g,1,none⟩ = some c1∧w.cell? ⟨g,2,none⟩ = some c2∧w.cell? ⟨g,3,none⟩ = some c3 :=
 ⟨h.cell 0 c0 rfl,h.cell 1 c1 rfl,h.cell 2 c2 rfl,h.cell 3 c3 rfl⟩
theorem ActD.of {W V : World} {pb : Nat} {e : Ending} {g h : Nat} {d : Dk} {b : Nat×Array Value×TypeId} (he : e = .returned (.bool true)) (T : Duo W V g h d d [(pb,pairC g h,67),b]) (B : SzB d) (F : FuB d) : ActD W pb e V :=
 ⟨he,g,h,d,T.sub _ (fun b hb=>by simp at hb;simp [hb]),B,F⟩
theorem Duo.flip {W V : World} {g h : Nat} {d e : Dk} {a b : Nat×Array Value×TypeId} (T : Duo W V g h d e [a,b]) : Duo W V g h d e [b,a]:=T.sub _ (fun x hx=>by simp at hx ⊢;rcases hx with h | h <;> simp [h])
theorem act2_any (W V : World) (g h pb : Nat) (d : Dk) (n : Int) (la : Option Addr) (ln lc : Nat) (L : List RE) (a : Option Addr) (m c : Nat) (l : List UInt8) (T : Duo W V g h d d [(pb,pairC g h,67)]) (B : SzB d) (F : FuB d) (hL : RcsAt W la ln L) (hl6 : ln≤6) (hlc : ln≤lc) (hlm : lc≤maxLen) (hb : BAt W W.heap.size a m l) (hm : m≤1000) (hn1 : -9223372036854775808≤n) (hn2 : n < 9223372036854775808) (hU : Tabs W) :
  Calls Tryz.prog 22 #[.pointer (some ⟨pb,0,none⟩),.agg #[.int .i64 2,.int .i64 n,.slice la ln lc,.slice a m c]] V (ActD W pb):=by
 have TT : Hid (Duo W (V.alloc (.cells #[.int .i64 2,.int .i64 n,.slice la ln lc,.slice a m c] 69)) g h d d [(pb,pairC g h,67),(V.heap.size,#[.int .i64 2,.int .i64 n,.slice la ln lc,.slice a m c],69)]):=(T.more #[.int .i64 2,.int .i64 n,.slice la ln lc,.slice a m c] 69).flip
 have NE : Hid (pb≠V.heap.size):=by have:=(T.box 0 _ _ _ rfl).lt;unfold Hid;omega
 have BB : Hid (BndD d 1099511627776):=B.2.mono (by omega)
 have BM : Hid (BndD d 1000000):=B.2.mono (by omega)
 have B0:=hid B
 have FF:=hid F
 have HB:=hid hb
 have HL:=hid hL
 have HC : Hid (ln≤6∧ln≤lc∧lc≤maxLen):=⟨hl6,hlc,hlm⟩
 have TU : Hid (∀ X,Below W.heap.size W X→Tabs X):=fun X hX=>hU.below hX
 clear T B F hb hL hU hl6 hlc hlm
 go_enter Tryz.func22,Tryz.ntmps22
 go_upto_region 7 with fail
 obtain ⟨ob,hob⟩ : ∃ ob,ob = V.heap.size:=⟨_,rfl⟩
 generalize V.alloc (.cells #[.int .i64 2,.int .i64 n,.slice la ln lc,.slice a m c] 69) = V1 at *
 rw [← hob] at TT NE
 rw [← hob]
 clear hob
 have TD:=hid TT.out.drew
 have z:=(TD.out.box 0 _ _ _ rfl).two
 have y:=(TD.out.box 1 _ _ _ rfl).fourc
 have s0 : V1.drew.cell? ⟨pb,0,none⟩ = some (.pointer (some ⟨g,0,none⟩))∧V1.drew.cell? ⟨pb,1,none⟩ = some (.pointer (some ⟨h,0,none⟩)):=⟨z.1,z.2⟩
 clear z y
 go_region_held3 (fun w'=>w'.cell? ⟨pb,0,none⟩ = some (.pointer (some ⟨g,0,none⟩))∧w'.cell? ⟨pb,1,none⟩ = some (.pointer (some ⟨h,0,none⟩))) (first | exact s0 | exact s1 | exact s2)
  (first | (go_at_call 26;((with_reducible refine (pSync TD.out FF.out).mono ?_);rintro e w1 ⟨rfl,hT⟩;have T2:=hid hT;clear hT;have z:=(T2.out.box 0 _ _ _ rfl).two;have y:=(T2.out.box 1 _ _ _ rfl).fourc;have s1 : w1.cell? ⟨pb,0,none⟩ = some (.pointer (some ⟨g,0,none⟩))∧w1.cell? ⟨pb,1,none⟩ = some (.pointer (some ⟨h,0,none⟩)):=⟨z.1,z.2⟩;clear z y)) | (go_at_call 57;((with_reducible refine (dSync T2.out FF.out BB.out).mono ?_);rintro e w2 ⟨rfl,hT⟩;have T3:=hid hT;clear hT;have z:=(T3.out.box 0 _ _ _ rfl).two;have y:=(T3.out.box 1 _ _ _ rfl).fourc;have s2 : w2.cell? ⟨pb,0,none⟩ = some (.pointer (some ⟨g,0,none⟩))∧w2.cell? ⟨pb,1,none⟩ = some (.pointer (some ⟨h,0,none⟩)):=⟨z.1,z.2⟩;clear z y)))
 go_wp2
 go_ret
 exact ActD.of (by simp) T3.out B0.out.syn FF.out.syn
theorem act7_any (W V : World) (g h pb : Nat) (d : Dk) (n : Int) (la : Option Addr) (ln lc : Nat) (L : List RE) (a : Option Addr) (m c : Nat) (l : List UInt8) (T : Duo W V g h d d [(pb,pairC g h,67)]) (B : SzB d) (F : FuB d) (hL : RcsAt W la ln L) (hl6 : ln≤6) (hlc : ln≤lc) (hlm : lc≤maxLen) (hb : BAt W W.heap.size a m l) (hm : m≤1000) (hn1 : -9223372036854775808≤n) (hn2 : n < 9223372036854775808) (hU : Tabs W) :
  Calls Tryz.prog 22 #[.pointer (some ⟨pb,0,none⟩),.agg #[.int .i64 7,.int .i64 n,.slice la ln lc,.slice a m c]] V (ActD W pb):=by
 have TT : Hid (Duo W (V.alloc (.cells #[.int .i64 7,.int .i64 n,.slice la ln lc,.slice a m c] 69)) g h d d [(pb,pairC g h,67),(V.heap.size,#[.int .i64 7,.int .i64 n,.slice la ln lc,.slice a m c],69)]):=(T.more #[.int .i64 7,.int .i64 n,.slice la ln lc,.slice a m c] 69).flip
 have NE : Hid (pb≠V.heap.size):=by have:=(T.box 0 _ _ _ rfl).lt;unfold Hid;omega
 have BB : Hid (BndD d 1099511627776):=B.2.mono (by omega)
 have BM : Hid (BndD d 1000000):=B.2.mono (by omega)
 have B0:=hid B
 have FF:=hid F
 have HB:=hid hb
 have HL:=hid hL
 have HC : Hid (ln≤6∧ln≤lc∧lc≤maxLen):=⟨hl6,hlc,hlm⟩
 have TU : Hid (∀ X,Below W.heap.size W X→Tabs X):=fun X hX=>hU.below hX
 clear T B F hb hL hU hl6 hlc hlm
 go_enter Tryz.func22,Tryz.ntmps22
 go_upto_region 26 with fail
 obtain ⟨ob,hob⟩ : ∃ ob,ob = V.heap.size:=⟨_,rfl⟩
 generalize V.alloc (.cells #[.int .i64 7,.int .i64 n,.slice la ln lc,.slice a m c] 69) = V1 at *
 rw [← hob] at TT NE
 rw [← hob]
 clear hob
 have TD:=hid TT.out.drew
 have z:=(TD.out.box 0 _ _ _ rfl).two
 have y:=(TD.out.box 1 _ _ _ rfl).fourc
 have s0 : V1.drew.cell? ⟨pb,0,none⟩ = some (.pointer (some ⟨g,0,none⟩))∧V1.drew.cell? ⟨pb,1,none⟩ = some (.pointer (some ⟨h,0,none⟩))∧V1.drew.cell? ⟨ob,3,none⟩ = some (.slice a m c):=⟨z.1,z.2,y.2.2.2⟩
 clear z y
 go_region_held3 (fun w'=>w'.cell? ⟨pb,0,none⟩ = some (.pointer (some ⟨g,0,none⟩))∧w'.cell? ⟨pb,1,none⟩ = some (.pointer (some ⟨h,0,none⟩))∧w'.cell? ⟨ob,3,none⟩ = some (.slice a m c)) (first | exact s0 | exact s1 | exact s2)
  (first | (go_at_call 63;((with_reducible refine (pAppend (n:=m) (c:=c) TD.out FF.out BB.out HB.out (by omega)).mono ?_);rintro e w1 ⟨rfl,hT⟩;have T2:=hid hT;clear hT;have z:=(T2.out.box 0 _ _ _ rfl).two;have y:=(T2.out.box 1 _ _ _ rfl).fourc;have s1 : w1.cell? ⟨pb,0,none⟩ = some (.pointer (some ⟨g,0,none⟩))∧w1.cell? ⟨pb,1,none⟩ = some (.pointer (some ⟨h,0,none⟩))∧w1.cell? ⟨ob,3,none⟩ = some (.slice a m c):=⟨z.1,z.2,y.2.2.2⟩;clear z y)) | (go_at_call 64;((with_reducible refine (dAppend (n:=m) (c:=c) T2.out FF.out BB.out HB.out (by omega)).mono ?_);rintro e w2 ⟨rfl,hT⟩;have T3:=hid hT;clear hT;have z:=(T3.out.box 0 _ _ _ rfl).two;have y:=(T3.out.box 1 _ _ _ rfl).fourc;have s2 : w2.cell? ⟨pb,0,none⟩ = some (.pointer (some ⟨g,0,none⟩))∧w2.cell? ⟨pb,1,none⟩ = some (.pointer (some ⟨h,0,none⟩))∧w2.cell? ⟨ob,3,none⟩ = some (.slice a m c):=⟨z.1,z.2,y.2.2.2⟩;clear z y)))
 go_wp2
 go_ret
 exact ActD.of (by simp) T3.out B0.out.app FF.out.app
theorem act1n_any (W V : World) (g h pb : Nat) (d : Dk) (n : Int) (la : Option Addr) (ln lc : Nat) (L : List RE) (a : Option Addr) (m c : Nat) (l : List UInt8) (h0 : ln = 0) (T : Duo W V g h d d [(pb,pairC g h,67)]) (B : SzB d) (F : FuB d) (hL : RcsAt W la ln L) (hl6 : ln≤6) (hlc : ln≤lc) (hlm : lc≤maxLen) (hb : BAt W W.heap.size a m l) (hm : m≤1000) (hn1 : -9223372036854775808≤n) (hn2 : n < 9223372036854775808) (hU : Tabs W) :
  Calls Tryz.prog 22 #[.pointer (some ⟨pb,0,none⟩),.agg #[.int .i64 1,.int .i64 n,.slice la ln lc,.slice a m c]] V (ActD W pb):=by
 have TT : Hid (Duo W (V.alloc (.cells #[.int .i64 1,.int .i64 n,.slice la ln lc,.slice a m c] 69)) g h d d [(pb,pairC g h,67),(V.heap.size,#[.int .i64 1,.int .i64 n,.slice la ln lc,.slice a m c],69)]):=(T.more #[.int .i64 1,.int .i64 n,.slice la ln lc,.slice a m c] 69).flip
 have NE : Hid (pb≠V.heap.size):=by have:=(T.box 0 _ _ _ rfl).lt;unfold Hid;omega
 have BB : Hid (BndD d 1099511627776):=B.2.mono (by omega)
 have BM : Hid (BndD d 1000000):=B.2.mono (by omega)
 have B0:=hid B
 have FF:=hid F
 have HB:=hid hb
 have HL:=hid hL
 have HC : Hid (ln≤6∧ln≤lc∧lc≤maxLen):=⟨hl6,hlc,hlm⟩
 have TU : Hid (∀ X,Below W.heap.size W X→Tabs X):=fun X hX=>hU.below hX
 clear T B F hb hL hU hl6 hlc hlm
 go_enter Tryz.func22,Tryz.ntmps22
 subst h0
 have y:=(TT.out.box 1 _ _ _ rfl).fourc
 obtain ⟨y0,y1,y2,y3⟩:=y
 go_wp2
 go_ret
 exact ActD.of rfl TT.out B0.out FF.out
theorem act1_any (W V : World) (g h pb : Nat) (d : Dk) (n : Int) (la : Option Addr) (ln lc : Nat) (L : List RE) (a : Option Addr) (m c : Nat) (l : List UInt8) (h0 : 0 < ln) (T : Duo W V g h d d [(pb,pairC g h,67)]) (B : SzB d) (F : FuB d) (hL : RcsAt W la ln L) (hl6 : ln≤6) (hlc : ln≤lc) (hlm : lc≤maxLen) (hb : BAt W W.heap.size a m l) (hm : m≤1000) (hn1 : -9223372036854775808≤n) (hn2 : n < 9223372036854775808) (hU : Tabs W) :
  Calls Tryz.prog 22 #[.pointer (some ⟨pb,0,none⟩),.agg #[.int .i64 1,.int .i64 n,.slice la ln lc,.slice a m c]] V (ActD W pb):=by
 have TT : Hid (Duo W (V.alloc (.cells #[.int .i64 1,.int .i64 n,.slice la ln lc,.slice a m c] 69)) g h d d [(pb,pairC g h,67),(V.heap.size,#[.int .i64 1,.int .i64 n,.slice la ln lc,.slice a m c],69)]):=(T.more #[.int .i64 1,.int .i64 n,.slice la ln lc,.slice a m c] 69).flip
 have NE : Hid (pb≠V.heap.size):=by have:=(T.box 0 _ _ _ rfl).lt;unfold Hid;omega
 have BB : Hid (BndD d 1099511627776):=B.2.mono (by omega)
 have BM : Hid (BndD d 1000000):=B.2.mono (by omega)
 have B0:=hid B
 have FF:=hid F
 have HB:=hid hb
 have HL:=hid hL
 have HC : Hid (ln≤6∧ln≤lc∧lc≤maxLen):=⟨hl6,hlc,hlm⟩
 have TU : Hid (∀ X,Below W.heap.size W X→Tabs X):=fun X hX=>hU.below hX
 clear T B F hb hL hU hl6 hlc hlm
 obtain ⟨b0,off,rfl,hb0,LD0⟩:=HL.out.raw.at_ (i:=0) (by rw [HL.out.len];exact h0)
 have hZ:=HL.out.all _ (List.getElem_mem (show 0 < L.length by rw [HL.out.len];exact h0))
 have HX : Hid (∀ X,Below W.heap.size W X→RcAt X (L[0]'(by rw [HL.out.len];exact h0)).1 (L[0]'(by rw [HL.out.len];exact h0)).2):=fun X hX=>hZ.1.later hX
 have HXF : Hid (RcF (L[0]'(by rw [HL.out.len];exact h0)).1):=hZ.2
 have LD : Hid (∀ X,Below W.heap.size W X→(Go.Proofs.YtcfmifongbapkaaGreatDoor.ldK (.pointer (some ⟨b0,off,none⟩))).run Tryz.prog X = .ok (.agg (rcV (L[0]'(by rw [HL.out.len];exact h0)).1)) X):=fun X hX=>by
  have:=(LD0 X hX).1
  rw [Nat.zero_mul,Nat.add_zero] at this;exact this
 clear LD0 hZ
 have i0 : (0 : Int) < ((ln : Nat) : Int):=by omega
 have i1 : ¬ ((ln : Nat) : Int) = 0:=by omega
 have i2 : (((ln : Nat) : Int) == 0) = false:=by simp;omega
 have i3 : ¬ ln = 0:=by omega
 have y:=(TT.out.box 1 _ _ _ rfl).fourc
 obtain ⟨y0,y1,y2,y3⟩:=y
 generalize (L[0]'(by rw [HL.out.len];exact h0)) = z at *
 go_enter Tryz.func22,Tryz.ntmps22
 go_upto_region 5 with fail
 clear y0 y1 y2 y3
 obtain ⟨ob,hob⟩ : ∃ ob,ob = V.heap.size:=⟨_,rfl⟩
 generalize V.alloc (.cells #[.int .i64 1,.int .i64 n,.slice (some ⟨b0,off,none⟩) ln lc,.slice a m c] 69) = V1 at *
 rw [← hob] at TT NE
 rw [← hob]
 clear hob
 have TD:=hid TT.out.drew
 have zz:=(TD.out.box 0 _ _ _ rfl).two
 have y:=(TD.out.box 1 _ _ _ rfl).fourc
 have s0 : V1.drew.cell? ⟨pb,0,none⟩ = some (.pointer (some ⟨g,0,none⟩))∧V1.drew.cell? ⟨pb,1,none⟩ = some (.pointer (some ⟨h,0,none⟩))∧V1.drew.cell? ⟨ob,2,none⟩ = some (.slice (some ⟨b0,off,none⟩) ln lc)∧(Go.Proofs.YtcfmifongbapkaaGreatDoor.ldK (.pointer (some ⟨b0,off,none⟩))).run Tryz.prog V1.drew = .ok (.agg (rcV z.1)) V1.drew:=⟨zz.1,zz.2,y.2.2.1,LD.out _ TD.out.bel⟩
 clear zz y
 go_region_held3 (fun w'=>w'.cell? ⟨pb,0,none⟩ = some (.pointer (some ⟨g,0,none⟩))∧w'.cell? ⟨pb,1,none⟩ = some (.pointer (some ⟨h,0,none⟩))∧w'.cell? ⟨ob,2,none⟩ = some (.slice (some ⟨b0,off,none⟩) ln lc)∧(Go.Proofs.YtcfmifongbapkaaGreatDoor.ldK (.pointer (some ⟨b0,off,none⟩))).run Tryz.prog w' = .ok (.agg (rcV z.1)) w') (first | exact s0 | exact s1 | exact s2 | exact s3)
  (first | (go_at_call 27;((with_reducible refine (pAdd TD.out FF.out BB.out (HX.out _ TD.out.bel) HXF.out (TU.out _ TD.out.bel)).mono ?_);rintro e w1 ⟨rfl,hT⟩;have T2:=hid hT;clear hT;have zz:=(T2.out.box 0 _ _ _ rfl).two;have y:=(T2.out.box 1 _ _ _ rfl).fourc;have s1 : w1.cell? ⟨pb,0,none⟩ = some (.pointer (some ⟨g,0,none⟩))∧w1.cell? ⟨pb,1,none⟩ = some (.pointer (some ⟨h,0,none⟩))∧w1.cell? ⟨ob,2,none⟩ = some (.slice (some ⟨b0,off,none⟩) ln lc)∧(Go.Proofs.YtcfmifongbapkaaGreatDoor.ldK (.pointer (some ⟨b0,off,none⟩))).run Tryz.prog w1 = .ok (.agg (rcV z.1)) w1:=⟨zz.1,zz.2,y.2.2.1,LD.out _ T2.out.bel⟩;clear zz y)) | (go_at_call 12;((with_reducible refine (plain_any z.1 _).mono ?_);rintro e w2 ⟨rfl,hb2⟩;have T3:=hid (T2.out.later hb2);clear hb2;have zz:=(T3.out.box 0 _ _ _ rfl).two;have y:=(T3.out.box 1 _ _ _ rfl).fourc;have s2 : w2.cell? ⟨pb,0,none⟩ = some (.pointer (some ⟨g,0,none⟩))∧w2.cell? ⟨pb,1,none⟩ = some (.pointer (some ⟨h,0,none⟩))∧w2.cell? ⟨ob,2,none⟩ = some (.slice (some ⟨b0,off,none⟩) ln lc)∧(Go.Proofs.YtcfmifongbapkaaGreatDoor.ldK (.pointer (some ⟨b0,off,none⟩))).run Tryz.prog w2 = .ok (.agg (rcV z.1)) w2:=⟨zz.1,zz.2,y.2.2.1,LD.out _ T3.out.bel⟩;clear zz y)) | (go_at_call 56;((with_reducible refine (dAdd T3.out FF.out BB.out (HX.out _ T3.out.bel) HXF.out).mono ?_);rintro e w3 ⟨rfl,hT⟩;have T4:=hid hT;clear hT;have zz:=(T4.out.box 0 _ _ _ rfl).two;have y:=(T4.out.box 1 _ _ _ rfl).fourc;have s3 : w3.cell? ⟨pb,0,none⟩ = some (.pointer (some ⟨g,0,none⟩))∧w3.cell? ⟨pb,1,none⟩ = some (.pointer (some ⟨h,0,none⟩))∧w3.cell? ⟨ob,2,none⟩ = some (.slice (some ⟨b0,off,none⟩) ln lc)∧(Go.Proofs.YtcfmifongbapkaaGreatDoor.ldK (.pointer (some ⟨b0,off,none⟩))).run Tryz.prog w3 = .ok (.agg (rcV z.1)) w3:=⟨zz.1,zz.2,y.2.2.1,LD.out _ T4.out.bel⟩;clear zz y)))
 go_wp2
 go_ret
 exact ActD.of (by simp) T4.out B0.out.add FF.out.add
theorem act3_any (W V : World) (g h pb : Nat) (d : Dk) (n : Int) (la : Option Addr) (ln lc : Nat) (L : List RE) (a : Option Addr) (m c : Nat) (l : List UInt8) (T : Duo W V g h d d [(pb,pairC g h,67)]) (B : SzB d) (F : FuB d) (hL : RcsAt W la ln L) (hl6 : ln≤6) (hlc : ln≤lc) (hlm : lc≤maxLen) (hb : BAt W W.heap.size a m l) (hm : m≤1000) (hn1 : -9223372036854775808≤n) (hn2 : n < 9223372036854775808) (hU : Tabs W) :
  Calls Tryz.prog 22 #[.pointer (some ⟨pb,0,none⟩),.agg #[.int .i64 3,.int .i64 n,.slice la ln lc,.slice a m c]] V (ActD W pb):=by
 have TT : Hid (Duo W (V.alloc (.cells #[.int .i64 3,.int .i64 n,.slice la ln lc,.slice a m c] 69)) g h d d [(pb,pairC g h,67),(V.heap.size,#[.int .i64 3,.int .i64 n,.slice la ln lc,.slice a m c],69)]):=(T.more #[.int .i64 3,.int .i64 n,.slice la ln lc,.slice a m c] 69).flip
 have NE : Hid (pb≠V.heap.size):=by have:=(T.box 0 _ _ _ rfl).lt;unfold Hid;omega
 have BB : Hid (BndD d 1099511627776):=B.2.mono (by omega)
 have BM : Hid (BndD d 1000000):=B.2.mono (by omega)
 have B0:=hid B
 have FF:=hid F
 have HB:=hid hb
 have HL:=hid hL
 have HC : Hid (ln≤6∧ln≤lc∧lc≤maxLen):=⟨hl6,hlc,hlm⟩
 have TU : Hid (∀ X,Below W.heap.size W X→Tabs X):=fun X hX=>hU.below hX
 clear T B F hb hL hU hl6 hlc hlm
 obtain ⟨iR,hiR,hzR0,hzR1,hzR2⟩:=info_parts Tryz.kInfo36
 have y:=(TT.out.box 1 _ _ _ rfl).fourc
 obtain ⟨y0,y1,y2,y3⟩:=y
 have R2 : Hid (RowAt (V.alloc (.cells #[.int .i64 3,.int .i64 n,.slice la ln lc,.slice a m c] 69)) (V.alloc (.cells #[.int .i64 3,.int .i64 n,.slice la ln lc,.slice a m c] 69)).heap.size la ln 15 (L.flatMap rcC)):=(HL.out.later TT.out.bel).row
 have h6:=HC.out.1
 have hcw:=HC.out.2.2
 unfold maxLen at hcw
 go_enter Tryz.func22,Tryz.ntmps22
 go_upto_region 10 with fail
 clear y0 y1 y2 y3
 obtain ⟨ob,hob⟩ : ∃ ob,ob = V.heap.size:=⟨_,rfl⟩
 generalize V.alloc (.cells #[.int .i64 3,.int .i64 n,.slice la ln lc,.slice a m c] 69) = V1 at *
 rw [← hob] at TT NE
 rw [← hob]
 clear hob
 obtain ⟨y0,y1,y2,y3⟩:=(TT.out.box 1 _ _ _ rfl).fourc
 go_upto_region 11 with (at_builtin;(refine wpList_append_rowk _ rfl _ _ 39 rfl V1.heap.size 36 iR (.agg zeroRV) 15 168 Tryz.underlying39 hiR hzR0 hzR1 hzR2 rfl (by omega) (.slice none 0 0) 0 [] rfl (World.ownsRow_nil _ _ _ _) V1.heap.size la ln lc (L.flatMap rcC) rfl R2.out (flat_one2 L) (by unfold maxLen;omega) (by omega) (Nat.le_refl _) ?_;intro u3 v3 ho3 hg3 hat3;rw [Nat.zero_add,List.nil_append] at ho3;obtain ⟨a3,c3,rfl,hc3,hm3⟩:=ownk_form ho3;have O3:=hid (own_recs2 HL.out TT.out.bel ho3 hg3);have TE:=hid (TT.out.later (nil_grown2 hg3));clear ho3 hg3 hat3))
 have TD:=hid TE.out.drew
 have O4 : Hid (RcsAt v3.drew a3 ln L):=O3.out.later (below_drewN 1 (Below.refl _ _))
 clear y0 y1 y2 y3
 have z:=(TD.out.box 0 _ _ _ rfl).two
 have y:=(TD.out.box 1 _ _ _ rfl).fourc
 have s0 : v3.drew.cell? ⟨pb,0,none⟩ = some (.pointer (some ⟨g,0,none⟩))∧v3.drew.cell? ⟨pb,1,none⟩ = some (.pointer (some ⟨h,0,none⟩))∧v3.drew.cell? ⟨ob,2,none⟩ = some (.slice la ln lc):=⟨z.1,z.2,y.2.2.1⟩
 clear z y
 go_region_held3 (fun w'=>w'.cell? ⟨pb,0,none⟩ = some (.pointer (some ⟨g,0,none⟩))∧w'.cell? ⟨pb,1,none⟩ = some (.pointer (some ⟨h,0,none⟩))∧w'.cell? ⟨ob,2,none⟩ = some (.slice la ln lc)) (first | exact s0 | exact s1 | exact s2 | exact s3)
  (first | (go_at_call 32;((with_reducible refine (pCompact TD.out FF.out O4.out (by omega) hc3 hm3 (TU.out _ TD.out.bel)).mono ?_);rintro e w1 ⟨rfl,hT⟩;have T2:=hid hT;clear hT;have z:=(T2.out.box 0 _ _ _ rfl).two;have y:=(T2.out.box 1 _ _ _ rfl).fourc;have s1 : w1.cell? ⟨pb,0,none⟩ = some (.pointer (some ⟨g,0,none⟩))∧w1.cell? ⟨pb,1,none⟩ = some (.pointer (some ⟨h,0,none⟩))∧w1.cell? ⟨ob,2,none⟩ = some (.slice la ln lc):=⟨z.1,z.2,y.2.2.1⟩;clear z y)) | (go_at_call 59;((with_reducible refine (all_recs la ln lc L _ (HL.out.later T2.out.bel) (by omega) HC.out.2.1 HC.out.2.2).mono ?_);rintro e w2 ⟨a5,c5,rfl,hb5,hR5,hc5,hm5⟩;have T3:=hid (T2.out.later hb5);have O5:=hid hR5;clear hb5 hR5;have z:=(T3.out.box 0 _ _ _ rfl).two;have y:=(T3.out.box 1 _ _ _ rfl).fourc;have s2 : w2.cell? ⟨pb,0,none⟩ = some (.pointer (some ⟨g,0,none⟩))∧w2.cell? ⟨pb,1,none⟩ = some (.pointer (some ⟨h,0,none⟩))∧w2.cell? ⟨ob,2,none⟩ = some (.slice la ln lc):=⟨z.1,z.2,y.2.2.1⟩;clear z y)) | (go_at_call 58;((with_reducible refine (dCompact T3.out FF.out O5.out (by omega) hc5 hm5).mono ?_);rintro e w3 ⟨rfl,hT⟩;have T4:=hid hT;clear hT;have z:=(T4.out.box 0 _ _ _ rfl).two;have y:=(T4.out.box 1 _ _ _ rfl).fourc;have s3 : w3.cell? ⟨pb,0,none⟩ = some (.pointer (some ⟨g,0,none⟩))∧w3.cell? ⟨pb,1,none⟩ = some (.pointer (some ⟨h,0,none⟩))∧w3.cell? ⟨ob,2,none⟩ = some (.slice la ln lc):=⟨z.1,z.2,y.2.2.1⟩;clear z y)))
 go_wp2
 go_ret
 exact ActD.of (by simp) T4.out B0.out.cmp FF.out.cmp
theorem act4_any (W V : World) (g h pb : Nat) (d : Dk) (n : Int) (la : Option Addr) (ln lc : Nat) (L : List RE) (a : Option Addr) (m c : Nat) (l : List UInt8) (T : Duo W V g h d d [(pb,pairC g h,67)]) (B : SzB d) (F : FuB d) (hL : RcsAt W la ln L) (hl6 : ln≤6) (hlc : ln≤lc) (hlm : lc≤maxLen) (hb : BAt W W.heap.size a m l) (hm : m≤1000) (hn1 : -9223372036854775808≤n) (hn2 : n < 9223372036854775808) (hU : Tabs W) :
  Calls Tryz.prog 22 #[.pointer (some ⟨pb,0,none⟩),.agg #[.int .i64 4,.int .i64 n,.slice la ln lc,.slice a m c]] V (ActD W pb):=by
 have TT : Hid (Duo W (V.alloc (.cells #[.int .i64 4,.int .i64 n,.slice la ln lc,.slice a m c] 69)) g h d d [(pb,pairC g h,67),(V.heap.size,#[.int .i64 4,.int .i64 n,.slice la ln lc,.slice a m c],69)]):=(T.more #[.int .i64 4,.int .i64 n,.slice la ln lc,.slice a m c] 69).flip
 have NE : Hid (pb≠V.heap.size):=by have:=(T.box 0 _ _ _ rfl).lt;unfold Hid;omega
 have BB : Hid (BndD d 1099511627776):=B.2.mono (by omega)
 have BM : Hid (BndD d 1000000):=B.2.mono (by omega)
 have B0:=hid B
 have FF:=hid F
 have HB:=hid hb
 have HL:=hid hL
 have HC : Hid (ln≤6∧ln≤lc∧lc≤maxLen):=⟨hl6,hlc,hlm⟩
 have TU : Hid (∀ X,Below W.heap.size W X→Tabs X):=fun X hX=>hU.below hX
 clear T B F hb hL hU hl6 hlc hlm
 go_enter Tryz.func22,Tryz.ntmps22
 go_upto_region 13 with fail
 obtain ⟨ob,hob⟩ : ∃ ob,ob = V.heap.size:=⟨_,rfl⟩
 generalize V.alloc (.cells #[.int .i64 4,.int .i64 n,.slice la ln lc,.slice a m c] 69) = V1 at *
 rw [← hob] at TT NE
 rw [← hob]
 clear hob
 have TD:=hid TT.out.drew
 have z:=(TD.out.box 0 _ _ _ rfl).two
 have y:=(TD.out.box 1 _ _ _ rfl).fourc
 have s0 : V1.drew.cell? ⟨pb,0,none⟩ = some (.pointer (some ⟨g,0,none⟩))∧V1.drew.cell? ⟨ob,1,none⟩ = some (.int .i64 n):=⟨z.1,y.2.1⟩
 clear z y
 go_region_held3 (fun w'=>w'.cell? ⟨pb,0,none⟩ = some (.pointer (some ⟨g,0,none⟩))∧w'.cell? ⟨ob,1,none⟩ = some (.int .i64 n)) (first | exact s0 | exact s1)
  (first | (go_at_call 31;((with_reducible refine (pFuse n TD.out).mono ?_);rintro e w1 ⟨rfl,hT⟩;have T2:=hid hT;clear hT;have z:=(T2.out.box 0 _ _ _ rfl).two;have y:=(T2.out.box 1 _ _ _ rfl).fourc;have s1 : w1.cell? ⟨pb,0,none⟩ = some (.pointer (some ⟨g,0,none⟩))∧w1.cell? ⟨ob,1,none⟩ = some (.int .i64 n):=⟨z.1,y.2.1⟩;clear z y)))
 go_upto_region 14 with fail
 have T3:=hid T2.out.drew
 obtain ⟨vl,vr,vh,hR⟩:=T3.out.rbox
 obtain ⟨x0,x1,x2,x3,x4,x5,x6⟩:=hR.box.seven
 have z3:=hR.box.frozen 3
 obtain ⟨y0,y1⟩:=(T3.out.box 0 _ _ _ rfl).two
 obtain ⟨u0,u1,u2,u3⟩:=(T3.out.box 1 _ _ _ rfl).fourc
 have HR : Hid (∀ x : Int,x = max n (-1)→Duo W (w1.drew.setCell ⟨h,3,none⟩ (.int .i64 x)) g h (fusD d n) (fusD d n) [(pb,pairC g h,67),(ob,#[.int .i64 4,.int .i64 n,.slice la ln lc,.slice a m c],69)]):=fun x hx=>by subst hx;exact T3.out.dFuse n
 clear hR
 have FN : Hid (n < 9223372036854775808):=hn2
 go_region
 all_goals (try go_wp2)
 all_goals (go_ret;exact ActD.of rfl (HR.out _ (by omega)) (B0.out.fus n) (FuB.fus FN.out))
theorem act5_any (W V : World) (g h pb : Nat) (d : Dk) (n : Int) (la : Option Addr) (ln lc : Nat) (L : List RE) (a : Option Addr) (m c : Nat) (l : List UInt8) (T : Duo W V g h d d [(pb,pairC g h,67)]) (B : SzB d) (F : FuB d) (hL : RcsAt W la ln L) (hl6 : ln≤6) (hlc : ln≤lc) (hlm : lc≤maxLen) (hb : BAt W W.heap.size a m l) (hm : m≤1000) (hn1 : -9223372036854775808≤n) (hn2 : n < 9223372036854775808) (hU : Tabs W) :
  Calls Tryz.prog 22 #[.pointer (some ⟨pb,0,none⟩),.agg #[.int .i64 5,.int .i64 n,.slice la ln lc,.slice a m c]] V (ActD W pb):=by
 have TT : Hid (Duo W (V.alloc (.cells #[.int .i64 5,.int .i64 n,.slice la ln lc,.slice a m c] 69)) g h d d [(pb,pairC g h,67),(V.heap.size,#[.int .i64 5,.int .i64 n,.slice la ln lc,.slice a m c],69)]):=(T.more #[.int .i64 5,.int .i64 n,.slice la ln lc,.slice a m c] 69).flip
 have NE : Hid (pb≠V.heap.size):=by have:=(T.box 0 _ _ _ rfl).lt;unfold Hid;omega
 have BB : Hid (BndD d 1099511627776):=B.2.mono (by omega)
 have BM : Hid (BndD d 1000000):=B.2.mono (by omega)
 have B0:=hid B
 have FF:=hid F
 have HB:=hid hb
 have HL:=hid hL
 have HC : Hid (ln≤6∧ln≤lc∧lc≤maxLen):=⟨hl6,hlc,hlm⟩
 have TU : Hid (∀ X,Below W.heap.size W X→Tabs X):=fun X hX=>hU.below hX
 clear T B F hb hL hU hl6 hlc hlm
 go_enter Tryz.func22,Tryz.ntmps22
 go_upto_region 16 with fail
 obtain ⟨ob,hob⟩ : ∃ ob,ob = V.heap.size:=⟨_,rfl⟩
 generalize V.alloc (.cells #[.int .i64 5,.int .i64 n,.slice la ln lc,.slice a m c] 69) = V1 at *
 rw [← hob] at TT NE
 rw [← hob]
 clear hob
 have TD:=hid TT.out.drew
 have z:=(TD.out.box 0 _ _ _ rfl).two
 have y:=(TD.out.box 1 _ _ _ rfl).fourc
 have s0 : V1.drew.cell? ⟨pb,0,none⟩ = some (.pointer (some ⟨g,0,none⟩))∧V1.drew.cell? ⟨ob,1,none⟩ = some (.int .i64 n):=⟨z.1,y.2.1⟩
 clear z y
 go_region_held3 (fun w'=>w'.cell? ⟨pb,0,none⟩ = some (.pointer (some ⟨g,0,none⟩))∧w'.cell? ⟨ob,1,none⟩ = some (.int .i64 n)) (first | exact s0 | exact s1)
  (first | (go_at_call 28;((with_reducible refine (pCut n TD.out BB.out hn1 hn2).mono ?_);rintro e w1 ⟨g1,rfl,hT,own1,hpd⟩;have T2:=hid hT;clear hT hpd;have z:=(T2.out.box 0 _ _ _ rfl).two;have y:=(T2.out.box 1 _ _ _ rfl).fourc;have s1 : w1.cell? ⟨pb,0,none⟩ = some (.pointer (some ⟨g,0,none⟩))∧w1.cell? ⟨ob,1,none⟩ = some (.int .i64 n):=⟨z.1,y.2.1⟩;clear z y)))
 obtain ⟨y0,y1⟩:=(T2.out.box 0 _ _ _ rfl).two
 obtain ⟨u0,u1,u2,u3⟩:=(T2.out.box 1 _ _ _ rfl).fourc
 have f0:=(T2.out.box 0 _ _ _ rfl).frozen 0
 go_upto_region 20 with (fail)
 have T3 : Hid (Duo W (w1.setCell ⟨pb,0,none⟩ (.pointer (some ⟨g1,0,none⟩))) g1 h (cutD d n) d [(pb,pairC g1 h,67),(ob,#[.int .i64 5,.int .i64 n,.slice la ln lc,.slice a m c],69)]):=T2.out.set (fun b hb=>by simp at hb;rw [hb];exact fun e=>NE.out e.symm) 0 _
 generalize w1.setCell ⟨pb,0,none⟩ (.pointer (some ⟨g1,0,none⟩)) = w3 at *
 clear y0 y1 u0 u1 u2 u3 f0
 have T3d:=hid T3.out.drew
 obtain ⟨y0,y1⟩:=(T3d.out.box 0 _ _ _ rfl).two
 obtain ⟨u0,u1,u2,u3⟩:=(T3d.out.box 1 _ _ _ rfl).fourc
 have f1:=(T3d.out.box 0 _ _ _ rfl).frozen 1
 go_region_law (first | (go_simp;go_at_call 60;((with_reducible refine (dCut n T3d.out BB.out hn1 hn2).mono ?_);rintro e w4 ⟨h1,rfl,hT⟩;have T4:=hid hT;obtain ⟨t0,t1⟩:=(hT.box 0 _ _ _ rfl).two;have f2:=(hT.box 0 _ _ _ rfl).frozen 1;have T5 : Hid (Duo W (w4.setCell ⟨pb,1,none⟩ (.pointer (some ⟨h1,0,none⟩))) g1 h1 (cutD d n) (cutD d n) [(pb,pairC g1 h1,67),(ob,#[.int .i64 5,.int .i64 n,.slice la ln lc,.slice a m c],69)]):=hT.set (fun b hb=>by simp at hb;rw [hb];exact fun e=>NE.out e.symm) 1 _;clear hT)))
 all_goals (try go_wp2)
 all_goals (go_ret;exact ActD.of rfl T5.out (B0.out.cut n) (FuB.cut d n))
theorem act6_any (W V : World) (g h pb : Nat) (d : Dk) (n : Int) (la : Option Addr) (ln lc : Nat) (L : List RE) (a : Option Addr) (m c : Nat) (l : List UInt8) (T : Duo W V g h d d [(pb,pairC g h,67)]) (B : SzB d) (F : FuB d) (hL : RcsAt W la ln L) (hl6 : ln≤6) (hlc : ln≤lc) (hlm : lc≤maxLen) (hb : BAt W W.heap.size a m l) (hm : m≤1000) (hn1 : -9223372036854775808≤n) (hn2 : n < 9223372036854775808) (hU : Tabs W) :
  Calls Tryz.prog 22 #[.pointer (some ⟨pb,0,none⟩),.agg #[.int .i64 6,.int .i64 n,.slice la ln lc,.slice a m c]] V (ActD W pb):=by
 have TT : Hid (Duo W (V.alloc (.cells #[.int .i64 6,.int .i64 n,.slice la ln lc,.slice a m c] 69)) g h d d [(pb,pairC g h,67),(V.heap.size,#[.int .i64 6,.int .i64 n,.slice la ln lc,.slice a m c],69)]):=(T.more #[.int .i64 6,.int .i64 n,.slice la ln lc,.slice a m c] 69).flip
 have NE : Hid (pb≠V.heap.size):=by have:=(T.box 0 _ _ _ rfl).lt;unfold Hid;omega
 have BB : Hid (BndD d 1099511627776):=B.2.mono (by omega)
 have BM : Hid (BndD d 1000000):=B.2.mono (by omega)
 have B0:=hid B
 have FF:=hid F
 have HB:=hid hb
 have HL:=hid hL
 have HC : Hid (ln≤6∧ln≤lc∧lc≤maxLen):=⟨hl6,hlc,hlm⟩
 have TU : Hid (∀ X,Below W.heap.size W X→Tabs X):=fun X hX=>hU.below hX
 clear T B F hb hL hU hl6 hlc hlm
 have OL:=hid (opnL_len B0.out)
 have y:=(TT.out.box 1 _ _ _ rfl).fourc
 obtain ⟨y0,y1,y2,y3⟩:=y
 go_enter Tryz.func22,Tryz.ntmps22
 go_upto_region 22 with fail
 clear y0 y1 y2 y3
 obtain ⟨ob,hob⟩ : ∃ ob,ob = V.heap.size:=⟨_,rfl⟩
 generalize V.alloc (.cells #[.int .i64 6,.int .i64 n,.slice la ln lc,.slice a m c] 69) = V1 at *
 rw [← hob] at TT NE
 rw [← hob]
 clear hob
 obtain ⟨z0,z1⟩:=(TT.out.box 0 _ _ _ rfl).two
 go_upto_region 23 with ((go_at_call 29;((with_reducible refine (pOpen TT.out FF.out BB.out (TU.out _ TT.out.bel)).mono ?_);rintro e w1 ⟨a1,n1,c1,D1,rfl,hT,hS,hc1,hm1⟩;have T2:=hid hT;have S2:=hid hS;clear hT hS)))
 clear z0 z1
 obtain ⟨z0,z1⟩:=(T2.out.duo.box 0 _ _ _ rfl).two
 go_upto_region 24 with ((go_at_call 61;((with_reducible refine (dOpen T2.out FF.out BM.out).mono ?_);rintro e w2 ⟨a2,n2,c2,D2,rfl,hT,hP,hD2,hS,hc2,hm2⟩;have T3:=hid hT;have P3:=hid hP;have Q3:=hid hD2;have S3:=hid hS;clear hT hP hD2 hS)))
 have hn1' : n1≤65535:=by
  have e1:=P3.out.len
  have e2:=congrArg List.length S2.out
  rw [rcS_len] at e2
  have e3:=OL.out
  omega
 have EQ : Hid (rcS D1 = rcS D2):=S2.out.trans S3.out.symm
 clear z0 z1
 generalize opnE d = E at *
 go_wp2_with (first | (go_at_call 59;((with_reducible refine (all_recs a1 n1 c1 D1 _ P3.out (by omega) hc1 hm1).mono ?_);rintro e w3 ⟨a5,c5,rfl,hb5,hR5,hc5,hm5⟩;have T4:=hid (T3.out.later hb5);have O5:=hid hR5;have Q4:=hid (Q3.out.later hb5);clear hb5 hR5)) | (go_at_call 62;((with_reducible refine (sameAll_yes a5 a2 n1 n2 c5 c2 D1 D2 _ O5.out Q4.out EQ.out hc5 hm5).mono ?_);rintro e w4 ⟨rfl,hb6⟩;have T5:=hid (T4.out.later hb6);clear hb6)))
 go_ret
 exact ActD.of (by simp) T5.out B0.out.opn FF.out.opn
theorem act0_any (W V : World) (g h pb : Nat) (d : Dk) (n : Int) (la : Option Addr) (ln lc : Nat) (L : List RE) (a : Option Addr) (m c : Nat) (l : List UInt8) (k : Int) (hk : k≠1∧k≠2∧k≠3∧k≠4∧k≠5∧k≠6∧k≠7) (T : Duo W V g h d d [(pb,pairC g h,67)]) (B : SzB d) (F : FuB d) (hL : RcsAt W la ln L) (hl6 : ln≤6) (hlc : ln≤lc) (hlm : lc≤maxLen) (hb : BAt W W.heap.size a m l) (hm : m≤1000) (hn1 : -9223372036854775808≤n) (hn2 : n < 9223372036854775808) (hU : Tabs W) :
  Calls Tryz.prog 22 #[.pointer (some ⟨pb,0,none⟩),.agg #[.int .i64 k,.int .i64 n,.slice la ln lc,.slice a m c]] V (ActD W pb):=by
 have TT : Hid (Duo W (V.alloc (.cells #[.int .i64 k,.int .i64 n,.slice la ln lc,.slice a m c] 69)) g h d d [(pb,pairC g h,67),(V.heap.size,#[.int .i64 k,.int .i64 n,.slice la ln lc,.slice a m c],69)]):=(T.more #[.int .i64 k,.int .i64 n,.slice la ln lc,.slice a m c] 69).flip
 have NE : Hid (pb≠V.heap.size):=by have:=(T.box 0 _ _ _ rfl).lt;unfold Hid;omega
 have BB : Hid (BndD d 1099511627776):=B.2.mono (by omega)
 have BM : Hid (BndD d 1000000):=B.2.mono (by omega)
 have B0:=hid B
 have FF:=hid F
 have HB:=hid hb
 have HL:=hid hL
 have HC : Hid (ln≤6∧ln≤lc∧lc≤maxLen):=⟨hl6,hlc,hlm⟩
 have TU : Hid (∀ X,Below W.heap.size W X→Tabs X):=fun X hX=>hU.below hX
 clear T B F hb hL hU hl6 hlc hlm
 have y:=(TT.out.box 1 _ _ _ rfl).fourc
 obtain ⟨y0,y1,y2,y3⟩:=y
 have q1 : (k == 1) = false:=by simp;omega
 have q2 : (k == 2) = false:=by simp;omega
 have q3 : (k == 3) = false:=by simp;omega
 have q4 : (k == 4) = false:=by simp;omega
 have q5 : (k == 5) = false:=by simp;omega
 have q6 : (k == 6) = false:=by simp;omega
 have q7 : (k == 7) = false:=by simp;omega
 clear hk
 go_enter Tryz.func22,Tryz.ntmps22
 go_wp2
 go_ret
 exact ActD.of rfl TT.out B0.out FF.out
theorem act_any (W V : World) (g h pb : Nat) (d : Dk) (n : Int) (la : Option Addr) (ln lc : Nat) (L : List RE) (a : Option Addr) (m c : Nat) (l : List UInt8) (k : Int) (T : Duo W V g h d d [(pb,pairC g h,67)]) (B : SzB d) (F : FuB d) (hL : RcsAt W la ln L) (hl6 : ln≤6) (hlc : ln≤lc) (hlm : lc≤maxLen) (hb : BAt W W.heap.size a m l) (hm : m≤1000) (hn1 : -9223372036854775808≤n) (hn2 : n < 9223372036854775808) (hU : Tabs W) :
  Calls Tryz.prog 22 #[.pointer (some ⟨pb,0,none⟩),.agg #[.int .i64 k,.int .i64 n,.slice la ln lc,.slice a m c]] V (ActD W pb):=by
 by_cases h1 : k = 1
 ·subst h1
  rcases Nat.eq_zero_or_pos ln with h0 | h0
  ·exact act1n_any W V g h pb d n la ln lc L a m c l h0 T B F hL hl6 hlc hlm hb hm hn1 hn2 hU
  ·exact act1_any W V g h pb d n la ln lc L a m c l h0 T B F hL hl6 hlc hlm hb hm hn1 hn2 hU
 by_cases h2 : k = 2
 ·subst h2;exact act2_any W V g h pb d n la ln lc L a m c l T B F hL hl6 hlc hlm hb hm hn1 hn2 hU
 by_cases h3 : k = 3
 ·subst h3;exact act3_any W V g h pb d n la ln lc L a m c l T B F hL hl6 hlc hlm hb hm hn1 hn2 hU
 by_cases h4 : k = 4
 ·subst h4;exact act4_any W V g h pb d n la ln lc L a m c l T B F hL hl6 hlc hlm hb hm hn1 hn2 hU
 by_cases h5 : k = 5
 ·subst h5;exact act5_any W V g h pb d n la ln lc L a m c l T B F hL hl6 hlc hlm hb hm hn1 hn2 hU
 by_cases h6 : k = 6
 ·subst h6;exact act6_any W V g h pb d n la ln lc L a m c l T B F hL hl6 hlc hlm hb hm hn1 hn2 hU
 by_cases h7 : k = 7
 ·subst h7;exact act7_any W V g h pb d n la ln lc L a m c l T B F hL hl6 hlc hlm hb hm hn1 hn2 hU
 exact act0_any W V g h pb d n la ln lc L a m c l k ⟨h1,h2,h3,h4,h5,h6,h7⟩ T B F hL hl6 hlc hlm hb hm hn1 hn2 hU
end Go.Proofs.YtcfmifongbapkaaGreatDoor
