/- What Write and Read come to, formed or not, alike for the program and the document. Conditions: the records and the bytes lie in memory; the tables of utf8 lie there. Contracts of frame.Unwrap. Conditions: the bytes lie in memory and are not longer than 2^40. Contract of frame.All: the bodies of the frames that stand there, as new memory, and how many bytes they have. Contracts of the document's own Unwrap. Contract of the document's own All. -/
import Derived.Test.YtcfmifongbapkaaGreatDoorWalRefRead
import Derived.Test.YtcfmifongbapkaaGreatDoorRR
import Derived.Test.YtcfmifongbapkaaGreatDoorRT
import Derived.Test.YtcfmifongbapkaaGreatDoorRJ
import Derived.Test.YtcfmifongbapkaaGreatDoorRB
import Derived.Deep.RegionHeld3
import Derived.Test.YtcfmifongbapkaaGreatDoorRD
namespace Go.Proofs.YtcfmifongbapkaaGreatDoor
set_option maxHeartbeats 1000000
open Go.RowKit
open Go.Lib (hid)
set_option linter.unusedVariables false
set_option linter.unusedSimpArgs false
noncomputable def wrE (x : Rc) : Int:=if formR x = true then 0 else 2
noncomputable def wrL (x : Rc) : List UInt8:=if formR x = true then rcB x else []
/-- A record's bytes, or none. -/
def Wrote (w : World) (x : Rc) (e : Ending) (w' : World) : Prop := ∃ a n c,e = .returned (.tuple #[.slice a n c,.int .i64 (wrE x)])∧BAt w' w'.heap.size a n (wrL x)∧n≤maxLen∧Below w.heap.size w w'
noncomputable def rdE (l : List UInt8) : Int:=if (readR l).isSome = true then 0 else 2
noncomputable def rdX (l : List UInt8) : Rc:=(readR l).getD (rcT zeroR noLR)
/-- The record that bytes are read as, or the zero one. -/
def ReadU (w : World) (l : List UInt8) (e : Ending) (w' : World) : Prop := ∃ x L,e = .returned (.tuple #[.agg (rcV x),.int .i64 (rdE l)])∧Below w.heap.size w w'∧RcAt w' x L∧RcF x∧rcT x L = rdX l
theorem made_r (w : World) (x : RcM) : BoxC (w.alloc (.cells zeroRV 47)) w.heap.size (rcV zeroR) 47∧Below w.heap.size w ((w.alloc (.cells zeroRV 47)).setRow w.heap.size (rcV x))∧BoxC ((w.alloc (.cells zeroRV 47)).setRow w.heap.size (rcV x)) w.heap.size (rcV x) 47:=by
 have hZ : BoxC (w.alloc (.cells zeroRV 47)) w.heap.size (rcV zeroR) 47:=BoxC.new w zeroRV 47
 exact ⟨hZ,Only.below ((Below.refl _ _).alloc (Nat.le_refl _) _) (only_fill _ w.heap.size (rcV x)) (Nat.le_refl _) (by simp),hZ.fill _⟩
theorem takeLen (g : Nat) (L : List UInt8) (w : World) (h : RdAt w g (L.take 8) true) (h8 : 8≤L.length) :
  Calls Tryz.prog 80 #[.pointer (some ⟨g,0,none⟩),.int .i64 4] w fun e w'=>e = .returned (.int .u64 (lenB L : Nat))∧RdAt w' g ((L.take 8).drop 4) true∧Only g w w':=by
 have:=take_yes g (L.take 8) 4 w h (by simp;omega) (by omega)
 rw [List.take_take] at this
 exact this
theorem takeSum (g : Nat) (L : List UInt8) (w : World) (h : RdAt w g ((L.take 8).drop 4) true) (h8 : 8≤L.length) :
  Calls Tryz.prog 80 #[.pointer (some ⟨g,0,none⟩),.int .i64 4] w fun e w'=>e = .returned (.int .u64 (sumOf L : Nat))∧Only g w w':=by
 have:=take_yes g ((L.take 8).drop 4) 4 w h (by simp;omega) (by omega)
 rw [List.drop_take,List.take_take] at this
 exact this.mono fun e w' h=>⟨h.1,h.2.2⟩
/-- An error is answered, and nothing that was there has turned. -/
def UwNo (w : World) (k : Nat) (e : Ending) (w' : World) : Prop:=e = .returned (.tuple #[.slice none 0 0,.int .i64 0,.int .i64 k])∧Below w.heap.size w w'
/-- A body is answered, as new memory. -/
def UwYes (w : World) (l : List UInt8) (e : Ending) (w' : World) : Prop :=
 ∃ a n c,e = .returned (.tuple #[.slice a n c,.int .i64 ((8 + n : Nat) : Int),.int .i64 0])∧w'.ownsRow w.heap.size 5 1 (.slice a n c) n (bcells l)∧Below w.heap.size w w'
theorem unwrap_short (a : Option Addr) (n c : Nat) (L : List UInt8) (w : World) (hl : BAt w w.heap.size a n L) (hnc : n≤c) (hcm : c≤maxLen) (h8 : n < 8) :
  Calls Tryz.prog 101 #[.slice a n c] w (UwNo w 4):=by
 have hd : decide ((n : Int) < 8) = true:=by simp;omega
 go_enter Tryz.func101,Tryz.ntmps101
 go_wp2
 go_ret3
 exact ⟨rfl,Below.refl _ _⟩
theorem unwrap_long (a : Option Addr) (n c : Nat) (L : List UInt8) (w : World) (hl : BAt w w.heap.size a n L) (hnc : n≤c) (hcm : c≤maxLen) (h8 : 8≤n) (h6 : 60000 < lenB L) :
  Calls Tryz.prog 101 #[.slice a n c] w (UwNo w 3):=by
 have hlen:=hl.len
 have hL8 : 8≤L.length:=by omega
 have hb:=lenB_lt L
 have hb2:=sumOf_lt L
 have i1 : (8 : Int)≤(c : Int):=by omega
 have i2 : (8 : Int)≤(n : Int):=by omega
 unfold maxLen at hcm
 have ht:=hl.take (k:=8) (by omega)
 have d1 : decide ((60000 : Int) < (lenB L : Int)) = true:=by simp;omega
 clear hlen
 by_cases hd : c = 8
 all_goals
  go_enter Tryz.func101,Tryz.ntmps101
  go_upto_region 3 with (fail)
  go_region_held3 (fun _=>True) (exact trivial) (first | (go_at_call 42;((with_reducible refine (new_any _ 8 _ (L.take 8) _ ?_ (by omega)).mono ?_);(exact ht);rintro e w1 ⟨g,rfl,hr,hg1,hg2,hb1⟩;have hB1 : Below w.heap.size w w1:=below_on 1 (Below.refl _ _) hb1)))
  go_wp2_with (first | (go_at_call 80;((with_reducible refine (takeLen g L _ hr hL8).mono ?_);rintro e w2 ⟨rfl,hr2,ho2⟩)) | (go_at_call 80;((with_reducible refine (takeSum g L _ hr2 hL8).mono ?_);rintro e w3 ⟨rfl,ho3⟩;have hB3 : Below w.heap.size w w3:=Only.below (Only.below hB1 ho2 hg1 hB1.size) ho3 hg1 (Only.below hB1 ho2 hg1 hB1.size).size)))
  go_ret3
  exact ⟨rfl,hB3⟩
theorem unwrap_cut (a : Option Addr) (n c : Nat) (L : List UInt8) (w : World) (hl : BAt w w.heap.size a n L) (hnc : n≤c) (hcm : c≤maxLen) (h8 : 8≤n) (h6 : lenB L≤60000) (h7 : n - 8 < lenB L) :
  Calls Tryz.prog 101 #[.slice a n c] w (UwNo w 4):=by
 have hlen:=hl.len
 have hL8 : 8≤L.length:=by omega
 have hb:=lenB_lt L
 have hb2:=sumOf_lt L
 have i1 : (8 : Int)≤(c : Int):=by omega
 have i2 : (8 : Int)≤(n : Int):=by omega
 unfold maxLen at hcm
 have ht:=hl.take (k:=8) (by omega)
 have d1 : decide ((60000 : Int) < (lenB L : Int)) = false:=by simp;omega
 have d2 : decide (n - 8 < lenB L) = true:=by simp;omega
 clear hlen
 by_cases hd : c = 8
 all_goals
  go_enter Tryz.func101,Tryz.ntmps101
  go_upto_region 3 with (fail)
  go_region_held3 (fun _=>True) (exact trivial) (first | (go_at_call 42;((with_reducible refine (new_any _ 8 _ (L.take 8) _ ?_ (by omega)).mono ?_);(exact ht);rintro e w1 ⟨g,rfl,hr,hg1,hg2,hb1⟩;have hB1 : Below w.heap.size w w1:=below_on 1 (Below.refl _ _) hb1)))
  go_wp2_with (first | (go_at_call 80;((with_reducible refine (takeLen g L _ hr hL8).mono ?_);rintro e w2 ⟨rfl,hr2,ho2⟩)) | (go_at_call 80;((with_reducible refine (takeSum g L _ hr2 hL8).mono ?_);rintro e w3 ⟨rfl,ho3⟩;have hB3 : Below w.heap.size w w3:=Only.below (Only.below hB1 ho2 hg1 hB1.size) ho3 hg1 (Only.below hB1 ho2 hg1 hB1.size).size)))
  go_ret3
  exact ⟨rfl,hB3⟩
theorem unwrap_sum (a : Option Addr) (n c : Nat) (L : List UInt8) (w : World) (hl : BAt w w.heap.size a n L) (hnc : n≤c) (hcm : c≤maxLen) (h8 : 8≤n) (h6 : lenB L≤60000) (h7 : lenB L≤n - 8) (hs : sumB (bodyB L)≠sumOf L) :
  Calls Tryz.prog 101 #[.slice a n c] w (UwNo w 5):=by
 have hlen:=hl.len
 have hL8 : 8≤L.length:=by omega
 have hb:=lenB_lt L
 have hb2:=sumOf_lt L
 have i1 : (8 : Int)≤(c : Int):=by omega
 have i2 : (8 : Int)≤(n : Int):=by omega
 unfold maxLen at hcm
 have ht:=hl.take (k:=8) (by omega)
 have d1 : decide ((60000 : Int) < (lenB L : Int)) = false:=by simp;omega
 have d2 : decide (n - 8 < lenB L) = false:=by simp;omega
 have j1 : lenB L≤c - 8:=by omega
 have hsl:=sumB_lt' (bodyB L)
 obtain ⟨b,off,rfl,_⟩:=hl.addr (by omega)
 have hbd:=(hl.drop (k:=8) (cap:=c) (by omega) hnc).take (k:=lenB L) h7
 have d3 : (((sumB (bodyB L) : Nat) : Int) == ((sumOf L : Nat) : Int)) = false:=by simp;omega
 have d4 : (((sumB (bodyB L) : Nat) : Int) != ((sumOf L : Nat) : Int)) = true:=by simp;omega
 clear hlen
 by_cases hd : c = 8
 all_goals
  first | rw [if_pos hd] at hbd | rw [if_neg hd,Option.map_some,add_plain] at hbd
  change BAt w w.heap.size _ (lenB L) (bodyB L) at hbd
  go_enter Tryz.func101,Tryz.ntmps101
  go_upto_region 3 with (fail)
  go_region_held3 (fun _=>True) (exact trivial) (first | (go_at_call 42;((with_reducible refine (new_any _ 8 _ (L.take 8) _ ?_ (by omega)).mono ?_);(exact ht);rintro e w1 ⟨g,rfl,hr,hg1,hg2,hb1⟩;have hB1 : Below w.heap.size w w1:=below_on 1 (Below.refl _ _) hb1)))
  go_wp2_with (first | (go_at_call 80;((with_reducible refine (takeLen g L _ hr hL8).mono ?_);rintro e w2 ⟨rfl,hr2,ho2⟩)) | (go_at_call 80;((with_reducible refine (takeSum g L _ hr2 hL8).mono ?_);rintro e w3 ⟨rfl,ho3⟩;have hB3 : Below w.heap.size w w3:=Only.below (Only.below hB1 ho2 hg1 hB1.size) ho3 hg1 (Only.below hB1 ho2 hg1 hB1.size).size)) | (go_at_call 128;((with_reducible refine (sum_any w.heap.size _ (lenB L) _ (bodyB L) _ (hbd.below hB3 (Nat.le_refl _)) (by unfold maxLen;omega)).mono ?_);rintro e w' ⟨rfl,rfl⟩)))
  go_ret3
  exact ⟨rfl,hB3⟩
theorem unwrap_yes (a : Option Addr) (n c : Nat) (L : List UInt8) (w : World) (hl : BAt w w.heap.size a n L) (hnc : n≤c) (hcm : c≤maxLen) (h8 : 8≤n) (h6 : lenB L≤60000) (h7 : lenB L≤n - 8) (hs : sumB (bodyB L) = sumOf L) :
  Calls Tryz.prog 101 #[.slice a n c] w (UwYes w (bodyB L)):=by
 have hlen:=hl.len
 have hL8 : 8≤L.length:=by omega
 have hb:=lenB_lt L
 have hb2:=sumOf_lt L
 have i1 : (8 : Int)≤(c : Int):=by omega
 have i2 : (8 : Int)≤(n : Int):=by omega
 unfold maxLen at hcm
 have ht:=hl.take (k:=8) (by omega)
 have d1 : decide ((60000 : Int) < (lenB L : Int)) = false:=by simp;omega
 have d2 : decide (n - 8 < lenB L) = false:=by simp;omega
 have j1 : lenB L≤c - 8:=by omega
 have hsl:=sumB_lt' (bodyB L)
 obtain ⟨b,off,rfl,_⟩:=hl.addr (by omega)
 have hbd:=(hl.drop (k:=8) (cap:=c) (by omega) hnc).take (k:=lenB L) h7
 have hbl:=hid (show (bodyB L).length = lenB L by simp [bodyB];omega)
 have HS : ∀ (W : World) {x : Option Addr} {y : Nat},BAt W w.heap.size x (lenB L) (bodyB L)→Calls Tryz.prog 128 #[.slice x (lenB L) y] W fun e w'=>e = .returned (.int .u32 (sumOf L : Nat))∧W = w':=by
  intro W x y h
  rw [← hs]
  exact sum_any _ _ _ _ _ W h (by unfold maxLen;omega)
 clear hs
 clear hlen
 by_cases hd : c = 8
 all_goals
  first | rw [if_pos hd] at hbd | rw [if_neg hd,Option.map_some,add_plain] at hbd
  change BAt w w.heap.size _ (lenB L) (bodyB L) at hbd
  go_enter Tryz.func101,Tryz.ntmps101
  go_upto_region 3 with (fail)
  go_region_held3 (fun _=>True) (exact trivial) (first | (go_at_call 42;((with_reducible refine (new_any _ 8 _ (L.take 8) _ ?_ (by omega)).mono ?_);(exact ht);rintro e w1 ⟨g,rfl,hr,hg1,hg2,hb1⟩;have hB1 : Below w.heap.size w w1:=below_on 1 (Below.refl _ _) hb1)))
  go_wp2_with (first | (go_at_call 80;((with_reducible refine (takeLen g L _ hr hL8).mono ?_);rintro e w2 ⟨rfl,hr2,ho2⟩)) | (go_at_call 80;((with_reducible refine (takeSum g L _ hr2 hL8).mono ?_);rintro e w3 ⟨rfl,ho3⟩;have hB3 : Below w.heap.size w w3:=Only.below (Only.below hB1 ho2 hg1 hB1.size) ho3 hg1 (Only.below hB1 ho2 hg1 hB1.size).size)) | (go_at_call 128;((with_reducible refine (HS _ (hbd.below hB3 (Nat.le_refl _))).mono ?_);rintro e w' ⟨rfl,rfl⟩)) | (go_at_call 65;((with_reducible refine (bclone_any _ (lenB L) _ (bodyB L) _ ((hbd.below hB3 (Nat.le_refl _)).more hB3.size) (by omega)).mono ?_);rintro e w4 ⟨a4,n4,c4,rfl,ho4,hb4⟩;have hn4:=hid (own_len ho4))))
  go_ret3
  exact ⟨a4,n4,c4,by rw [← hn4.out,hbl.out];go_num,own_base ho4 hB3.size,hB3.trans (hb4.mono hB3.size)⟩
theorem unwrap_no (a : Option Addr) (n c : Nat) (L : List UInt8) (w : World) (hl : BAt w w.heap.size a n L) (hnc : n≤c) (hcm : c≤maxLen) (he : uwErr L≠0) :
  Calls Tryz.prog 101 #[.slice a n c] w (UwNo w (uwErr L)):=by
 have hlen:=hl.len
 by_cases h8 : n < 8
 ·rw [uwErr_short (by omega)];exact unwrap_short a n c L w hl hnc hcm h8
 ·by_cases h6 : 60000 < lenB L
  ·rw [uwErr_long (by omega) h6];exact unwrap_long a n c L w hl hnc hcm (by omega) h6
  ·by_cases h7 : n - 8 < lenB L
   ·rw [uwErr_cut (by omega) (by omega) (by omega)];exact unwrap_cut a n c L w hl hnc hcm (by omega) (by omega) h7
   ·by_cases hs : sumB (bodyB L) = sumOf L
    ·exact absurd (uwErr_ok (by omega) (by omega) (by omega) hs) he
    ·rw [uwErr_sum (by omega) (by omega) (by omega) hs];exact unwrap_sum a n c L w hl hnc hcm (by omega) (by omega) (by omega) hs
theorem unwrap_ok (a : Option Addr) (n c : Nat) (L : List UInt8) (w : World) (hl : BAt w w.heap.size a n L) (hnc : n≤c) (hcm : c≤maxLen) (he : uwErr L = 0) :
  Calls Tryz.prog 101 #[.slice a n c] w (UwYes w (bodyB L)):=by
 have hlen:=hl.len
 obtain ⟨h8,h6,h7,hs⟩:=uwErr_zero he
 exact unwrap_yes a n c L w hl hnc hcm (by omega) h6 (by omega) hs
/-- The bodies and their length are answered. -/
def AllOut (w : World) (S : Nat→Prop) (L : List UInt8) (e : Ending) (w' : World) : Prop :=
 ∃ a k c,e = .returned (.tuple #[.slice a k c,.int .i64 ((usedB L : Nat) : Int)])∧OwnRows w w' S (.slice a k c) k (allB L)
theorem all_end {L : List UInt8} {D : List (List UInt8)} {u : Nat} (h : uwErr (L.drop u)≠0) (h1 : D ++ allB (L.drop u) = allB L) (h2 : u + usedB (L.drop u) = usedB L) : D = allB L∧u = usedB L:=by
 rw [(all_no h).1,List.append_nil] at h1
 rw [(all_no h).2] at h2
 exact ⟨h1,h2⟩
theorem all_step {L : List UInt8} {D : List (List UInt8)} {u : Nat} (h : uwErr (L.drop u) = 0) (h1 : D ++ allB (L.drop u) = allB L) (h2 : u + usedB (L.drop u) = usedB L) :
  (D ++ [bodyB (L.drop u)]) ++ allB (L.drop (u + (8 + lenB (L.drop u)))) = allB L∧u + (8 + lenB (L.drop u)) + usedB (L.drop (u + (8 + lenB (L.drop u)))) = usedB L:=by
 obtain ⟨e1,e2⟩:=all_yes h
 rw [List.drop_drop] at e1 e2
 rw [e1] at h1
 rw [e2] at h2
 exact ⟨by rw [List.append_assoc];exact h1,by omega⟩
theorem refTakeLen (B g : Nat) (L : List UInt8) (w : World) (h : RefAt w B g L 0 true) (h8 : 8≤L.length) :
  Calls Tryz.prog 45 #[.pointer (some ⟨g,0,none⟩),.int .i64 4] w fun e w'=>e = .returned (.int .u64 (lenB L : Nat))∧RefAt w' B g L 4 true∧Only g w w' :=
 refTake_yes B g L 0 4 w h (by simp;omega) (by omega)
theorem refTakeSum (B g : Nat) (L : List UInt8) (w : World) (h : RefAt w B g L 4 true) (h8 : 8≤L.length) :
  Calls Tryz.prog 45 #[.pointer (some ⟨g,0,none⟩),.int .i64 4] w fun e w'=>e = .returned (.int .u64 (sumOf L : Nat))∧Only g w w' :=
 (refTake_yes B g L 4 4 w h (by simp;omega) (by omega)).mono fun _ _ h=>⟨h.1,h.2.2⟩
/-- A part of what was handed is answered, which reads as l. -/
def RefYes (w : World) (B C : Nat) (l : List UInt8) (e : Ending) (w' : World) : Prop :=
 ∃ a n c,e = .returned (.tuple #[.slice a n c,.int .i64 ((8 + n : Nat) : Int),.int .i64 0])∧BAt w' B a n l∧Below w.heap.size w w'∧(∀ p,a = some p→C≤p.block)∧n≤c∧c≤maxLen
theorem refUnwrap_short (B : Nat) (a : Option Addr) (n c : Nat) (L : List UInt8) (w : World) (hl : BAt w B a n L) (hB : B≤w.heap.size) (hnc : n≤c) (hcm : c≤maxLen) (h8 : n < 8) :
  Calls Tryz.prog 139 #[.slice a n c] w (UwNo w 4):=by
 have hd : decide ((n : Int) < 8) = true:=by simp;omega
 go_enter Tryz.func139,Tryz.ntmps139
 go_wp2
 go_ret3
 exact ⟨rfl,Below.refl _ _⟩
theorem refUnwrap_long (B : Nat) (a : Option Addr) (n c : Nat) (L : List UInt8) (w : World) (hl : BAt w B a n L) (hB : B≤w.heap.size) (hnc : n≤c) (hcm : c≤maxLen) (h8 : 8≤n) (h6 : 60000 < lenB L) :
  Calls Tryz.prog 139 #[.slice a n c] w (UwNo w 3):=by
 have hlen:=hl.len
 have hL8 : 8≤L.length:=by omega
 have hb:=lenB_lt L
 have hb2:=sumOf_lt L
 have hcm0:=hcm
 unfold maxLen at hcm
 have hd8 : decide ((n : Int) < 8) = false:=by simp;omega
 have hr0 : RefAt (w.alloc (.cells #[.slice a n c,.int .i64 0,.bool false] 99)) B w.heap.size L 0 true:=⟨a,n,c,heap_alloc_new _ _,hnc,hcm0,hl.alloc hB _,Nat.zero_le _,hB⟩
 have HR0:=hid hr0
 clear hr0
 have d1 : decide ((60000 : Int) < (lenB L : Int)) = true:=by simp;omega
 clear hlen
 go_enter Tryz.func139,Tryz.ntmps139
 go_wp2_with (first | (go_at_call 45;((with_reducible refine (refTakeLen B w.heap.size L _ HR0.out hL8).mono ?_);rintro e w2 ⟨rfl,hr2,ho2⟩)) | (go_at_call 45;((with_reducible refine (refTakeSum B w.heap.size L _ hr2 hL8).mono ?_);rintro e w3 ⟨rfl,ho3⟩;have hB3 : Below w.heap.size w w3:=Only.below (Only.below ((Below.refl _ _).alloc (Nat.le_refl _) _) ho2 (Nat.le_refl _) (by simp)) ho3 (Nat.le_refl _) (Only.below ((Below.refl _ _).alloc (Nat.le_refl _) _) ho2 (Nat.le_refl _) (by simp)).size)))
 go_ret3
 exact ⟨rfl,hB3⟩
theorem refUnwrap_cut (B : Nat) (a : Option Addr) (n c : Nat) (L : List UInt8) (w : World) (hl : BAt w B a n L) (hB : B≤w.heap.size) (hnc : n≤c) (hcm : c≤maxLen) (h8 : 8≤n) (h6 : lenB L≤60000) (h7 : n - 8 < lenB L) :
  Calls Tryz.prog 139 #[.slice a n c] w (UwNo w 4):=by
 have hlen:=hl.len
 have hL8 : 8≤L.length:=by omega
 have hb:=lenB_lt L
 have hb2:=sumOf_lt L
 have hcm0:=hcm
 unfold maxLen at hcm
 have hd8 : decide ((n : Int) < 8) = false:=by simp;omega
 have hr0 : RefAt (w.alloc (.cells #[.slice a n c,.int .i64 0,.bool false] 99)) B w.heap.size L 0 true:=⟨a,n,c,heap_alloc_new _ _,hnc,hcm0,hl.alloc hB _,Nat.zero_le _,hB⟩
 have HR0:=hid hr0
 clear hr0
 have d1 : decide ((60000 : Int) < (lenB L : Int)) = false:=by simp;omega
 have d2 : decide ((n : Int) - 8 < (lenB L : Int)) = true:=by simp;omega
 clear hlen
 go_enter Tryz.func139,Tryz.ntmps139
 go_wp2_with (first | (go_at_call 45;((with_reducible refine (refTakeLen B w.heap.size L _ HR0.out hL8).mono ?_);rintro e w2 ⟨rfl,hr2,ho2⟩)) | (go_at_call 45;((with_reducible refine (refTakeSum B w.heap.size L _ hr2 hL8).mono ?_);rintro e w3 ⟨rfl,ho3⟩;have hB3 : Below w.heap.size w w3:=Only.below (Only.below ((Below.refl _ _).alloc (Nat.le_refl _) _) ho2 (Nat.le_refl _) (by simp)) ho3 (Nat.le_refl _) (Only.below ((Below.refl _ _).alloc (Nat.le_refl _) _) ho2 (Nat.le_refl _) (by simp)).size)))
 go_ret3
 exact ⟨rfl,hB3⟩
theorem refUnwrap_sum (B : Nat) (a : Option Addr) (n c : Nat) (L : List UInt8) (w : World) (hl : BAt w B a n L) (hB : B≤w.heap.size) (hnc : n≤c) (hcm : c≤maxLen) (h8 : 8≤n) (h6 : lenB L≤60000) (h7 : lenB L≤n - 8) (hs : sumB (bodyB L)≠sumOf L) :
  Calls Tryz.prog 139 #[.slice a n c] w (UwNo w 5):=by
 have hlen:=hl.len
 have hL8 : 8≤L.length:=by omega
 have hb:=lenB_lt L
 have hb2:=sumOf_lt L
 have hcm0:=hcm
 unfold maxLen at hcm
 have hd8 : decide ((n : Int) < 8) = false:=by simp;omega
 have hr0 : RefAt (w.alloc (.cells #[.slice a n c,.int .i64 0,.bool false] 99)) B w.heap.size L 0 true:=⟨a,n,c,heap_alloc_new _ _,hnc,hcm0,hl.alloc hB _,Nat.zero_le _,hB⟩
 have HR0:=hid hr0
 clear hr0
 have d1 : decide ((60000 : Int) < (lenB L : Int)) = false:=by simp;omega
 have d2 : decide ((n : Int) - 8 < (lenB L : Int)) = false:=by simp;omega
 have j0 : (8 : Int)≤8 + (lenB L : Int):=by omega
 have j1 : 8 + (lenB L : Int)≤(c : Int):=by omega
 have j2 : (8 + (lenB L : Int)).toNat = 8 + lenB L:=by omega
 have hsl:=sumB_lt' (bodyB L)
 obtain ⟨b,off,rfl,_⟩:=hl.addr (by omega)
 have hbd:=(hl.drop (k:=8) (cap:=c) (by omega) hnc).take (k:=lenB L) h7
 have d3 : (((sumB (bodyB L) : Nat) : Int) == ((sumOf L : Nat) : Int)) = false:=by simp;omega
 have d4 : (((sumB (bodyB L) : Nat) : Int) != ((sumOf L : Nat) : Int)) = true:=by simp;omega
 clear hlen
 by_cases hd : c = 8
 all_goals
  first | (rw [if_pos hd] at hbd;subst hd) | rw [if_neg hd,Option.map_some,add_plain] at hbd
  change BAt w B _ (lenB L) (bodyB L) at hbd
  go_enter Tryz.func139,Tryz.ntmps139
  go_wp2_with (first | (go_at_call 45;((with_reducible refine (refTakeLen B w.heap.size L _ HR0.out hL8).mono ?_);rintro e w2 ⟨rfl,hr2,ho2⟩)) | (go_at_call 45;((with_reducible refine (refTakeSum B w.heap.size L _ hr2 hL8).mono ?_);rintro e w3 ⟨rfl,ho3⟩;have hB3 : Below w.heap.size w w3:=Only.below (Only.below ((Below.refl _ _).alloc (Nat.le_refl _) _) ho2 (Nat.le_refl _) (by simp)) ho3 (Nat.le_refl _) (Only.below ((Below.refl _ _).alloc (Nat.le_refl _) _) ho2 (Nat.le_refl _) (by simp)).size)) | (go_at_call 138;((with_reducible refine (refSum_any B _ (lenB L) _ (bodyB L) _ (hbd.below hB3 hB) (by unfold maxLen;omega)).mono ?_);rintro e w' ⟨rfl,rfl⟩)))
  go_ret3
  exact ⟨rfl,hB3⟩
theorem refUnwrap_yes (B C : Nat) (a : Option Addr) (n c : Nat) (L : List UInt8) (w : World) (hl : BAt w B a n L) (hN : ∀ p,a = some p→C≤p.block) (hB : B≤w.heap.size) (hnc : n≤c) (hcm : c≤maxLen) (h8 : 8≤n) (h6 : lenB L≤60000) (h7 : lenB L≤n - 8) (hs : sumB (bodyB L) = sumOf L) :
  Calls Tryz.prog 139 #[.slice a n c] w (RefYes w B C (bodyB L)):=by
 have hlen:=hl.len
 have hL8 : 8≤L.length:=by omega
 have hb:=lenB_lt L
 have hb2:=sumOf_lt L
 have hcm0:=hcm
 unfold maxLen at hcm
 have hd8 : decide ((n : Int) < 8) = false:=by simp;omega
 have hr0 : RefAt (w.alloc (.cells #[.slice a n c,.int .i64 0,.bool false] 99)) B w.heap.size L 0 true:=⟨a,n,c,heap_alloc_new _ _,hnc,hcm0,hl.alloc hB _,Nat.zero_le _,hB⟩
 have HR0:=hid hr0
 clear hr0
 have d1 : decide ((60000 : Int) < (lenB L : Int)) = false:=by simp;omega
 have d2 : decide ((n : Int) - 8 < (lenB L : Int)) = false:=by simp;omega
 have j0 : (8 : Int)≤8 + (lenB L : Int):=by omega
 have j1 : 8 + (lenB L : Int)≤(c : Int):=by omega
 have j2 : (8 + (lenB L : Int)).toNat = 8 + lenB L:=by omega
 have hsl:=sumB_lt' (bodyB L)
 obtain ⟨b,off,rfl,_⟩:=hl.addr (by omega)
 have hbd:=(hl.drop (k:=8) (cap:=c) (by omega) hnc).take (k:=lenB L) h7
 have hCb : C≤b:=hN _ rfl
 clear hN
 have HCB:=hid hCb
 clear hCb
 have HS : ∀ (W : World) {x : Option Addr} {y : Nat},BAt W B x (lenB L) (bodyB L)→Calls Tryz.prog 138 #[.slice x (lenB L) y] W fun e w'=>e = .returned (.int .u32 (sumOf L : Nat))∧W = w':=by
  intro W x y h
  rw [← hs]
  exact refSum_any _ _ _ _ _ W h (by unfold maxLen;omega)
 clear hs
 clear hlen
 by_cases hd : c = 8
 all_goals
  first | (rw [if_pos hd] at hbd;subst hd) | rw [if_neg hd,Option.map_some,add_plain] at hbd
  change BAt w B _ (lenB L) (bodyB L) at hbd
  go_enter Tryz.func139,Tryz.ntmps139
  go_wp2_with (first | (go_at_call 45;((with_reducible refine (refTakeLen B w.heap.size L _ HR0.out hL8).mono ?_);rintro e w2 ⟨rfl,hr2,ho2⟩)) | (go_at_call 45;((with_reducible refine (refTakeSum B w.heap.size L _ hr2 hL8).mono ?_);rintro e w3 ⟨rfl,ho3⟩;have hB3 : Below w.heap.size w w3:=Only.below (Only.below ((Below.refl _ _).alloc (Nat.le_refl _) _) ho2 (Nat.le_refl _) (by simp)) ho3 (Nat.le_refl _) (Only.below ((Below.refl _ _).alloc (Nat.le_refl _) _) ho2 (Nat.le_refl _) (by simp)).size)) | (go_at_call 138;((with_reducible refine (HS _ (hbd.below hB3 hB)).mono ?_);rintro e w' ⟨rfl,rfl⟩)))
  go_ret3
  exact ⟨_,lenB L,_,by go_num,hbd.below hB3 hB,hB3,(fun p e=>by injection e with e;subst e;exact HCB.out),by omega,by unfold maxLen;omega⟩
theorem refUnwrap_no (B : Nat) (a : Option Addr) (n c : Nat) (L : List UInt8) (w : World) (hl : BAt w B a n L) (hB : B≤w.heap.size) (hnc : n≤c) (hcm : c≤maxLen) (he : uwErr L≠0) :
  Calls Tryz.prog 139 #[.slice a n c] w (UwNo w (uwErr L)):=by
 have hlen:=hl.len
 by_cases h8 : n < 8
 ·rw [uwErr_short (by omega)];exact refUnwrap_short B a n c L w hl hB hnc hcm h8
 ·by_cases h6 : 60000 < lenB L
  ·rw [uwErr_long (by omega) h6];exact refUnwrap_long B a n c L w hl hB hnc hcm (by omega) h6
  ·by_cases h7 : n - 8 < lenB L
   ·rw [uwErr_cut (by omega) (by omega) (by omega)];exact refUnwrap_cut B a n c L w hl hB hnc hcm (by omega) (by omega) h7
   ·by_cases hs : sumB (bodyB L) = sumOf L
    ·exact absurd (uwErr_ok (by omega) (by omega) (by omega) hs) he
    ·rw [uwErr_sum (by omega) (by omega) (by omega) hs];exact refUnwrap_sum B a n c L w hl hB hnc hcm (by omega) (by omega) (by omega) hs
theorem refUnwrap_ok (B C : Nat) (a : Option Addr) (n c : Nat) (L : List UInt8) (w : World) (hl : BAt w B a n L) (hN : ∀ p,a = some p→C≤p.block) (hB : B≤w.heap.size) (hnc : n≤c) (hcm : c≤maxLen) (he : uwErr L = 0) :
  Calls Tryz.prog 139 #[.slice a n c] w (RefYes w B C (bodyB L)):=by
 have hlen:=hl.len
 obtain ⟨h8,h6,h7,hs⟩:=uwErr_zero he
 exact refUnwrap_yes B C a n c L w hl hN hB hnc hcm (by omega) h6 (by omega) hs
/-- The bodies, their slices' capacities and blocks. -/
def Caps (C : Nat) (xs : List Value) : Prop := ∀ x ∈ xs, ∃ a m c,x = .slice a m c∧m≤c∧c≤maxLen∧∀ p,a = some p→C≤p.block
def OwnRowsC (C : Nat) (w0 w : World) (S : Nat→Prop) (v : Value) (n : Nat) (ls : List (List UInt8)) : Prop :=
 Below w0.heap.size w0 w∧∃ xs,w.ownsRow w0.heap.size 34 1 v n xs∧Els w S v.ownBlock xs ls∧Caps C xs
def AllOutC (C : Nat) (w : World) (S : Nat→Prop) (L : List UInt8) (e : Ending) (w' : World) : Prop :=
 ∃ a k c,e = .returned (.tuple #[.slice a k c,.int .i64 ((usedB L : Nat) : Int)])∧OwnRowsC C w w' S (.slice a k c) k (allB L)
section
variable {C : Nat} {w0 w w' : World} {S : Nat→Prop} {v : Value} {n : Nat} {ls : List (List UInt8)}
theorem OwnRowsC.nil (w : World) : OwnRowsC C w w S (.slice none 0 0) 0 []:=⟨Below.refl _ _,[],World.ownsRow_nil _ _ _ _,Els.nil,fun x hx=>by cases hx⟩
theorem OwnRowsC.below (h : OwnRowsC C w0 w S v n ls) (hb : Below w.heap.size w w') : OwnRowsC C w0 w' S v n ls:=by
 obtain ⟨hB,xs,ho,he,hc⟩:=h
 exact ⟨hB.trans (hb.mono hB.size),xs,own_below ho hb,he.below hb,hc⟩
theorem OwnRowsC.push {w1 : World} {g cap m c : Nat} {a : Option Addr} {l : List UInt8} {xs : List Value} {o : Obj} (hB : Below w0.heap.size w0 w) (he : Els w S v.ownBlock xs ls) (hc : Caps C xs) (hv : ∀ k,v.ownBlock = some k→w0.heap.size≤k)
  (hl : BAt w w.heap.size a m l) (hS : ∀ b off,a = some ⟨b,off,none⟩→0 < m→S b∧some b≠v.ownBlock) (hc1 : m≤c) (hc2 : c≤maxLen) (hc3 : ∀ p,a = some p→C≤p.block)
  (ho : w1.ownsRow w0.heap.size 34 1 (.slice (some ⟨g,0,none⟩) (n + 1) cap) (n + 1) (xs ++ [.slice a m c])) (hg : (w.alloc o).grownBy w1 v.ownBlock) (hat : v.ownBlock = some g∨g = w.heap.size + 1) :
  OwnRowsC C w0 w1 S (.slice (some ⟨g,0,none⟩) (n + 1) cap) (n + 1) (ls ++ [l]):=by
 have hb1 : Below w.heap.size w (w.alloc o):=(Below.refl _ _).alloc (Nat.le_refl _) o
 have e1 : Els (w.alloc o) S v.ownBlock (xs ++ [.slice a m c]) (ls ++ [l]):=(he.app (Els.one hl hS)).below hb1
 have hk : v.ownBlock = some g∨(w.alloc o).heap.size≤g:=by
  rcases hat with h | h
  ·exact .inl h
  ·exact .inr (by simp;omega)
 refine ⟨(hB.alloc hB.size o).grown hg (by simp;have:=hB.size;omega) hv,_,ho,e1.grown_to hg hk,fun x hx=>?_⟩
 rcases List.mem_append.1 hx with hx | hx
 ·exact hc x hx
 ·exact ⟨a,m,c,List.mem_singleton.1 hx,hc1,hc2,hc3⟩
theorem OwnRowsC.out {L : List UInt8} {D : List (List UInt8)} {k u : Nat} (h : OwnRowsC C w w' S v k D) (e1 : D = allB L) (e2 : u = usedB L) : AllOutC C w S L (.returned (.tuple #[v,.int .i64 (u : Int)])) w':=by
 subst e1;subst e2
 obtain ⟨hB,xs,ho,he⟩:=h
 obtain ⟨a,c,rfl,_⟩:=own_form ho
 exact ⟨a,k,c,rfl,hB,xs,ho,he⟩
end
theorem refAll_any (C : Nat) (a : Option Addr) (n c : Nat) (L : List UInt8) (w : World) (hl : BAt w w.heap.size a n L) (hN : ∀ p,a = some p→C≤p.block) (hnc : n≤c) (hcm : c≤maxLen) (hn : n≤1099511627776) :
  Calls Tryz.prog 127 #[.slice a n c] w (AllOutC C w (fun b=>C≤b∧b < w.heap.size) L):=by
 obtain ⟨i0,hi,hz0,hz1,hz2⟩:=info_parts Tryz.info34
 have hcm':=hcm
 unfold maxLen at hcm'
 go_enter Tryz.func127,Tryz.ntmps127
 go_wp2
 go_loopw [4,5] (fun v x wr => ∃ (u k : Nat) (D : List (List UInt8)),u≤n∧k * 8≤u∧x = .int .i64 u∧D ++ allB (L.drop u) = allB L∧u + usedB (L.drop u) = usedB L∧OwnRowsC C w wr (fun b=>C≤b∧b < w.heap.size) v k D) (fun _ x _=>n - (intOf x).toNat)
 case atStart=>exact ⟨0,0,[],by omega,by omega,rfl,rfl,Nat.zero_add _,OwnRowsC.nil w⟩
 case round =>
  obtain ⟨u,k,D,hu,hk8,rfl,h1,h2,hR⟩:=hrel
  have hlen:=hl.len
  have hBr : Below w.heap.size w wr:=hR.1
  by_cases hun : u < n
  ·obtain ⟨b,off,rfl,hbB⟩:=hl.addr (by omega)
   have HCb : Hid (C≤b):=hN _ rfl
   clear hN
   have hdr:=hl.drop (k:=u) (cap:=c) hu hnc
   have hcu : ¬ c = u:=by omega
   rw [if_neg hcu,Option.map_some,add_plain] at hdr
   have i1 : (u : Int)≤(n : Int):=by omega
   by_cases he : uwErr (L.drop u) = 0
   ·obtain ⟨s1,s2⟩:=all_step he h1 h2
    obtain ⟨hh8,hh6,hh7,_⟩:=uwErr_zero he
    rw [List.length_drop] at hh7 hh8
    have hbl:=bodyB_len he
    have HE:=hid he;have S1:=hid s1;have S2:=hid s2;have HBL:=hid hbl
    have hlu : u + (8 + lenB (L.drop u))≤n:=by omega
    clear he s1 s2 h1 h2 hlen hbl hh8 hh6 hh7
    go_upto_region 7 with (go_at_call 139;((with_reducible refine (refUnwrap_ok w.heap.size C _ (n - u) (c - u) (L.drop u) _ (hdr.below hBr (Nat.le_refl _)) (fun p e=>by injection e with e;subst e;exact HCb.out) hBr.size (by omega) (by unfold maxLen;omega) HE.out).mono ?_);rintro e w1 ⟨a1,n1,c1,rfl,hba1,hb1,hN1,hca1,hca2⟩;have HN1:=hid hN1;clear hN1;obtain rfl : n1 = lenB (L.drop u):=(by rw [← hba1.len,HBL.out]);have hR1:=hR.below hb1))
    obtain ⟨hB1,xs,hox,hel,hcp⟩:=hR1
    have hv:=own_block hox
    have hS : ∀ b' off',a1 = some ⟨b',off',none⟩→0 < lenB (L.drop u)→(C≤b'∧b' < w.heap.size)∧some b'≠u4.ownBlock:=by
     intro b' off' e hp
     have hC1:=HN1.out _ e
     obtain ⟨b2,off2,e2,h2⟩:=hba1.addr hp
     rw [e] at e2;injection e2 with e2;injection e2 with e2;subst e2
     exact ⟨⟨hC1,h2⟩,fun e3=>by have:=hv b' e3.symm;omega⟩
    have hb1':=hba1.more hB1.size
    clear hR
    have HS:=hid hS;clear hS
    have HCP:=hid hcp;clear hcp
    have hsz1:=hB1.size
    go_wp2_with (at_builtin;(refine wpList_append_lies _ rfl _ _ 149 rfl w.heap.size 34 i0 (.slice none 0 0) 1 24 Tryz.underlying149 hi hz0 hz1 hz2 rfl (by omega) u4 k xs rfl (hox.alloc _) ⟨w1.heap.size,0,none⟩ 1 1 [.slice a1 (lenB (L.drop u)) c1] rfl rfl (World.news_of_block (heap_alloc_new _ _)) (by intro x hx;simp at hx;subst hx;rfl) (by omega) (by unfold maxLen;omega) (by omega) (by simp;omega) (w1.heap.size + 1) (by simp) ?_;intro g cap w2 ho2 hg2 hat hlt2;have R2:=OwnRowsC.push hB1 hel HCP.out hv hb1' HS.out hca1 hca2 HN1.out ho2 hg2 hat;clear ho2 hg2 hat hlt2))
    go_roundw
    case rel=>exact ⟨u + (8 + lenB (L.drop u)),k + 1,_,by omega,by omega,by go_num,S1.out,S2.out,R2⟩
    case measure=>simp [intOf];omega
   ·obtain ⟨s1,s2⟩:=all_end he h1 h2
    have HE:=hid he;have S1:=hid s1;have S2:=hid s2
    have hlt:=uwErr_lt (L.drop u)
    have hq : ((uwErr (L.drop u) : Int) == 0) = false:=by simp;omega
    have hq2 : ((uwErr (L.drop u) : Int) != 0) = true:=by simp;omega
    clear he s1 s2 h1 h2 hlen
    go_wp2_with (go_at_call 139;((with_reducible refine (refUnwrap_no w.heap.size _ (n - u) (c - u) (L.drop u) _ (hdr.below hBr (Nat.le_refl _)) hBr.size (by omega) (by unfold maxLen;omega) HE.out).mono ?_);rintro e w1 ⟨rfl,hb1⟩))
    go_ret2
    exact (hR.below hb1).out S1.out S2.out
  ·obtain rfl : u = n:=by omega
   have he : uwErr (L.drop u)≠0:=by rw [uwErr_short (by simp;omega)];omega
   obtain ⟨s1,s2⟩:=all_end he h1 h2
   have S1:=hid s1;have S2:=hid s2
   clear he s1 s2 h1 h2 hlen
   go_wp2
   go_ret2
   exact hR.out S1.out S2.out
end Go.Proofs.YtcfmifongbapkaaGreatDoor
