/- Contract of message.Formed, in terms of its letters. Conditions: the message's lists lie in memory, and are no longer than a million; the tables of utf8 lie there. message.Formed in the document's words: the letters say what FormMg says. Condition: the message lies in memory. Contracts of the statements' plain, few and awake, and of the document's Few. Conditions: the message's lists lie in memory; the tables of utf8 lie there. -/
import Derived.Test.YtigimmbdlhginaaGreatDoorGT
import Derived.Lib.OthersKept
import Derived.Test.YtigimmbdlhginaaGreatDoorGI
namespace Go.Proofs.YtigimmbdlhginaaGreatDoor
set_option maxRecDepth 100000
set_option maxHeartbeats 4000000
open Go.RowKit
open Go.Lib (hid)
set_option linter.unusedVariables false
/-- The letters as numbers; a message without the fields of some letters. -/
def lets (s : ByteArray) : List Nat:=s.data.toList.map (·.toNat)
theorem lets_len (s : ByteArray) : (lets s).length = s.size:=by unfold lets;rw [List.length_map,Array.length_toList];rfl
theorem lets_get (s : ByteArray) (i : Nat) (h : i < s.size) : (lets s)[i]'(by rw [lets_len];exact h) = (s[i]'h).toNat:=by
 unfold lets;simp;rfl
def dropMs (x : MgM) (l : List Nat) : MgM:=l.foldl dropM x
def dropLs (L : MgL) (l : List Nat) : MgL:=l.foldl dropL L
theorem dropMs_step (x : MgM) (s : ByteArray) (i : Nat) (h : i < s.size) : dropMs x ((lets s).take (i + 1)) = dropM (dropMs x ((lets s).take i)) (s[i]'h).toNat:=by
 rw [List.take_succ_eq_append_getElem (by rw [lets_len];exact h),lets_get s i h]
 unfold dropMs;rw [List.foldl_append];rfl
instance (c : Nat) : Decidable (IsLet c):=by unfold IsLet;infer_instance
theorem letters_none {k : Int} (h : ¬ (1≤k∧k≤15)) : letters k = ⟨#[]⟩:=by
 unfold letters
 rw [if_neg (by omega),if_neg (by omega),if_neg (by omega),if_neg (by omega),if_neg (by omega),if_neg (by omega),if_neg (by omega),if_neg (by omega),if_neg (by omega),if_neg (by omega),if_neg (by omega),if_neg (by omega),if_neg (by omega),if_neg (by omega),if_neg (by omega)]
theorem kind_cases {k : Int} (h : 1≤k∧k≤15) : k = 1∨k = 2∨k = 3∨k = 4∨k = 5∨k = 6∨k = 7∨k = 8∨k = 9∨k = 10∨k = 11∨k = 12∨k = 13∨k = 14∨k = 15:=by omega
theorem letters_all (k : Int) : (∀ c ∈ lets (letters k),IsLet c)∧(letters k).size≤7:=by
 by_cases h : 1≤k∧k≤15
 ·rcases kind_cases h with rfl | rfl | rfl | rfl | rfl | rfl | rfl | rfl | rfl | rfl | rfl | rfl | rfl | rfl | rfl <;> exact ⟨by decide,by decide⟩
 ·rw [letters_none h];exact ⟨by decide,by decide⟩
section
variable {w : World} {x : MgM} {L : MgL} {c : Nat}
theorem MgAt.drop (h : MgAt w x L) (hc : IsLet c) : MgAt w (dropM x c) (dropL L c):=by
 have n:=h.nb
 have zc : CmAt w zeroM [] []:=CmAt.zero
 have zt : TxAt w none 0 none 0 [] []:=TxAt.nil
 have z32 : 0 < 4294967296:=by decide
 have z64 : 0 < 18446744073709551616:=by decide
 have zm : (⟨#[]⟩ : ByteArray).size≤maxLen:=Nat.zero_le _
 rcases hc with rfl | rfl | rfl | rfl | rfl | rfl | rfl | rfl | rfl | rfl | rfl | rfl | rfl | rfl | rfl
 ·exact ⟨h.cm,h.tx,h.da,⟨z32,n.vr,n.st,n.ver,n.vb,n.key,n.vt⟩⟩
 ·exact ⟨h.cm,h.tx,h.da,⟨n.br,n.vr,n.st,n.ver,n.vb,n.key,n.vt⟩⟩
 ·exact ⟨zc,h.tx,h.da,⟨n.br,z32,n.st,n.ver,n.vb,n.key,n.vt⟩⟩
 ·exact ⟨zc,h.tx,h.da,⟨n.br,n.vr,n.st,n.ver,n.vb,n.key,n.vt⟩⟩
 ·exact ⟨h.cm,zt,h.da,⟨n.br,n.vr,n.st,n.ver,n.vb,n.key,n.vt⟩⟩
 ·exact ⟨h.cm,h.tx,h.da,⟨n.br,n.vr,n.st,n.ver,n.vb,n.key,n.vt⟩⟩
 ·exact ⟨h.cm,h.tx,h.da,⟨n.br,n.vr,n.st,n.ver,n.vb,n.key,n.vt⟩⟩
 ·exact ⟨h.cm,h.tx,h.da,⟨n.br,n.vr,z64,n.ver,n.vb,n.key,n.vt⟩⟩
 ·exact ⟨h.cm,h.tx,h.da,⟨n.br,n.vr,n.st,n.ver,n.vb,n.key,n.vt⟩⟩
 ·exact ⟨h.cm,h.tx,h.da,⟨n.br,n.vr,n.st,n.ver,n.vb,n.key,n.vt⟩⟩
 ·exact ⟨h.cm,h.tx,h.da,⟨n.br,n.vr,n.st,n.ver,n.vb,zm,n.vt⟩⟩
 ·exact ⟨h.cm,h.tx,h.da,⟨n.br,n.vr,n.st,z64,n.vb,n.key,n.vt⟩⟩
 ·exact ⟨h.cm,h.tx,h.da,⟨n.br,n.vr,n.st,n.ver,z64,n.key,zm⟩⟩
 ·exact ⟨h.cm,h.tx,h.da,⟨n.br,n.vr,n.st,n.ver,n.vb,n.key,n.vt⟩⟩
 ·exact ⟨h.cm,h.tx,BAt.nil,⟨n.br,n.vr,n.st,n.ver,n.vb,n.key,n.vt⟩⟩
theorem MgF.drop (h : MgF x) (hc : IsLet c) : MgF (dropM x c):=by
 have z : 0≤1000000:=Nat.zero_le _
 rcases hc with rfl | rfl | rfl | rfl | rfl | rfl | rfl | rfl | rfl | rfl | rfl | rfl | rfl | rfl | rfl
 ·exact ⟨h.n,h.m,h.tn,h.tm,h.dn⟩
 ·exact ⟨h.n,h.m,h.tn,h.tm,h.dn⟩
 ·exact ⟨z,z,h.tn,h.tm,h.dn⟩
 ·exact ⟨z,z,h.tn,h.tm,h.dn⟩
 ·exact ⟨h.n,h.m,z,z,h.dn⟩
 ·exact ⟨h.n,h.m,h.tn,h.tm,h.dn⟩
 ·exact ⟨h.n,h.m,h.tn,h.tm,h.dn⟩
 ·exact ⟨h.n,h.m,h.tn,h.tm,h.dn⟩
 ·exact ⟨h.n,h.m,h.tn,h.tm,h.dn⟩
 ·exact ⟨h.n,h.m,h.tn,h.tm,h.dn⟩
 ·exact ⟨h.n,h.m,h.tn,h.tm,h.dn⟩
 ·exact ⟨h.n,h.m,h.tn,h.tm,h.dn⟩
 ·exact ⟨h.n,h.m,h.tn,h.tm,h.dn⟩
 ·exact ⟨h.n,h.m,h.tn,h.tm,h.dn⟩
 ·exact ⟨h.n,h.m,h.tn,h.tm,z⟩
theorem MgAt.drops (h : MgAt w x L) (l : List Nat) (hl : ∀ c ∈ l,IsLet c) : MgAt w (dropMs x l) (dropLs L l):=by
 induction l generalizing x L with
 | nil=>exact h
 | cons c r ih=>exact ih (h.drop (hl c (List.mem_cons_self ..))) fun d hd=>hl d (List.mem_cons_of_mem _ hd)
theorem MgF.drops (h : MgF x) (l : List Nat) (hl : ∀ c ∈ l,IsLet c) : MgF (dropMs x l):=by
 induction l generalizing x with
 | nil=>exact h
 | cons c r ih=>exact ih (h.drop (hl c (List.mem_cons_self ..))) fun d hd=>hl d (List.mem_cons_of_mem _ hd)
end
/-- Whether all its letters' fields are well, and all else is zero. -/
noncomputable def formP (x : MgM) (L : MgL) : Bool :=
 (lets (letters x.k)).all (wellF x L) && (!(letters x.k).toList.isEmpty && eqB (mgT (dropMs x (lets (letters x.k))) (dropLs L (lets (letters x.k)))) (mgT (zeroG x.k) noL))
/-- Where the loop stands. -/
def FrmR (x : MgM) (s : ByteArray) (w : World) (pos : Nat) (wr : World) : Prop :=
 Below w.heap.size w wr∧BoxC wr w.heap.size (mgV x) 40∧BoxC wr (w.heap.size + 1) (mgV (dropMs x ((lets s).take pos))) 40∧wr.heap[w.heap.size + 1 + 1]? = some (.stringIter s pos)
section
variable {x : MgM} {s : ByteArray} {w wr w1 : World} {pos : Nat}
theorem FrmR.bel (h : FrmR x s w pos wr) : Below w.heap.size w wr:=h.1
theorem FrmR.mx (h : FrmR x s w pos wr) : BoxC wr w.heap.size (mgV x) 40:=h.2.1
theorem FrmR.rx (h : FrmR x s w pos wr) : BoxC wr (w.heap.size + 1) (mgV (dropMs x ((lets s).take pos))) 40:=h.2.2.1
theorem FrmR.it (h : FrmR x s w pos wr) : wr.heap[w.heap.size + 1 + 1]? = some (.stringIter s pos):=h.2.2.2
/-- The iterator goes on. -/
theorem FrmR.next (h : FrmR x s w pos wr) : Below w.heap.size w (wr.iterAt (w.heap.size + 1 + 1) s (pos + 1))∧BoxC (wr.iterAt (w.heap.size + 1 + 1) s (pos + 1)) w.heap.size (mgV x) 40∧BoxC (wr.iterAt (w.heap.size + 1 + 1) s (pos + 1)) (w.heap.size + 1) (mgV (dropMs x ((lets s).take pos))) 40∧(wr.iterAt (w.heap.size + 1 + 1) s (pos + 1)).heap[w.heap.size + 1 + 1]? = some (.stringIter s (pos + 1)) :=
 ⟨Lib.below_iterAt h.1 (by omega) s _,(Lib.iterAt_other _ _ _ _ _ (by omega)).trans h.2.1,(Lib.iterAt_other _ _ _ _ _ (by omega)).trans h.2.2.1,Lib.iterAt_heap _ _ _ _ _ h.2.2.2⟩
/-- A field is dropped. -/
theorem FrmR.drop {w2 w3 : World} {y : MgM} (h0 : w.heap.size + 1 + 1 < w2.heap.size) (h1 : Below w.heap.size w w2) (h2 : BoxC w2 w.heap.size (mgV x) 40) (h3 : w2.heap[w.heap.size + 1 + 1]? = some (.stringIter s (pos + 1))) (hy : BoxC w3 (w.heap.size + 1) (mgV y) 40) (ho : Only (w.heap.size + 1) w2 w3) (e : y = dropMs x ((lets s).take (pos + 1))) : FrmR x s w (pos + 1) w3 :=
 ⟨Only.below h1 ho (by omega) h1.size,h2.only ho (by omega),e ▸ hy,(ho.block _ h0 (fun e=>by injection e with e;omega)).trans h3⟩
end
theorem all_take (p : Nat→Bool) (l : List Nat) (i : Nat) (h : i < l.length) (ha : (l.take i).all p = true) : (l.take (i + 1)).all p = p l[i]:=by
 rw [List.take_succ_eq_append_getElem h,List.all_append,ha];simp
theorem all_no (p : Nat→Bool) (l : List Nat) (i : Nat) (h : i < l.length) (hp : p l[i] = false) : l.all p = false:=by
 cases e : l.all p
 ·rfl
 ·rw [List.all_eq_true] at e
  rw [e _ (List.getElem_mem h)] at hp;cases hp
theorem gFormed_gen (x : MgM) (L : MgL) (w : World) (h : MgAt w x L) (hf : MgF x) (hU : Tabs w) :
  Calls Tryz.prog 9 #[.agg (mgV x)] w (Says w (formP x L)):=by
 have H0:=hid ((Boxs.start w).more (mgV x) 40)
 have x0:=H0.c 0 0 rfl rfl
 have xW:=hid ((H0.g 0 rfl).ldM)
 have cF:=fun W=>fields_any x.k W
 have hlt:=letters_all x.k
 have cW : Hid (∀ c W,IsLet c→Below w.heap.size w W→Calls Tryz.prog 25 #[.agg (mgV x),.int .i32 ((c : Nat) : Int)] W (Says W (wellF x L c))):=fun c W hc hW=>well_any x L c W hc (h.later hW) hf (hU.below hW)
 have cS : Hid (∀ l W,(∀ c ∈ l,IsLet c)→Below w.heap.size w W→Calls Tryz.prog 27 #[.agg (mgV (dropMs x l)),.agg (zeroGV x.k)] W (Says W (eqB (mgT (dropMs x l) (dropLs L l)) (mgT (zeroG x.k) noL)))):=fun l W hl hW=>by
  rw [← sameG_iff]
  exact gSame_any (dropMs x l) (zeroG x.k) (dropLs L l) noL W ((h.later hW).drops l hl) (MgAt.zero x.k) (hf.drops l hl) (zeroF x.k)
 have HP : Hid (formP x L = ((lets (letters x.k)).all (wellF x L) && (!(letters x.k).toList.isEmpty && eqB (mgT (dropMs x (lets (letters x.k))) (dropLs L (lets (letters x.k)))) (mgT (zeroG x.k) noL)))):=rfl
 generalize formP x L = P at *
 generalize letters x.k = s at *
 have hls:=lets_len s
 obtain ⟨hlet,hs7⟩:=hlt
 have HL:=hid hlet
 have HLS:=hid hls
 clear h hf hU hlet hls
 go_enter Tryz.func9,Tryz.ntmps9
 go_upto_region 2 with (go_at_call 12;((with_reducible refine (cF _).mono ?_);rintro e w1 ⟨rfl,rfl⟩))
 have HZ : Hid (BoxC ((w.alloc (.cells (mgV x) 40)).alloc (.cells (zeroGV 0) 40)) (w.heap.size + 1) (mgV (zeroG 0)) 40):=by
  have:=BoxC.new (w.alloc (.cells (mgV x) 40)) (zeroGV 0) 40
  have e : (w.alloc (.cells (mgV x) 40)).heap.size = w.heap.size + 1:=by simp
  rw [e] at this;exact this
 have R0 : Hid (FrmR x s w 0 ((((w.alloc (.cells (mgV x) 40)).alloc (.cells (zeroGV 0) 40)).setRow (w.heap.size + 1) (mgV x)).iter s 0)):=by
  have b0 : Below w.heap.size w ((w.alloc (.cells (mgV x) 40)).alloc (.cells (zeroGV 0) 40)):=two_box w _ _ _ _
  have o1:=only_fill ((w.alloc (.cells (mgV x) 40)).alloc (.cells (zeroGV 0) 40)) (w.heap.size + 1) (mgV x)
  have b1:=Only.below b0 o1 (by omega) b0.size
  have m1 : BoxC (((w.alloc (.cells (mgV x) 40)).alloc (.cells (zeroGV 0) 40)).setRow (w.heap.size + 1) (mgV x)) w.heap.size (mgV x) 40:=((H0.g 0 rfl).alloc _).only o1 (by omega)
  have r1:=HZ.out.fill (mgV x)
  have e : (((w.alloc (.cells (mgV x) 40)).alloc (.cells (zeroGV 0) 40)).setRow (w.heap.size + 1) (mgV x)).heap.size = w.heap.size + 1 + 1:=by rw [setRow_size];simp
  refine ⟨b1.alloc b1.size _,m1.alloc _,r1.alloc _,?_⟩
  have:=World.iter_heap (((w.alloc (.cells (mgV x) 40)).alloc (.cells (zeroGV 0) 40)).setRow (w.heap.size + 1) (mgV x)) s 0
  rwa [e] at this
 go_upto_region 3 with (first | (refine wpList_load_at rfl 40 _ rfl _ _ rfl xW.out ?_) | (refine wpList_store_box rfl _ _ rfl (w.heap.size + 1) x rfl rfl (zeroG 0) HZ.out ?_))
 go_upto_region 4 with (fail)
 clear x0 xW HZ H0 cF
 generalize ((((w.alloc (.cells (mgV x) 40)).alloc (.cells (zeroGV 0) 40)).setRow (w.heap.size + 1) (mgV x)).iter s 0) = W0 at *
 go_loopw [6] (fun _ wr => ∃ pos,pos≤s.size∧FrmR x s w pos wr∧((lets s).take pos).all (wellF x L) = true) (fun _ wr=>s.size - wr.iterPos (w.heap.size + 1 + 1))
 case atStart=>exact ⟨0,Nat.zero_le _,R0.out,rfl⟩
 case round =>
  obtain ⟨pos,hps,hR,hall⟩:=hrel
  have R1:=hid hR
  have A1:=hid hall
  have I1:=hid hR.it
  clear hR hall R0
  by_cases hlt : pos < s.size
  ·have hlp : pos < (lets s).length:=by rw [HLS.out];exact hlt
   have hg:=lets_get s pos hlt
   have hLc : IsLet (s[pos]'hlt).toNat:=by rw [← hg];exact HL.out _ (List.getElem_mem hlp)
   have hnx : ∀ ty,(Instr.next (.pointer (some ⟨w.heap.size + 1 + 1,0,none⟩)) true ty).run Tryz.prog wr = .ok (.tuple #[.bool true,.int .i64 pos,.int .i32 (s[pos]'hlt).toNat]) (wr.iterAt (w.heap.size + 1 + 1) s (pos + 1)):=fun ty=>Lib.run_next_ascii_at wr _ s pos ty I1.out hlt (by rcases hLc with e | e | e | e | e | e | e | e | e | e | e | e | e | e | e <;> rw [e] <;> decide)
   have N1:=hid R1.out.next
   have hms:=dropMs_step x s pos hlt
   have hat:=all_take (wellF x L) (lets s) pos hlp A1.out
   have hno:=all_no (wellF x L) (lets s) pos hlp
   rw [hg] at hat hno
   have DS:=hid hms
   have AT:=hid hat
   have NO:=hid hno
   have LC:=hid hLc
   have cD:=fun W (hW : BoxC W (w.heap.size + 1) (mgV (dropMs x ((lets s).take pos))) 40)=>drop_any (dropMs x ((lets s).take pos)) (s[pos]'hlt).toNat (w.heap.size + 1) W LC.out hW
   generalize (s[pos]'hlt).toNat = c at *
   obtain ⟨W1,hW1⟩ : ∃ W1,wr.iterAt (w.heap.size + 1 + 1) s (pos + 1) = W1:=⟨_,rfl⟩
   rw [hW1] at hnx N1
   clear hW1 hms hat hno hLc hg R1 hlp
   have NB:=hid N1.out.1
   have NM:=hid N1.out.2.1
   have NR:=hid N1.out.2.2.1
   have NI:=hid N1.out.2.2.2
   have NL : Hid (w.heap.size + 1 + 1 < W1.heap.size):=lt_of_heap N1.out.2.2.2
   have mW:=hid N1.out.2.1.ldM
   have cW1:=cW.out c W1 LC.out NB.out
   clear N1 cW cS
   cases hw : wellF x L c
   ·rw [hw] at cW1
    have Q : Hid (P = false):=by unfold Hid;rw [HP.out,NO.out hw];rfl
    clear AT NO A1 HP cD hw
    go_wp2_with (first | (refine wpList_load_at rfl 40 _ rfl _ _ rfl mW.out ?_) | (go_at_call 25;((with_reducible refine (cW1).mono ?_);rintro e w2 ⟨rfl,hb2⟩;have B2 : Hid (Below w.heap.size w w2):=NB.out.trans (hb2.mono NB.out.size))))
    go_ret
    exact ⟨by rw [Q.out];rfl,B2.out⟩
   ·rw [hw] at cW1
    have A2 : Hid (((lets s).take (pos + 1)).all (wellF x L) = true):=by unfold Hid;rw [AT.out,hw]
    clear AT NO A1 HP hw
    go_wp2_with (first | (refine wpList_load_at rfl 40 _ rfl _ _ rfl mW.out ?_) | (go_at_call 25;((with_reducible refine (cW1).mono ?_);rintro e w2 ⟨rfl,hb2⟩;have HB2:=hid hb2)) | (go_at_call 26;((with_reducible refine (cD _ (NR.out.below HB2.out)).mono ?_);rintro e w3 ⟨rfl,hy3,ho3⟩;have Y3:=hid hy3;have O3:=hid ho3)))
    have R3 : Hid (FrmR x s w (pos + 1) w3):=FrmR.drop (Nat.lt_of_lt_of_le NL.out HB2.out.size) (NB.out.trans (HB2.out.mono NB.out.size)) (NM.out.below HB2.out) ((HB2.out.block _ NL.out).trans NI.out) Y3.out O3.out DS.out.symm
    have I3:=R3.out.it
    go_roundw
    case rel=>exact ⟨pos + 1,by omega,R3.out,A2.out⟩
    case measure=>simp only [World.iterPos,I3,I1.out];omega
  ·have hnx : ∀ ty,(Instr.next (.pointer (some ⟨w.heap.size + 1 + 1,0,none⟩)) true ty).run Tryz.prog wr = .ok (.tuple #[.bool false]) wr:=fun ty=>Lib.run_next_end_at wr _ s pos ty I1.out hlt
   obtain rfl : pos = s.size:=by omega
   have ht : (lets s).take s.size = lets s:=List.take_of_length_le (by rw [HLS.out];exact Nat.le_refl _)
   have YB:=hid R1.out.rx
   rw [ht] at A1 YB
   have x0:=R1.out.mx.cell 0 _ rfl
   have yW:=hid YB.out.ldM
   have cE:=cS.out (lets s) wr HL.out R1.out.bel
   have HP2 : Hid (P = (!s.toList.isEmpty && eqB (mgT (dropMs x (lets s)) (dropLs L (lets s))) (mgT (zeroG x.k) noL))):=by unfold Hid;rw [HP.out,A1.out];rfl
   have BB:=hid R1.out.bel
   clear ht A1 HP cW cS HL HLS YB hlt I1 R1
   generalize eqB (mgT (dropMs x (lets s)) (dropLs L (lets s))) (mgT (zeroG x.k) noL) = Z at *
   generalize dropMs x (lets s) = y at *
   by_cases he : s.toList = []
   ·have q : (s.toList != []) = false:=by rw [he];rfl
    have q' : s.toList.isEmpty = true:=by rw [he];rfl
    rw [q'] at HP2
    have Q : Hid (P = false):=HP2.out
    clear he cE HP2
    go_wp2
    go_ret
    exact ⟨by rw [Q.out];rfl,BB.out⟩
   ·have q : (s.toList != []) = true:=by simpa using he
    have q' : s.toList.isEmpty = false:=by simpa using he
    rw [q'] at HP2
    have Q : Hid (P = Z):=HP2.out
    clear he HP2
    go_wp2_with (first | (refine wpList_load_at rfl 40 _ rfl _ _ rfl yW.out ?_) | (go_at_call 27;((with_reducible refine (cE).mono ?_);rintro e w2 ⟨rfl,hb2⟩;have B2 : Hid (Below w.heap.size w w2):=BB.out.trans (hb2.mono BB.out.size))))
    go_ret
    exact ⟨by rw [Q.out];rfl,B2.out⟩
theorem Mg_ext {a b : Mg} (h1 : a.k = b.k) (h2 : a.ba = b.ba) (h3 : a.sl = b.sl) (h4 : a.has = b.has) (h5 : a.vo = b.vo) (h6 : a.cm = b.cm) (h7 : a.tx = b.tx) (h8 : a.id = b.id) (h9 : a.g = b.g) (h10 : a.st = b.st) (h11 : a.y = b.y) (h12 : a.nu = b.nu) (h13 : a.key = b.key) (h14 : a.ver = b.ver) (h15 : a.val = b.val) (h16 : a.err = b.err) (h17 : a.data = b.data) : a = b:=by
 cases a;cases b;simp only at h1 h2 h3 h4 h5 h6 h7 h8 h9 h10 h11 h12 h13 h14 h15 h16 h17
 subst h1 h2 h3 h4 h5 h6 h7 h8 h9 h10 h11 h12 h13 h14 h15 h16 h17;rfl
theorem dm_b (x : MgM) : dropM x 98 = {x with br:=0,bn:=0}:=rfl
theorem dl_b (L : MgL) : dropL L 98 = L:=rfl
theorem dm_s (x : MgM) : dropM x 115 = {x with sl:=0}:=rfl
theorem dl_s (L : MgL) : dropL L 115 = L:=rfl
theorem dm_h (x : MgM) : dropM x 104 = {x with has:=false,vr:=0,vn:=0,cm:=zeroM}:=rfl
theorem dl_h (L : MgL) : dropL L 104 = {L with rs:=[],ws:=[]}:=rfl
theorem dm_c (x : MgM) : dropM x 99 = {x with cm:=zeroM}:=rfl
theorem dl_c (L : MgL) : dropL L 99 = {L with rs:=[],ws:=[]}:=rfl
theorem dm_t (x : MgM) : dropM x 116 = {x with s:=0,q:=0,a:=none,n:=0,c:=0,b:=none,m:=0,d:=0}:=rfl
theorem dl_t (L : MgL) : dropL L 116 = {L with rt:=[],wt:=[]}:=rfl
theorem dm_i (x : MgM) : dropM x 105 = {x with i:=0,j:=0}:=rfl
theorem dl_i (L : MgL) : dropL L 105 = L:=rfl
theorem dm_g (x : MgM) : dropM x 103 = {x with g:=0}:=rfl
theorem dl_g (L : MgL) : dropL L 103 = L:=rfl
theorem dm_p (x : MgM) : dropM x 112 = {x with st:=0}:=rfl
theorem dl_p (L : MgL) : dropL L 112 = L:=rfl
theorem dm_y (x : MgM) : dropM x 121 = {x with y:=false}:=rfl
theorem dl_y (L : MgL) : dropL L 121 = L:=rfl
theorem dm_n (x : MgM) : dropM x 110 = {x with nu:=0}:=rfl
theorem dl_n (L : MgL) : dropL L 110 = L:=rfl
theorem dm_k (x : MgM) : dropM x 107 = {x with key:=⟨#[]⟩}:=rfl
theorem dl_k (L : MgL) : dropL L 107 = L:=rfl
theorem dm_v (x : MgM) : dropM x 118 = {x with ver:=0}:=rfl
theorem dl_v (L : MgL) : dropL L 118 = L:=rfl
theorem dm_x (x : MgM) : dropM x 120 = {x with vk:=0,vb:=0,vt:=⟨#[]⟩}:=rfl
theorem dl_x (L : MgL) : dropL L 120 = L:=rfl
theorem dm_e (x : MgM) : dropM x 101 = {x with er:=0}:=rfl
theorem dl_e (L : MgL) : dropL L 101 = L:=rfl
theorem dm_d (x : MgM) : dropM x 100 = {x with da:=none,dn:=0,dc:=0}:=rfl
theorem dl_d (L : MgL) : dropL L 100 = {L with dl:=[]}:=rfl
section
variable {w : World} {x : MgM} {L : MgL}
theorem formP_1 (h : MgAt w x L) (hk : x.k = 1) : formP x L = formMg (mgT x L):=by
 have hl : L.dl.length = x.dn:=h.da.len
 have e1 : lets (letters x.k) = [98]:=by rw [hk];rfl
 have e2 : (letters x.k).toList.isEmpty = false:=by rw [hk,ByteArray.toList_eq];rfl
 have e3 : dropMs x [98] = {x with br:=0,bn:=0}:=by simp only [dropMs,List.foldl_cons,List.foldl_nil,dm_b]
 have e4 : dropLs L [98] = L:=by simp only [dropLs,List.foldl_cons,List.foldl_nil,dl_b]
 rw [Bool.eq_iff_iff,formMg_iff]
 unfold formP
 rw [e1,e2,hk,e3,e4]
 simp only [List.all_cons,List.all_nil,Bool.and_true,Bool.and_eq_true,Bool.not_false,true_and,eqB_iff]
 constructor
 ·intro hh
  obtain ⟨q0,e⟩:=hh
  have z_sl : (mgT x L).sl = 0:=congrArg Mg.sl e
  have z_has : (mgT x L).has = false:=congrArg Mg.has e
  have z_vo : (mgT x L).vo = (0,0):=congrArg Mg.vo e
  have z_cm : (mgT x L).cm = zeroC:=congrArg Mg.cm e
  have z_tx : (mgT x L).tx = zeroT:=congrArg Mg.tx e
  have z_id : (mgT x L).id = (0,0):=congrArg Mg.id e
  have z_g : (mgT x L).g = 0:=congrArg Mg.g e
  have z_st : (mgT x L).st = 0:=congrArg Mg.st e
  have z_y : (mgT x L).y = false:=congrArg Mg.y e
  have z_nu : (mgT x L).nu = 0:=congrArg Mg.nu e
  have z_key : (mgT x L).key = []:=congrArg Mg.key e
  have z_ver : (mgT x L).ver = 0:=congrArg Mg.ver e
  have z_val : (mgT x L).val = ⟨0,0,[]⟩:=congrArg Mg.val e
  have z_err : (mgT x L).err = 0:=congrArg Mg.err e
  have z_data : (mgT x L).data = []:=congrArg Mg.data e
  exact ⟨⟨by show 1≤x.k;omega,by show x.k≤15;omega⟩,(fun _=>q0),(fun hu=>absurd (hu.symm.trans (show uBal (mgT x L).k = true by rw [show (mgT x L).k = 1 from hk];rfl)) (by decide)),⟨by rw [z_sl];decide,by rw [z_sl];decide,fun _=>z_sl⟩,(fun _=>z_has),(fun hh=>absurd (z_has.symm.trans hh) (by decide)),(fun _=>z_vo),(fun hh=>by rw [(show uCmd (mgT x L).k = false by rw [show (mgT x L).k = 1 from hk];rfl),Bool.or_false] at hh;exact absurd (z_has.symm.trans hh) (by decide)),(fun _=>z_cm),(fun hu=>absurd (hu.symm.trans (show uTxn (mgT x L).k = false by rw [show (mgT x L).k = 1 from hk];rfl)) (by decide)),(fun _=>z_tx),(fun hu=>absurd (hu.symm.trans (show uId (mgT x L).k = false by rw [show (mgT x L).k = 1 from hk];rfl)) (by decide)),(fun _=>z_id),⟨by rw [z_g];decide,by rw [z_g];decide,fun _=>z_g⟩,(fun _=>z_st),(fun _=>z_y),⟨by rw [z_nu];decide,by rw [z_nu];decide,fun _=>z_nu⟩,(fun hu=>absurd (hu.symm.trans (show uKey (mgT x L).k = false by rw [show (mgT x L).k = 1 from hk];rfl)) (by decide)),(fun _=>z_key),⟨fun _=>⟨z_ver,z_val,z_err⟩,by rw [z_val];rfl,by rw [z_err];decide,by rw [z_err];decide⟩,⟨by rw [z_data];decide,fun _=>z_data⟩⟩
 ·intro F
  exact ⟨F.ba (show uBal (mgT x L).k = true by rw [show (mgT x L).k = 1 from hk];rfl),Mg_ext hk rfl (F.sl.2.2 (show uSlot (mgT x L).k = false by rw [show (mgT x L).k = 1 from hk];rfl)) (F.has0 (show uHas (mgT x L).k = false by rw [show (mgT x L).k = 1 from hk];rfl)) (F.vo0 (F.has0 (show uHas (mgT x L).k = false by rw [show (mgT x L).k = 1 from hk];rfl))) (F.cm0 (by rw [(show uCmd (mgT x L).k = false by rw [show (mgT x L).k = 1 from hk];rfl),Bool.or_false];exact F.has0 (show uHas (mgT x L).k = false by rw [show (mgT x L).k = 1 from hk];rfl))) (F.tx0 (show uTxn (mgT x L).k = false by rw [show (mgT x L).k = 1 from hk];rfl)) (F.id0 (show uId (mgT x L).k = false by rw [show (mgT x L).k = 1 from hk];rfl)) (F.g.2.2 (show uGrp (mgT x L).k = false by rw [show (mgT x L).k = 1 from hk];rfl)) (F.st0 (show uStp (mgT x L).k = false by rw [show (mgT x L).k = 1 from hk];rfl)) (F.y0 (show uYes (mgT x L).k = false by rw [show (mgT x L).k = 1 from hk];rfl)) (F.nu.2.2 (show uNum (mgT x L).k = false by rw [show (mgT x L).k = 1 from hk];rfl)) (F.key0 (show uKey (mgT x L).k = false by rw [show (mgT x L).k = 1 from hk];rfl)) (F.val.1 (show uVal (mgT x L).k = false by rw [show (mgT x L).k = 1 from hk];rfl)).1 (F.val.1 (show uVal (mgT x L).k = false by rw [show (mgT x L).k = 1 from hk];rfl)).2.1 (F.val.1 (show uVal (mgT x L).k = false by rw [show (mgT x L).k = 1 from hk];rfl)).2.2 (F.data.2 (show uDat (mgT x L).k = false by rw [show (mgT x L).k = 1 from hk];rfl))⟩
theorem formP_2 (h : MgAt w x L) (hk : x.k = 2) : formP x L = formMg (mgT x L):=by
 have hl : L.dl.length = x.dn:=h.da.len
 have e1 : lets (letters x.k) = [98,115,104]:=by rw [hk];rfl
 have e2 : (letters x.k).toList.isEmpty = false:=by rw [hk,ByteArray.toList_eq];rfl
 have e3 : dropMs x [98,115,104] = {x with br:=0,bn:=0,sl:=0,has:=false,vr:=0,vn:=0,cm:=zeroM}:=by simp only [dropMs,List.foldl_cons,List.foldl_nil,dm_b,dm_s,dm_h]
 have e4 : dropLs L [98,115,104] = {L with rs:=[],ws:=[]}:=by simp only [dropLs,List.foldl_cons,List.foldl_nil,dl_b,dl_s,dl_h]
 rw [Bool.eq_iff_iff,formMg_iff]
 unfold formP
 rw [e1,e2,hk,e3,e4]
 simp only [List.all_cons,List.all_nil,Bool.and_true,Bool.and_eq_true,Bool.not_false,true_and,eqB_iff]
 constructor
 ·intro hh
  obtain ⟨⟨q0,q1,q2⟩,e⟩:=hh
  have z_tx : (mgT x L).tx = zeroT:=congrArg Mg.tx e
  have z_id : (mgT x L).id = (0,0):=congrArg Mg.id e
  have z_g : (mgT x L).g = 0:=congrArg Mg.g e
  have z_st : (mgT x L).st = 0:=congrArg Mg.st e
  have z_y : (mgT x L).y = false:=congrArg Mg.y e
  have z_nu : (mgT x L).nu = 0:=congrArg Mg.nu e
  have z_key : (mgT x L).key = []:=congrArg Mg.key e
  have z_ver : (mgT x L).ver = 0:=congrArg Mg.ver e
  have z_val : (mgT x L).val = ⟨0,0,[]⟩:=congrArg Mg.val e
  have z_err : (mgT x L).err = 0:=congrArg Mg.err e
  have z_data : (mgT x L).data = []:=congrArg Mg.data e
  have p_s : 0≤x.sl∧x.sl≤1000000:=by simpa [wellF] using q1
  have p_h : voteB x L = true:=q2
  unfold voteB at p_h
  have p_yes : x.has = true→formB x.vn = true∧formCm (cmT x.cm L.rs L.ws) = true:=fun hh=>by rw [if_pos hh,Bool.and_eq_true] at p_h;exact p_h
  have p_no : x.has = false→eqB (((x.vr : Nat) : Int),x.vn) (0,0) = true∧zeroCM x.cm L.rs L.ws = true:=fun hh=>by rw [if_neg (by rw [hh];decide),Bool.and_eq_true] at p_h;exact p_h
  exact ⟨⟨by show 1≤x.k;omega,by show x.k≤15;omega⟩,(fun _=>q0),(fun hu=>absurd (hu.symm.trans (show uBal (mgT x L).k = true by rw [show (mgT x L).k = 2 from hk];rfl)) (by decide)),⟨p_s.1,p_s.2,fun hu=>absurd (hu.symm.trans (show uSlot (mgT x L).k = true by rw [show (mgT x L).k = 2 from hk];rfl)) (by decide)⟩,(fun hu=>absurd (hu.symm.trans (show uHas (mgT x L).k = true by rw [show (mgT x L).k = 2 from hk];rfl)) (by decide)),(fun hh=>(p_yes hh).1),(fun hh=>eqB_of (p_no hh).1),(fun hh=>(p_yes (by rw [(show uCmd (mgT x L).k = false by rw [show (mgT x L).k = 2 from hk];rfl),Bool.or_false] at hh;exact hh)).2),(fun hh=>eqB_of (p_no (by rw [(show uCmd (mgT x L).k = false by rw [show (mgT x L).k = 2 from hk];rfl),Bool.or_false] at hh;exact hh)).2),(fun hu=>absurd (hu.symm.trans (show uTxn (mgT x L).k = false by rw [show (mgT x L).k = 2 from hk];rfl)) (by decide)),(fun _=>z_tx),(fun hu=>absurd (hu.symm.trans (show uId (mgT x L).k = false by rw [show (mgT x L).k = 2 from hk];rfl)) (by decide)),(fun _=>z_id),⟨by rw [z_g];decide,by rw [z_g];decide,fun _=>z_g⟩,(fun _=>z_st),(fun _=>z_y),⟨by rw [z_nu];decide,by rw [z_nu];decide,fun _=>z_nu⟩,(fun hu=>absurd (hu.symm.trans (show uKey (mgT x L).k = false by rw [show (mgT x L).k = 2 from hk];rfl)) (by decide)),(fun _=>z_key),⟨fun _=>⟨z_ver,z_val,z_err⟩,by rw [z_val];rfl,by rw [z_err];decide,by rw [z_err];decide⟩,⟨by rw [z_data];decide,fun _=>z_data⟩⟩
 ·intro F
  exact ⟨⟨F.ba (show uBal (mgT x L).k = true by rw [show (mgT x L).k = 2 from hk];rfl),(by have:=F.sl;show (decide (0≤x.sl) && decide (x.sl≤1000000)) = true;rw [Bool.and_eq_true,decide_eq_true_eq,decide_eq_true_eq];exact ⟨this.1,this.2.1⟩),(by
    show voteB x L = true
    unfold voteB
    cases hh : x.has
    ·rw [if_neg (by decide),Bool.and_eq_true];exact ⟨eqB_yes (F.vo0 hh),eqB_yes (F.cm0 (by rw [(show uCmd (mgT x L).k = false by rw [show (mgT x L).k = 2 from hk];rfl),Bool.or_false];exact hh))⟩
    ·rw [if_pos rfl,Bool.and_eq_true];exact ⟨F.vo hh,F.cm (by rw [(show uCmd (mgT x L).k = false by rw [show (mgT x L).k = 2 from hk];rfl),Bool.or_false];exact hh)⟩)⟩,Mg_ext hk rfl rfl rfl rfl rfl (F.tx0 (show uTxn (mgT x L).k = false by rw [show (mgT x L).k = 2 from hk];rfl)) (F.id0 (show uId (mgT x L).k = false by rw [show (mgT x L).k = 2 from hk];rfl)) (F.g.2.2 (show uGrp (mgT x L).k = false by rw [show (mgT x L).k = 2 from hk];rfl)) (F.st0 (show uStp (mgT x L).k = false by rw [show (mgT x L).k = 2 from hk];rfl)) (F.y0 (show uYes (mgT x L).k = false by rw [show (mgT x L).k = 2 from hk];rfl)) (F.nu.2.2 (show uNum (mgT x L).k = false by rw [show (mgT x L).k = 2 from hk];rfl)) (F.key0 (show uKey (mgT x L).k = false by rw [show (mgT x L).k = 2 from hk];rfl)) (F.val.1 (show uVal (mgT x L).k = false by rw [show (mgT x L).k = 2 from hk];rfl)).1 (F.val.1 (show uVal (mgT x L).k = false by rw [show (mgT x L).k = 2 from hk];rfl)).2.1 (F.val.1 (show uVal (mgT x L).k = false by rw [show (mgT x L).k = 2 from hk];rfl)).2.2 (F.data.2 (show uDat (mgT x L).k = false by rw [show (mgT x L).k = 2 from hk];rfl))⟩
theorem formP_3 (h : MgAt w x L) (hk : x.k = 3) : formP x L = formMg (mgT x L):=by
 have hl : L.dl.length = x.dn:=h.da.len
 have e1 : lets (letters x.k) = [98]:=by rw [hk];rfl
 have e2 : (letters x.k).toList.isEmpty = false:=by rw [hk,ByteArray.toList_eq];rfl
 have e3 : dropMs x [98] = {x with br:=0,bn:=0}:=by simp only [dropMs,List.foldl_cons,List.foldl_nil,dm_b]
 have e4 : dropLs L [98] = L:=by simp only [dropLs,List.foldl_cons,List.foldl_nil,dl_b]
 rw [Bool.eq_iff_iff,formMg_iff]
 unfold formP
 rw [e1,e2,hk,e3,e4]
 simp only [List.all_cons,List.all_nil,Bool.and_true,Bool.and_eq_true,Bool.not_false,true_and,eqB_iff]
 constructor
 ·intro hh
  obtain ⟨q0,e⟩:=hh
  have z_sl : (mgT x L).sl = 0:=congrArg Mg.sl e
  have z_has : (mgT x L).has = false:=congrArg Mg.has e
  have z_vo : (mgT x L).vo = (0,0):=congrArg Mg.vo e
  have z_cm : (mgT x L).cm = zeroC:=congrArg Mg.cm e
  have z_tx : (mgT x L).tx = zeroT:=congrArg Mg.tx e
  have z_id : (mgT x L).id = (0,0):=congrArg Mg.id e
  have z_g : (mgT x L).g = 0:=congrArg Mg.g e
  have z_st : (mgT x L).st = 0:=congrArg Mg.st e
  have z_y : (mgT x L).y = false:=congrArg Mg.y e
  have z_nu : (mgT x L).nu = 0:=congrArg Mg.nu e
  have z_key : (mgT x L).key = []:=congrArg Mg.key e
  have z_ver : (mgT x L).ver = 0:=congrArg Mg.ver e
  have z_val : (mgT x L).val = ⟨0,0,[]⟩:=congrArg Mg.val e
  have z_err : (mgT x L).err = 0:=congrArg Mg.err e
  have z_data : (mgT x L).data = []:=congrArg Mg.data e
  exact ⟨⟨by show 1≤x.k;omega,by show x.k≤15;omega⟩,(fun _=>q0),(fun hu=>absurd (hu.symm.trans (show uBal (mgT x L).k = true by rw [show (mgT x L).k = 3 from hk];rfl)) (by decide)),⟨by rw [z_sl];decide,by rw [z_sl];decide,fun _=>z_sl⟩,(fun _=>z_has),(fun hh=>absurd (z_has.symm.trans hh) (by decide)),(fun _=>z_vo),(fun hh=>by rw [(show uCmd (mgT x L).k = false by rw [show (mgT x L).k = 3 from hk];rfl),Bool.or_false] at hh;exact absurd (z_has.symm.trans hh) (by decide)),(fun _=>z_cm),(fun hu=>absurd (hu.symm.trans (show uTxn (mgT x L).k = false by rw [show (mgT x L).k = 3 from hk];rfl)) (by decide)),(fun _=>z_tx),(fun hu=>absurd (hu.symm.trans (show uId (mgT x L).k = false by rw [show (mgT x L).k = 3 from hk];rfl)) (by decide)),(fun _=>z_id),⟨by rw [z_g];decide,by rw [z_g];decide,fun _=>z_g⟩,(fun _=>z_st),(fun _=>z_y),⟨by rw [z_nu];decide,by rw [z_nu];decide,fun _=>z_nu⟩,(fun hu=>absurd (hu.symm.trans (show uKey (mgT x L).k = false by rw [show (mgT x L).k = 3 from hk];rfl)) (by decide)),(fun _=>z_key),⟨fun _=>⟨z_ver,z_val,z_err⟩,by rw [z_val];rfl,by rw [z_err];decide,by rw [z_err];decide⟩,⟨by rw [z_data];decide,fun _=>z_data⟩⟩
 ·intro F
  exact ⟨F.ba (show uBal (mgT x L).k = true by rw [show (mgT x L).k = 3 from hk];rfl),Mg_ext hk rfl (F.sl.2.2 (show uSlot (mgT x L).k = false by rw [show (mgT x L).k = 3 from hk];rfl)) (F.has0 (show uHas (mgT x L).k = false by rw [show (mgT x L).k = 3 from hk];rfl)) (F.vo0 (F.has0 (show uHas (mgT x L).k = false by rw [show (mgT x L).k = 3 from hk];rfl))) (F.cm0 (by rw [(show uCmd (mgT x L).k = false by rw [show (mgT x L).k = 3 from hk];rfl),Bool.or_false];exact F.has0 (show uHas (mgT x L).k = false by rw [show (mgT x L).k = 3 from hk];rfl))) (F.tx0 (show uTxn (mgT x L).k = false by rw [show (mgT x L).k = 3 from hk];rfl)) (F.id0 (show uId (mgT x L).k = false by rw [show (mgT x L).k = 3 from hk];rfl)) (F.g.2.2 (show uGrp (mgT x L).k = false by rw [show (mgT x L).k = 3 from hk];rfl)) (F.st0 (show uStp (mgT x L).k = false by rw [show (mgT x L).k = 3 from hk];rfl)) (F.y0 (show uYes (mgT x L).k = false by rw [show (mgT x L).k = 3 from hk];rfl)) (F.nu.2.2 (show uNum (mgT x L).k = false by rw [show (mgT x L).k = 3 from hk];rfl)) (F.key0 (show uKey (mgT x L).k = false by rw [show (mgT x L).k = 3 from hk];rfl)) (F.val.1 (show uVal (mgT x L).k = false by rw [show (mgT x L).k = 3 from hk];rfl)).1 (F.val.1 (show uVal (mgT x L).k = false by rw [show (mgT x L).k = 3 from hk];rfl)).2.1 (F.val.1 (show uVal (mgT x L).k = false by rw [show (mgT x L).k = 3 from hk];rfl)).2.2 (F.data.2 (show uDat (mgT x L).k = false by rw [show (mgT x L).k = 3 from hk];rfl))⟩
theorem formP_4 (h : MgAt w x L) (hk : x.k = 4) : formP x L = formMg (mgT x L):=by
 have hl : L.dl.length = x.dn:=h.da.len
 have e1 : lets (letters x.k) = [98,115,99]:=by rw [hk];rfl
 have e2 : (letters x.k).toList.isEmpty = false:=by rw [hk,ByteArray.toList_eq];rfl
 have e3 : dropMs x [98,115,99] = {x with br:=0,bn:=0,sl:=0,cm:=zeroM}:=by simp only [dropMs,List.foldl_cons,List.foldl_nil,dm_b,dm_s,dm_c]
 have e4 : dropLs L [98,115,99] = {L with rs:=[],ws:=[]}:=by simp only [dropLs,List.foldl_cons,List.foldl_nil,dl_b,dl_s,dl_c]
 rw [Bool.eq_iff_iff,formMg_iff]
 unfold formP
 rw [e1,e2,hk,e3,e4]
 simp only [List.all_cons,List.all_nil,Bool.and_true,Bool.and_eq_true,Bool.not_false,true_and,eqB_iff]
 constructor
 ·intro hh
  obtain ⟨⟨q0,q1,q2⟩,e⟩:=hh
  have z_has : (mgT x L).has = false:=congrArg Mg.has e
  have z_vo : (mgT x L).vo = (0,0):=congrArg Mg.vo e
  have z_tx : (mgT x L).tx = zeroT:=congrArg Mg.tx e
  have z_id : (mgT x L).id = (0,0):=congrArg Mg.id e
  have z_g : (mgT x L).g = 0:=congrArg Mg.g e
  have z_st : (mgT x L).st = 0:=congrArg Mg.st e
  have z_y : (mgT x L).y = false:=congrArg Mg.y e
  have z_nu : (mgT x L).nu = 0:=congrArg Mg.nu e
  have z_key : (mgT x L).key = []:=congrArg Mg.key e
  have z_ver : (mgT x L).ver = 0:=congrArg Mg.ver e
  have z_val : (mgT x L).val = ⟨0,0,[]⟩:=congrArg Mg.val e
  have z_err : (mgT x L).err = 0:=congrArg Mg.err e
  have z_data : (mgT x L).data = []:=congrArg Mg.data e
  have p_s : 0≤x.sl∧x.sl≤1000000:=by simpa [wellF] using q1
  exact ⟨⟨by show 1≤x.k;omega,by show x.k≤15;omega⟩,(fun _=>q0),(fun hu=>absurd (hu.symm.trans (show uBal (mgT x L).k = true by rw [show (mgT x L).k = 4 from hk];rfl)) (by decide)),⟨p_s.1,p_s.2,fun hu=>absurd (hu.symm.trans (show uSlot (mgT x L).k = true by rw [show (mgT x L).k = 4 from hk];rfl)) (by decide)⟩,(fun _=>z_has),(fun hh=>absurd (z_has.symm.trans hh) (by decide)),(fun _=>z_vo),(fun _=>q2),(fun hh=>by rw [(show uCmd (mgT x L).k = true by rw [show (mgT x L).k = 4 from hk];rfl),Bool.or_true] at hh;cases hh),(fun hu=>absurd (hu.symm.trans (show uTxn (mgT x L).k = false by rw [show (mgT x L).k = 4 from hk];rfl)) (by decide)),(fun _=>z_tx),(fun hu=>absurd (hu.symm.trans (show uId (mgT x L).k = false by rw [show (mgT x L).k = 4 from hk];rfl)) (by decide)),(fun _=>z_id),⟨by rw [z_g];decide,by rw [z_g];decide,fun _=>z_g⟩,(fun _=>z_st),(fun _=>z_y),⟨by rw [z_nu];decide,by rw [z_nu];decide,fun _=>z_nu⟩,(fun hu=>absurd (hu.symm.trans (show uKey (mgT x L).k = false by rw [show (mgT x L).k = 4 from hk];rfl)) (by decide)),(fun _=>z_key),⟨fun _=>⟨z_ver,z_val,z_err⟩,by rw [z_val];rfl,by rw [z_err];decide,by rw [z_err];decide⟩,⟨by rw [z_data];decide,fun _=>z_data⟩⟩
 ·intro F
  exact ⟨⟨F.ba (show uBal (mgT x L).k = true by rw [show (mgT x L).k = 4 from hk];rfl),(by have:=F.sl;show (decide (0≤x.sl) && decide (x.sl≤1000000)) = true;rw [Bool.and_eq_true,decide_eq_true_eq,decide_eq_true_eq];exact ⟨this.1,this.2.1⟩),F.cm (by rw [(show uCmd (mgT x L).k = true by rw [show (mgT x L).k = 4 from hk];rfl),Bool.or_true])⟩,Mg_ext hk rfl rfl (F.has0 (show uHas (mgT x L).k = false by rw [show (mgT x L).k = 4 from hk];rfl)) (F.vo0 (F.has0 (show uHas (mgT x L).k = false by rw [show (mgT x L).k = 4 from hk];rfl))) rfl (F.tx0 (show uTxn (mgT x L).k = false by rw [show (mgT x L).k = 4 from hk];rfl)) (F.id0 (show uId (mgT x L).k = false by rw [show (mgT x L).k = 4 from hk];rfl)) (F.g.2.2 (show uGrp (mgT x L).k = false by rw [show (mgT x L).k = 4 from hk];rfl)) (F.st0 (show uStp (mgT x L).k = false by rw [show (mgT x L).k = 4 from hk];rfl)) (F.y0 (show uYes (mgT x L).k = false by rw [show (mgT x L).k = 4 from hk];rfl)) (F.nu.2.2 (show uNum (mgT x L).k = false by rw [show (mgT x L).k = 4 from hk];rfl)) (F.key0 (show uKey (mgT x L).k = false by rw [show (mgT x L).k = 4 from hk];rfl)) (F.val.1 (show uVal (mgT x L).k = false by rw [show (mgT x L).k = 4 from hk];rfl)).1 (F.val.1 (show uVal (mgT x L).k = false by rw [show (mgT x L).k = 4 from hk];rfl)).2.1 (F.val.1 (show uVal (mgT x L).k = false by rw [show (mgT x L).k = 4 from hk];rfl)).2.2 (F.data.2 (show uDat (mgT x L).k = false by rw [show (mgT x L).k = 4 from hk];rfl))⟩
theorem formP_5 (h : MgAt w x L) (hk : x.k = 5) : formP x L = formMg (mgT x L):=by
 have hl : L.dl.length = x.dn:=h.da.len
 have e1 : lets (letters x.k) = [98,115]:=by rw [hk];rfl
 have e2 : (letters x.k).toList.isEmpty = false:=by rw [hk,ByteArray.toList_eq];rfl
 have e3 : dropMs x [98,115] = {x with br:=0,bn:=0,sl:=0}:=by simp only [dropMs,List.foldl_cons,List.foldl_nil,dm_b,dm_s]
 have e4 : dropLs L [98,115] = L:=by simp only [dropLs,List.foldl_cons,List.foldl_nil,dl_b,dl_s]
 rw [Bool.eq_iff_iff,formMg_iff]
 unfold formP
 rw [e1,e2,hk,e3,e4]
 simp only [List.all_cons,List.all_nil,Bool.and_true,Bool.and_eq_true,Bool.not_false,true_and,eqB_iff]
 constructor
 ·intro hh
  obtain ⟨⟨q0,q1⟩,e⟩:=hh
  have z_has : (mgT x L).has = false:=congrArg Mg.has e
  have z_vo : (mgT x L).vo = (0,0):=congrArg Mg.vo e
  have z_cm : (mgT x L).cm = zeroC:=congrArg Mg.cm e
  have z_tx : (mgT x L).tx = zeroT:=congrArg Mg.tx e
  have z_id : (mgT x L).id = (0,0):=congrArg Mg.id e
  have z_g : (mgT x L).g = 0:=congrArg Mg.g e
  have z_st : (mgT x L).st = 0:=congrArg Mg.st e
  have z_y : (mgT x L).y = false:=congrArg Mg.y e
  have z_nu : (mgT x L).nu = 0:=congrArg Mg.nu e
  have z_key : (mgT x L).key = []:=congrArg Mg.key e
  have z_ver : (mgT x L).ver = 0:=congrArg Mg.ver e
  have z_val : (mgT x L).val = ⟨0,0,[]⟩:=congrArg Mg.val e
  have z_err : (mgT x L).err = 0:=congrArg Mg.err e
  have z_data : (mgT x L).data = []:=congrArg Mg.data e
  have p_s : 0≤x.sl∧x.sl≤1000000:=by simpa [wellF] using q1
  exact ⟨⟨by show 1≤x.k;omega,by show x.k≤15;omega⟩,(fun _=>q0),(fun hu=>absurd (hu.symm.trans (show uBal (mgT x L).k = true by rw [show (mgT x L).k = 5 from hk];rfl)) (by decide)),⟨p_s.1,p_s.2,fun hu=>absurd (hu.symm.trans (show uSlot (mgT x L).k = true by rw [show (mgT x L).k = 5 from hk];rfl)) (by decide)⟩,(fun _=>z_has),(fun hh=>absurd (z_has.symm.trans hh) (by decide)),(fun _=>z_vo),(fun hh=>by rw [(show uCmd (mgT x L).k = false by rw [show (mgT x L).k = 5 from hk];rfl),Bool.or_false] at hh;exact absurd (z_has.symm.trans hh) (by decide)),(fun _=>z_cm),(fun hu=>absurd (hu.symm.trans (show uTxn (mgT x L).k = false by rw [show (mgT x L).k = 5 from hk];rfl)) (by decide)),(fun _=>z_tx),(fun hu=>absurd (hu.symm.trans (show uId (mgT x L).k = false by rw [show (mgT x L).k = 5 from hk];rfl)) (by decide)),(fun _=>z_id),⟨by rw [z_g];decide,by rw [z_g];decide,fun _=>z_g⟩,(fun _=>z_st),(fun _=>z_y),⟨by rw [z_nu];decide,by rw [z_nu];decide,fun _=>z_nu⟩,(fun hu=>absurd (hu.symm.trans (show uKey (mgT x L).k = false by rw [show (mgT x L).k = 5 from hk];rfl)) (by decide)),(fun _=>z_key),⟨fun _=>⟨z_ver,z_val,z_err⟩,by rw [z_val];rfl,by rw [z_err];decide,by rw [z_err];decide⟩,⟨by rw [z_data];decide,fun _=>z_data⟩⟩
 ·intro F
  exact ⟨⟨F.ba (show uBal (mgT x L).k = true by rw [show (mgT x L).k = 5 from hk];rfl),(by have:=F.sl;show (decide (0≤x.sl) && decide (x.sl≤1000000)) = true;rw [Bool.and_eq_true,decide_eq_true_eq,decide_eq_true_eq];exact ⟨this.1,this.2.1⟩)⟩,Mg_ext hk rfl rfl (F.has0 (show uHas (mgT x L).k = false by rw [show (mgT x L).k = 5 from hk];rfl)) (F.vo0 (F.has0 (show uHas (mgT x L).k = false by rw [show (mgT x L).k = 5 from hk];rfl))) (F.cm0 (by rw [(show uCmd (mgT x L).k = false by rw [show (mgT x L).k = 5 from hk];rfl),Bool.or_false];exact F.has0 (show uHas (mgT x L).k = false by rw [show (mgT x L).k = 5 from hk];rfl))) (F.tx0 (show uTxn (mgT x L).k = false by rw [show (mgT x L).k = 5 from hk];rfl)) (F.id0 (show uId (mgT x L).k = false by rw [show (mgT x L).k = 5 from hk];rfl)) (F.g.2.2 (show uGrp (mgT x L).k = false by rw [show (mgT x L).k = 5 from hk];rfl)) (F.st0 (show uStp (mgT x L).k = false by rw [show (mgT x L).k = 5 from hk];rfl)) (F.y0 (show uYes (mgT x L).k = false by rw [show (mgT x L).k = 5 from hk];rfl)) (F.nu.2.2 (show uNum (mgT x L).k = false by rw [show (mgT x L).k = 5 from hk];rfl)) (F.key0 (show uKey (mgT x L).k = false by rw [show (mgT x L).k = 5 from hk];rfl)) (F.val.1 (show uVal (mgT x L).k = false by rw [show (mgT x L).k = 5 from hk];rfl)).1 (F.val.1 (show uVal (mgT x L).k = false by rw [show (mgT x L).k = 5 from hk];rfl)).2.1 (F.val.1 (show uVal (mgT x L).k = false by rw [show (mgT x L).k = 5 from hk];rfl)).2.2 (F.data.2 (show uDat (mgT x L).k = false by rw [show (mgT x L).k = 5 from hk];rfl))⟩
theorem formP_6 (h : MgAt w x L) (hk : x.k = 6) : formP x L = formMg (mgT x L):=by
 have hl : L.dl.length = x.dn:=h.da.len
 have e1 : lets (letters x.k) = [115,99]:=by rw [hk];rfl
 have e2 : (letters x.k).toList.isEmpty = false:=by rw [hk,ByteArray.toList_eq];rfl
 have e3 : dropMs x [115,99] = {x with sl:=0,cm:=zeroM}:=by simp only [dropMs,List.foldl_cons,List.foldl_nil,dm_s,dm_c]
 have e4 : dropLs L [115,99] = {L with rs:=[],ws:=[]}:=by simp only [dropLs,List.foldl_cons,List.foldl_nil,dl_s,dl_c]
 rw [Bool.eq_iff_iff,formMg_iff]
 unfold formP
 rw [e1,e2,hk,e3,e4]
 simp only [List.all_cons,List.all_nil,Bool.and_true,Bool.and_eq_true,Bool.not_false,true_and,eqB_iff]
 constructor
 ·intro hh
  obtain ⟨⟨q0,q1⟩,e⟩:=hh
  have z_ba : (mgT x L).ba = (0,0):=congrArg Mg.ba e
  have z_has : (mgT x L).has = false:=congrArg Mg.has e
  have z_vo : (mgT x L).vo = (0,0):=congrArg Mg.vo e
  have z_tx : (mgT x L).tx = zeroT:=congrArg Mg.tx e
  have z_id : (mgT x L).id = (0,0):=congrArg Mg.id e
  have z_g : (mgT x L).g = 0:=congrArg Mg.g e
  have z_st : (mgT x L).st = 0:=congrArg Mg.st e
  have z_y : (mgT x L).y = false:=congrArg Mg.y e
  have z_nu : (mgT x L).nu = 0:=congrArg Mg.nu e
  have z_key : (mgT x L).key = []:=congrArg Mg.key e
  have z_ver : (mgT x L).ver = 0:=congrArg Mg.ver e
  have z_val : (mgT x L).val = ⟨0,0,[]⟩:=congrArg Mg.val e
  have z_err : (mgT x L).err = 0:=congrArg Mg.err e
  have z_data : (mgT x L).data = []:=congrArg Mg.data e
  have p_s : 0≤x.sl∧x.sl≤1000000:=by simpa [wellF] using q0
  exact ⟨⟨by show 1≤x.k;omega,by show x.k≤15;omega⟩,(fun hu=>absurd (hu.symm.trans (show uBal (mgT x L).k = false by rw [show (mgT x L).k = 6 from hk];rfl)) (by decide)),(fun _=>z_ba),⟨p_s.1,p_s.2,fun hu=>absurd (hu.symm.trans (show uSlot (mgT x L).k = true by rw [show (mgT x L).k = 6 from hk];rfl)) (by decide)⟩,(fun _=>z_has),(fun hh=>absurd (z_has.symm.trans hh) (by decide)),(fun _=>z_vo),(fun _=>q1),(fun hh=>by rw [(show uCmd (mgT x L).k = true by rw [show (mgT x L).k = 6 from hk];rfl),Bool.or_true] at hh;cases hh),(fun hu=>absurd (hu.symm.trans (show uTxn (mgT x L).k = false by rw [show (mgT x L).k = 6 from hk];rfl)) (by decide)),(fun _=>z_tx),(fun hu=>absurd (hu.symm.trans (show uId (mgT x L).k = false by rw [show (mgT x L).k = 6 from hk];rfl)) (by decide)),(fun _=>z_id),⟨by rw [z_g];decide,by rw [z_g];decide,fun _=>z_g⟩,(fun _=>z_st),(fun _=>z_y),⟨by rw [z_nu];decide,by rw [z_nu];decide,fun _=>z_nu⟩,(fun hu=>absurd (hu.symm.trans (show uKey (mgT x L).k = false by rw [show (mgT x L).k = 6 from hk];rfl)) (by decide)),(fun _=>z_key),⟨fun _=>⟨z_ver,z_val,z_err⟩,by rw [z_val];rfl,by rw [z_err];decide,by rw [z_err];decide⟩,⟨by rw [z_data];decide,fun _=>z_data⟩⟩
 ·intro F
  exact ⟨⟨(by have:=F.sl;show (decide (0≤x.sl) && decide (x.sl≤1000000)) = true;rw [Bool.and_eq_true,decide_eq_true_eq,decide_eq_true_eq];exact ⟨this.1,this.2.1⟩),F.cm (by rw [(show uCmd (mgT x L).k = true by rw [show (mgT x L).k = 6 from hk];rfl),Bool.or_true])⟩,Mg_ext hk (F.ba0 (show uBal (mgT x L).k = false by rw [show (mgT x L).k = 6 from hk];rfl)) rfl (F.has0 (show uHas (mgT x L).k = false by rw [show (mgT x L).k = 6 from hk];rfl)) (F.vo0 (F.has0 (show uHas (mgT x L).k = false by rw [show (mgT x L).k = 6 from hk];rfl))) rfl (F.tx0 (show uTxn (mgT x L).k = false by rw [show (mgT x L).k = 6 from hk];rfl)) (F.id0 (show uId (mgT x L).k = false by rw [show (mgT x L).k = 6 from hk];rfl)) (F.g.2.2 (show uGrp (mgT x L).k = false by rw [show (mgT x L).k = 6 from hk];rfl)) (F.st0 (show uStp (mgT x L).k = false by rw [show (mgT x L).k = 6 from hk];rfl)) (F.y0 (show uYes (mgT x L).k = false by rw [show (mgT x L).k = 6 from hk];rfl)) (F.nu.2.2 (show uNum (mgT x L).k = false by rw [show (mgT x L).k = 6 from hk];rfl)) (F.key0 (show uKey (mgT x L).k = false by rw [show (mgT x L).k = 6 from hk];rfl)) (F.val.1 (show uVal (mgT x L).k = false by rw [show (mgT x L).k = 6 from hk];rfl)).1 (F.val.1 (show uVal (mgT x L).k = false by rw [show (mgT x L).k = 6 from hk];rfl)).2.1 (F.val.1 (show uVal (mgT x L).k = false by rw [show (mgT x L).k = 6 from hk];rfl)).2.2 (F.data.2 (show uDat (mgT x L).k = false by rw [show (mgT x L).k = 6 from hk];rfl))⟩
theorem formP_7 (h : MgAt w x L) (hk : x.k = 7) : formP x L = formMg (mgT x L):=by
 have hl : L.dl.length = x.dn:=h.da.len
 have e1 : lets (letters x.k) = [115]:=by rw [hk];rfl
 have e2 : (letters x.k).toList.isEmpty = false:=by rw [hk,ByteArray.toList_eq];rfl
 have e3 : dropMs x [115] = {x with sl:=0}:=by simp only [dropMs,List.foldl_cons,List.foldl_nil,dm_s]
 have e4 : dropLs L [115] = L:=by simp only [dropLs,List.foldl_cons,List.foldl_nil,dl_s]
 rw [Bool.eq_iff_iff,formMg_iff]
 unfold formP
 rw [e1,e2,hk,e3,e4]
 simp only [List.all_cons,List.all_nil,Bool.and_true,Bool.and_eq_true,Bool.not_false,true_and,eqB_iff]
 constructor
 ·intro hh
  obtain ⟨q0,e⟩:=hh
  have z_ba : (mgT x L).ba = (0,0):=congrArg Mg.ba e
  have z_has : (mgT x L).has = false:=congrArg Mg.has e
  have z_vo : (mgT x L).vo = (0,0):=congrArg Mg.vo e
  have z_cm : (mgT x L).cm = zeroC:=congrArg Mg.cm e
  have z_tx : (mgT x L).tx = zeroT:=congrArg Mg.tx e
  have z_id : (mgT x L).id = (0,0):=congrArg Mg.id e
  have z_g : (mgT x L).g = 0:=congrArg Mg.g e
  have z_st : (mgT x L).st = 0:=congrArg Mg.st e
  have z_y : (mgT x L).y = false:=congrArg Mg.y e
  have z_nu : (mgT x L).nu = 0:=congrArg Mg.nu e
  have z_key : (mgT x L).key = []:=congrArg Mg.key e
  have z_ver : (mgT x L).ver = 0:=congrArg Mg.ver e
  have z_val : (mgT x L).val = ⟨0,0,[]⟩:=congrArg Mg.val e
  have z_err : (mgT x L).err = 0:=congrArg Mg.err e
  have z_data : (mgT x L).data = []:=congrArg Mg.data e
  have p_s : 0≤x.sl∧x.sl≤1000000:=by simpa [wellF] using q0
  exact ⟨⟨by show 1≤x.k;omega,by show x.k≤15;omega⟩,(fun hu=>absurd (hu.symm.trans (show uBal (mgT x L).k = false by rw [show (mgT x L).k = 7 from hk];rfl)) (by decide)),(fun _=>z_ba),⟨p_s.1,p_s.2,fun hu=>absurd (hu.symm.trans (show uSlot (mgT x L).k = true by rw [show (mgT x L).k = 7 from hk];rfl)) (by decide)⟩,(fun _=>z_has),(fun hh=>absurd (z_has.symm.trans hh) (by decide)),(fun _=>z_vo),(fun hh=>by rw [(show uCmd (mgT x L).k = false by rw [show (mgT x L).k = 7 from hk];rfl),Bool.or_false] at hh;exact absurd (z_has.symm.trans hh) (by decide)),(fun _=>z_cm),(fun hu=>absurd (hu.symm.trans (show uTxn (mgT x L).k = false by rw [show (mgT x L).k = 7 from hk];rfl)) (by decide)),(fun _=>z_tx),(fun hu=>absurd (hu.symm.trans (show uId (mgT x L).k = false by rw [show (mgT x L).k = 7 from hk];rfl)) (by decide)),(fun _=>z_id),⟨by rw [z_g];decide,by rw [z_g];decide,fun _=>z_g⟩,(fun _=>z_st),(fun _=>z_y),⟨by rw [z_nu];decide,by rw [z_nu];decide,fun _=>z_nu⟩,(fun hu=>absurd (hu.symm.trans (show uKey (mgT x L).k = false by rw [show (mgT x L).k = 7 from hk];rfl)) (by decide)),(fun _=>z_key),⟨fun _=>⟨z_ver,z_val,z_err⟩,by rw [z_val];rfl,by rw [z_err];decide,by rw [z_err];decide⟩,⟨by rw [z_data];decide,fun _=>z_data⟩⟩
 ·intro F
  exact ⟨(by have:=F.sl;show (decide (0≤x.sl) && decide (x.sl≤1000000)) = true;rw [Bool.and_eq_true,decide_eq_true_eq,decide_eq_true_eq];exact ⟨this.1,this.2.1⟩),Mg_ext hk (F.ba0 (show uBal (mgT x L).k = false by rw [show (mgT x L).k = 7 from hk];rfl)) rfl (F.has0 (show uHas (mgT x L).k = false by rw [show (mgT x L).k = 7 from hk];rfl)) (F.vo0 (F.has0 (show uHas (mgT x L).k = false by rw [show (mgT x L).k = 7 from hk];rfl))) (F.cm0 (by rw [(show uCmd (mgT x L).k = false by rw [show (mgT x L).k = 7 from hk];rfl),Bool.or_false];exact F.has0 (show uHas (mgT x L).k = false by rw [show (mgT x L).k = 7 from hk];rfl))) (F.tx0 (show uTxn (mgT x L).k = false by rw [show (mgT x L).k = 7 from hk];rfl)) (F.id0 (show uId (mgT x L).k = false by rw [show (mgT x L).k = 7 from hk];rfl)) (F.g.2.2 (show uGrp (mgT x L).k = false by rw [show (mgT x L).k = 7 from hk];rfl)) (F.st0 (show uStp (mgT x L).k = false by rw [show (mgT x L).k = 7 from hk];rfl)) (F.y0 (show uYes (mgT x L).k = false by rw [show (mgT x L).k = 7 from hk];rfl)) (F.nu.2.2 (show uNum (mgT x L).k = false by rw [show (mgT x L).k = 7 from hk];rfl)) (F.key0 (show uKey (mgT x L).k = false by rw [show (mgT x L).k = 7 from hk];rfl)) (F.val.1 (show uVal (mgT x L).k = false by rw [show (mgT x L).k = 7 from hk];rfl)).1 (F.val.1 (show uVal (mgT x L).k = false by rw [show (mgT x L).k = 7 from hk];rfl)).2.1 (F.val.1 (show uVal (mgT x L).k = false by rw [show (mgT x L).k = 7 from hk];rfl)).2.2 (F.data.2 (show uDat (mgT x L).k = false by rw [show (mgT x L).k = 7 from hk];rfl))⟩
theorem formP_8 (h : MgAt w x L) (hk : x.k = 8) : formP x L = formMg (mgT x L):=by
 have hl : L.dl.length = x.dn:=h.da.len
 have e1 : lets (letters x.k) = [116]:=by rw [hk];rfl
 have e2 : (letters x.k).toList.isEmpty = false:=by rw [hk,ByteArray.toList_eq];rfl
 have e3 : dropMs x [116] = {x with s:=0,q:=0,a:=none,n:=0,c:=0,b:=none,m:=0,d:=0}:=by simp only [dropMs,List.foldl_cons,List.foldl_nil,dm_t]
 have e4 : dropLs L [116] = {L with rt:=[],wt:=[]}:=by simp only [dropLs,List.foldl_cons,List.foldl_nil,dl_t]
 rw [Bool.eq_iff_iff,formMg_iff]
 unfold formP
 rw [e1,e2,hk,e3,e4]
 simp only [List.all_cons,List.all_nil,Bool.and_true,Bool.and_eq_true,Bool.not_false,true_and,eqB_iff]
 constructor
 ·intro hh
  obtain ⟨q0,e⟩:=hh
  have z_ba : (mgT x L).ba = (0,0):=congrArg Mg.ba e
  have z_sl : (mgT x L).sl = 0:=congrArg Mg.sl e
  have z_has : (mgT x L).has = false:=congrArg Mg.has e
  have z_vo : (mgT x L).vo = (0,0):=congrArg Mg.vo e
  have z_cm : (mgT x L).cm = zeroC:=congrArg Mg.cm e
  have z_id : (mgT x L).id = (0,0):=congrArg Mg.id e
  have z_g : (mgT x L).g = 0:=congrArg Mg.g e
  have z_st : (mgT x L).st = 0:=congrArg Mg.st e
  have z_y : (mgT x L).y = false:=congrArg Mg.y e
  have z_nu : (mgT x L).nu = 0:=congrArg Mg.nu e
  have z_key : (mgT x L).key = []:=congrArg Mg.key e
  have z_ver : (mgT x L).ver = 0:=congrArg Mg.ver e
  have z_val : (mgT x L).val = ⟨0,0,[]⟩:=congrArg Mg.val e
  have z_err : (mgT x L).err = 0:=congrArg Mg.err e
  have z_data : (mgT x L).data = []:=congrArg Mg.data e
  exact ⟨⟨by show 1≤x.k;omega,by show x.k≤15;omega⟩,(fun hu=>absurd (hu.symm.trans (show uBal (mgT x L).k = false by rw [show (mgT x L).k = 8 from hk];rfl)) (by decide)),(fun _=>z_ba),⟨by rw [z_sl];decide,by rw [z_sl];decide,fun _=>z_sl⟩,(fun _=>z_has),(fun hh=>absurd (z_has.symm.trans hh) (by decide)),(fun _=>z_vo),(fun hh=>by rw [(show uCmd (mgT x L).k = false by rw [show (mgT x L).k = 8 from hk];rfl),Bool.or_false] at hh;exact absurd (z_has.symm.trans hh) (by decide)),(fun _=>z_cm),(fun _=>q0),(fun hu=>absurd (hu.symm.trans (show uTxn (mgT x L).k = true by rw [show (mgT x L).k = 8 from hk];rfl)) (by decide)),(fun hu=>absurd (hu.symm.trans (show uId (mgT x L).k = false by rw [show (mgT x L).k = 8 from hk];rfl)) (by decide)),(fun _=>z_id),⟨by rw [z_g];decide,by rw [z_g];decide,fun _=>z_g⟩,(fun _=>z_st),(fun _=>z_y),⟨by rw [z_nu];decide,by rw [z_nu];decide,fun _=>z_nu⟩,(fun hu=>absurd (hu.symm.trans (show uKey (mgT x L).k = false by rw [show (mgT x L).k = 8 from hk];rfl)) (by decide)),(fun _=>z_key),⟨fun _=>⟨z_ver,z_val,z_err⟩,by rw [z_val];rfl,by rw [z_err];decide,by rw [z_err];decide⟩,⟨by rw [z_data];decide,fun _=>z_data⟩⟩
 ·intro F
  exact ⟨F.tx (show uTxn (mgT x L).k = true by rw [show (mgT x L).k = 8 from hk];rfl),Mg_ext hk (F.ba0 (show uBal (mgT x L).k = false by rw [show (mgT x L).k = 8 from hk];rfl)) (F.sl.2.2 (show uSlot (mgT x L).k = false by rw [show (mgT x L).k = 8 from hk];rfl)) (F.has0 (show uHas (mgT x L).k = false by rw [show (mgT x L).k = 8 from hk];rfl)) (F.vo0 (F.has0 (show uHas (mgT x L).k = false by rw [show (mgT x L).k = 8 from hk];rfl))) (F.cm0 (by rw [(show uCmd (mgT x L).k = false by rw [show (mgT x L).k = 8 from hk];rfl),Bool.or_false];exact F.has0 (show uHas (mgT x L).k = false by rw [show (mgT x L).k = 8 from hk];rfl))) rfl (F.id0 (show uId (mgT x L).k = false by rw [show (mgT x L).k = 8 from hk];rfl)) (F.g.2.2 (show uGrp (mgT x L).k = false by rw [show (mgT x L).k = 8 from hk];rfl)) (F.st0 (show uStp (mgT x L).k = false by rw [show (mgT x L).k = 8 from hk];rfl)) (F.y0 (show uYes (mgT x L).k = false by rw [show (mgT x L).k = 8 from hk];rfl)) (F.nu.2.2 (show uNum (mgT x L).k = false by rw [show (mgT x L).k = 8 from hk];rfl)) (F.key0 (show uKey (mgT x L).k = false by rw [show (mgT x L).k = 8 from hk];rfl)) (F.val.1 (show uVal (mgT x L).k = false by rw [show (mgT x L).k = 8 from hk];rfl)).1 (F.val.1 (show uVal (mgT x L).k = false by rw [show (mgT x L).k = 8 from hk];rfl)).2.1 (F.val.1 (show uVal (mgT x L).k = false by rw [show (mgT x L).k = 8 from hk];rfl)).2.2 (F.data.2 (show uDat (mgT x L).k = false by rw [show (mgT x L).k = 8 from hk];rfl))⟩
theorem formP_9 (h : MgAt w x L) (hk : x.k = 9) : formP x L = formMg (mgT x L):=by
 have hl : L.dl.length = x.dn:=h.da.len
 have e1 : lets (letters x.k) = [105,103,112]:=by rw [hk];rfl
 have e2 : (letters x.k).toList.isEmpty = false:=by rw [hk,ByteArray.toList_eq];rfl
 have e3 : dropMs x [105,103,112] = {x with i:=0,j:=0,g:=0,st:=0}:=by simp only [dropMs,List.foldl_cons,List.foldl_nil,dm_i,dm_g,dm_p]
 have e4 : dropLs L [105,103,112] = L:=by simp only [dropLs,List.foldl_cons,List.foldl_nil,dl_i,dl_g,dl_p]
 rw [Bool.eq_iff_iff,formMg_iff]
 unfold formP
 rw [e1,e2,hk,e3,e4]
 simp only [List.all_cons,List.all_nil,Bool.and_true,Bool.and_eq_true,Bool.not_false,true_and,eqB_iff]
 constructor
 ·intro hh
  obtain ⟨⟨q0,q1,q2⟩,e⟩:=hh
  have z_ba : (mgT x L).ba = (0,0):=congrArg Mg.ba e
  have z_sl : (mgT x L).sl = 0:=congrArg Mg.sl e
  have z_has : (mgT x L).has = false:=congrArg Mg.has e
  have z_vo : (mgT x L).vo = (0,0):=congrArg Mg.vo e
  have z_cm : (mgT x L).cm = zeroC:=congrArg Mg.cm e
  have z_tx : (mgT x L).tx = zeroT:=congrArg Mg.tx e
  have z_y : (mgT x L).y = false:=congrArg Mg.y e
  have z_nu : (mgT x L).nu = 0:=congrArg Mg.nu e
  have z_key : (mgT x L).key = []:=congrArg Mg.key e
  have z_ver : (mgT x L).ver = 0:=congrArg Mg.ver e
  have z_val : (mgT x L).val = ⟨0,0,[]⟩:=congrArg Mg.val e
  have z_err : (mgT x L).err = 0:=congrArg Mg.err e
  have z_data : (mgT x L).data = []:=congrArg Mg.data e
  have p_g : 0≤x.g∧x.g < 4:=by simpa [wellF] using q1
  exact ⟨⟨by show 1≤x.k;omega,by show x.k≤15;omega⟩,(fun hu=>absurd (hu.symm.trans (show uBal (mgT x L).k = false by rw [show (mgT x L).k = 9 from hk];rfl)) (by decide)),(fun _=>z_ba),⟨by rw [z_sl];decide,by rw [z_sl];decide,fun _=>z_sl⟩,(fun _=>z_has),(fun hh=>absurd (z_has.symm.trans hh) (by decide)),(fun _=>z_vo),(fun hh=>by rw [(show uCmd (mgT x L).k = false by rw [show (mgT x L).k = 9 from hk];rfl),Bool.or_false] at hh;exact absurd (z_has.symm.trans hh) (by decide)),(fun _=>z_cm),(fun hu=>absurd (hu.symm.trans (show uTxn (mgT x L).k = false by rw [show (mgT x L).k = 9 from hk];rfl)) (by decide)),(fun _=>z_tx),(fun _=>q0),(fun hu=>absurd (hu.symm.trans (show uId (mgT x L).k = true by rw [show (mgT x L).k = 9 from hk];rfl)) (by decide)),⟨p_g.1,p_g.2,fun hu=>absurd (hu.symm.trans (show uGrp (mgT x L).k = true by rw [show (mgT x L).k = 9 from hk];rfl)) (by decide)⟩,(fun hu=>absurd (hu.symm.trans (show uStp (mgT x L).k = true by rw [show (mgT x L).k = 9 from hk];rfl)) (by decide)),(fun _=>z_y),⟨by rw [z_nu];decide,by rw [z_nu];decide,fun _=>z_nu⟩,(fun hu=>absurd (hu.symm.trans (show uKey (mgT x L).k = false by rw [show (mgT x L).k = 9 from hk];rfl)) (by decide)),(fun _=>z_key),⟨fun _=>⟨z_ver,z_val,z_err⟩,by rw [z_val];rfl,by rw [z_err];decide,by rw [z_err];decide⟩,⟨by rw [z_data];decide,fun _=>z_data⟩⟩
 ·intro F
  exact ⟨⟨F.id (show uId (mgT x L).k = true by rw [show (mgT x L).k = 9 from hk];rfl),(by have:=F.g;show (decide (0≤x.g) && decide (x.g < 4)) = true;rw [Bool.and_eq_true,decide_eq_true_eq,decide_eq_true_eq];exact ⟨this.1,this.2.1⟩),rfl⟩,Mg_ext hk (F.ba0 (show uBal (mgT x L).k = false by rw [show (mgT x L).k = 9 from hk];rfl)) (F.sl.2.2 (show uSlot (mgT x L).k = false by rw [show (mgT x L).k = 9 from hk];rfl)) (F.has0 (show uHas (mgT x L).k = false by rw [show (mgT x L).k = 9 from hk];rfl)) (F.vo0 (F.has0 (show uHas (mgT x L).k = false by rw [show (mgT x L).k = 9 from hk];rfl))) (F.cm0 (by rw [(show uCmd (mgT x L).k = false by rw [show (mgT x L).k = 9 from hk];rfl),Bool.or_false];exact F.has0 (show uHas (mgT x L).k = false by rw [show (mgT x L).k = 9 from hk];rfl))) (F.tx0 (show uTxn (mgT x L).k = false by rw [show (mgT x L).k = 9 from hk];rfl)) rfl rfl rfl (F.y0 (show uYes (mgT x L).k = false by rw [show (mgT x L).k = 9 from hk];rfl)) (F.nu.2.2 (show uNum (mgT x L).k = false by rw [show (mgT x L).k = 9 from hk];rfl)) (F.key0 (show uKey (mgT x L).k = false by rw [show (mgT x L).k = 9 from hk];rfl)) (F.val.1 (show uVal (mgT x L).k = false by rw [show (mgT x L).k = 9 from hk];rfl)).1 (F.val.1 (show uVal (mgT x L).k = false by rw [show (mgT x L).k = 9 from hk];rfl)).2.1 (F.val.1 (show uVal (mgT x L).k = false by rw [show (mgT x L).k = 9 from hk];rfl)).2.2 (F.data.2 (show uDat (mgT x L).k = false by rw [show (mgT x L).k = 9 from hk];rfl))⟩
theorem formP_10 (h : MgAt w x L) (hk : x.k = 10) : formP x L = formMg (mgT x L):=by
 have hl : L.dl.length = x.dn:=h.da.len
 have e1 : lets (letters x.k) = [105,103,121]:=by rw [hk];rfl
 have e2 : (letters x.k).toList.isEmpty = false:=by rw [hk,ByteArray.toList_eq];rfl
 have e3 : dropMs x [105,103,121] = {x with i:=0,j:=0,g:=0,y:=false}:=by simp only [dropMs,List.foldl_cons,List.foldl_nil,dm_i,dm_g,dm_y]
 have e4 : dropLs L [105,103,121] = L:=by simp only [dropLs,List.foldl_cons,List.foldl_nil,dl_i,dl_g,dl_y]
 rw [Bool.eq_iff_iff,formMg_iff]
 unfold formP
 rw [e1,e2,hk,e3,e4]
 simp only [List.all_cons,List.all_nil,Bool.and_true,Bool.and_eq_true,Bool.not_false,true_and,eqB_iff]
 constructor
 ·intro hh
  obtain ⟨⟨q0,q1,q2⟩,e⟩:=hh
  have z_ba : (mgT x L).ba = (0,0):=congrArg Mg.ba e
  have z_sl : (mgT x L).sl = 0:=congrArg Mg.sl e
  have z_has : (mgT x L).has = false:=congrArg Mg.has e
  have z_vo : (mgT x L).vo = (0,0):=congrArg Mg.vo e
  have z_cm : (mgT x L).cm = zeroC:=congrArg Mg.cm e
  have z_tx : (mgT x L).tx = zeroT:=congrArg Mg.tx e
  have z_st : (mgT x L).st = 0:=congrArg Mg.st e
  have z_nu : (mgT x L).nu = 0:=congrArg Mg.nu e
  have z_key : (mgT x L).key = []:=congrArg Mg.key e
  have z_ver : (mgT x L).ver = 0:=congrArg Mg.ver e
  have z_val : (mgT x L).val = ⟨0,0,[]⟩:=congrArg Mg.val e
  have z_err : (mgT x L).err = 0:=congrArg Mg.err e
  have z_data : (mgT x L).data = []:=congrArg Mg.data e
  have p_g : 0≤x.g∧x.g < 4:=by simpa [wellF] using q1
  exact ⟨⟨by show 1≤x.k;omega,by show x.k≤15;omega⟩,(fun hu=>absurd (hu.symm.trans (show uBal (mgT x L).k = false by rw [show (mgT x L).k = 10 from hk];rfl)) (by decide)),(fun _=>z_ba),⟨by rw [z_sl];decide,by rw [z_sl];decide,fun _=>z_sl⟩,(fun _=>z_has),(fun hh=>absurd (z_has.symm.trans hh) (by decide)),(fun _=>z_vo),(fun hh=>by rw [(show uCmd (mgT x L).k = false by rw [show (mgT x L).k = 10 from hk];rfl),Bool.or_false] at hh;exact absurd (z_has.symm.trans hh) (by decide)),(fun _=>z_cm),(fun hu=>absurd (hu.symm.trans (show uTxn (mgT x L).k = false by rw [show (mgT x L).k = 10 from hk];rfl)) (by decide)),(fun _=>z_tx),(fun _=>q0),(fun hu=>absurd (hu.symm.trans (show uId (mgT x L).k = true by rw [show (mgT x L).k = 10 from hk];rfl)) (by decide)),⟨p_g.1,p_g.2,fun hu=>absurd (hu.symm.trans (show uGrp (mgT x L).k = true by rw [show (mgT x L).k = 10 from hk];rfl)) (by decide)⟩,(fun _=>z_st),(fun hu=>absurd (hu.symm.trans (show uYes (mgT x L).k = true by rw [show (mgT x L).k = 10 from hk];rfl)) (by decide)),⟨by rw [z_nu];decide,by rw [z_nu];decide,fun _=>z_nu⟩,(fun hu=>absurd (hu.symm.trans (show uKey (mgT x L).k = false by rw [show (mgT x L).k = 10 from hk];rfl)) (by decide)),(fun _=>z_key),⟨fun _=>⟨z_ver,z_val,z_err⟩,by rw [z_val];rfl,by rw [z_err];decide,by rw [z_err];decide⟩,⟨by rw [z_data];decide,fun _=>z_data⟩⟩
 ·intro F
  exact ⟨⟨F.id (show uId (mgT x L).k = true by rw [show (mgT x L).k = 10 from hk];rfl),(by have:=F.g;show (decide (0≤x.g) && decide (x.g < 4)) = true;rw [Bool.and_eq_true,decide_eq_true_eq,decide_eq_true_eq];exact ⟨this.1,this.2.1⟩),rfl⟩,Mg_ext hk (F.ba0 (show uBal (mgT x L).k = false by rw [show (mgT x L).k = 10 from hk];rfl)) (F.sl.2.2 (show uSlot (mgT x L).k = false by rw [show (mgT x L).k = 10 from hk];rfl)) (F.has0 (show uHas (mgT x L).k = false by rw [show (mgT x L).k = 10 from hk];rfl)) (F.vo0 (F.has0 (show uHas (mgT x L).k = false by rw [show (mgT x L).k = 10 from hk];rfl))) (F.cm0 (by rw [(show uCmd (mgT x L).k = false by rw [show (mgT x L).k = 10 from hk];rfl),Bool.or_false];exact F.has0 (show uHas (mgT x L).k = false by rw [show (mgT x L).k = 10 from hk];rfl))) (F.tx0 (show uTxn (mgT x L).k = false by rw [show (mgT x L).k = 10 from hk];rfl)) rfl rfl (F.st0 (show uStp (mgT x L).k = false by rw [show (mgT x L).k = 10 from hk];rfl)) rfl (F.nu.2.2 (show uNum (mgT x L).k = false by rw [show (mgT x L).k = 10 from hk];rfl)) (F.key0 (show uKey (mgT x L).k = false by rw [show (mgT x L).k = 10 from hk];rfl)) (F.val.1 (show uVal (mgT x L).k = false by rw [show (mgT x L).k = 10 from hk];rfl)).1 (F.val.1 (show uVal (mgT x L).k = false by rw [show (mgT x L).k = 10 from hk];rfl)).2.1 (F.val.1 (show uVal (mgT x L).k = false by rw [show (mgT x L).k = 10 from hk];rfl)).2.2 (F.data.2 (show uDat (mgT x L).k = false by rw [show (mgT x L).k = 10 from hk];rfl))⟩
theorem formP_11 (h : MgAt w x L) (hk : x.k = 11) : formP x L = formMg (mgT x L):=by
 have hl : L.dl.length = x.dn:=h.da.len
 have e1 : lets (letters x.k) = [105,103,112,121]:=by rw [hk];rfl
 have e2 : (letters x.k).toList.isEmpty = false:=by rw [hk,ByteArray.toList_eq];rfl
 have e3 : dropMs x [105,103,112,121] = {x with i:=0,j:=0,g:=0,st:=0,y:=false}:=by simp only [dropMs,List.foldl_cons,List.foldl_nil,dm_i,dm_g,dm_p,dm_y]
 have e4 : dropLs L [105,103,112,121] = L:=by simp only [dropLs,List.foldl_cons,List.foldl_nil,dl_i,dl_g,dl_p,dl_y]
 rw [Bool.eq_iff_iff,formMg_iff]
 unfold formP
 rw [e1,e2,hk,e3,e4]
 simp only [List.all_cons,List.all_nil,Bool.and_true,Bool.and_eq_true,Bool.not_false,true_and,eqB_iff]
 constructor
 ·intro hh
  obtain ⟨⟨q0,q1,q2,q3⟩,e⟩:=hh
  have z_ba : (mgT x L).ba = (0,0):=congrArg Mg.ba e
  have z_sl : (mgT x L).sl = 0:=congrArg Mg.sl e
  have z_has : (mgT x L).has = false:=congrArg Mg.has e
  have z_vo : (mgT x L).vo = (0,0):=congrArg Mg.vo e
  have z_cm : (mgT x L).cm = zeroC:=congrArg Mg.cm e
  have z_tx : (mgT x L).tx = zeroT:=congrArg Mg.tx e
  have z_nu : (mgT x L).nu = 0:=congrArg Mg.nu e
  have z_key : (mgT x L).key = []:=congrArg Mg.key e
  have z_ver : (mgT x L).ver = 0:=congrArg Mg.ver e
  have z_val : (mgT x L).val = ⟨0,0,[]⟩:=congrArg Mg.val e
  have z_err : (mgT x L).err = 0:=congrArg Mg.err e
  have z_data : (mgT x L).data = []:=congrArg Mg.data e
  have p_g : 0≤x.g∧x.g < 4:=by simpa [wellF] using q1
  exact ⟨⟨by show 1≤x.k;omega,by show x.k≤15;omega⟩,(fun hu=>absurd (hu.symm.trans (show uBal (mgT x L).k = false by rw [show (mgT x L).k = 11 from hk];rfl)) (by decide)),(fun _=>z_ba),⟨by rw [z_sl];decide,by rw [z_sl];decide,fun _=>z_sl⟩,(fun _=>z_has),(fun hh=>absurd (z_has.symm.trans hh) (by decide)),(fun _=>z_vo),(fun hh=>by rw [(show uCmd (mgT x L).k = false by rw [show (mgT x L).k = 11 from hk];rfl),Bool.or_false] at hh;exact absurd (z_has.symm.trans hh) (by decide)),(fun _=>z_cm),(fun hu=>absurd (hu.symm.trans (show uTxn (mgT x L).k = false by rw [show (mgT x L).k = 11 from hk];rfl)) (by decide)),(fun _=>z_tx),(fun _=>q0),(fun hu=>absurd (hu.symm.trans (show uId (mgT x L).k = true by rw [show (mgT x L).k = 11 from hk];rfl)) (by decide)),⟨p_g.1,p_g.2,fun hu=>absurd (hu.symm.trans (show uGrp (mgT x L).k = true by rw [show (mgT x L).k = 11 from hk];rfl)) (by decide)⟩,(fun hu=>absurd (hu.symm.trans (show uStp (mgT x L).k = true by rw [show (mgT x L).k = 11 from hk];rfl)) (by decide)),(fun hu=>absurd (hu.symm.trans (show uYes (mgT x L).k = true by rw [show (mgT x L).k = 11 from hk];rfl)) (by decide)),⟨by rw [z_nu];decide,by rw [z_nu];decide,fun _=>z_nu⟩,(fun hu=>absurd (hu.symm.trans (show uKey (mgT x L).k = false by rw [show (mgT x L).k = 11 from hk];rfl)) (by decide)),(fun _=>z_key),⟨fun _=>⟨z_ver,z_val,z_err⟩,by rw [z_val];rfl,by rw [z_err];decide,by rw [z_err];decide⟩,⟨by rw [z_data];decide,fun _=>z_data⟩⟩
 ·intro F
  exact ⟨⟨F.id (show uId (mgT x L).k = true by rw [show (mgT x L).k = 11 from hk];rfl),(by have:=F.g;show (decide (0≤x.g) && decide (x.g < 4)) = true;rw [Bool.and_eq_true,decide_eq_true_eq,decide_eq_true_eq];exact ⟨this.1,this.2.1⟩),rfl,rfl⟩,Mg_ext hk (F.ba0 (show uBal (mgT x L).k = false by rw [show (mgT x L).k = 11 from hk];rfl)) (F.sl.2.2 (show uSlot (mgT x L).k = false by rw [show (mgT x L).k = 11 from hk];rfl)) (F.has0 (show uHas (mgT x L).k = false by rw [show (mgT x L).k = 11 from hk];rfl)) (F.vo0 (F.has0 (show uHas (mgT x L).k = false by rw [show (mgT x L).k = 11 from hk];rfl))) (F.cm0 (by rw [(show uCmd (mgT x L).k = false by rw [show (mgT x L).k = 11 from hk];rfl),Bool.or_false];exact F.has0 (show uHas (mgT x L).k = false by rw [show (mgT x L).k = 11 from hk];rfl))) (F.tx0 (show uTxn (mgT x L).k = false by rw [show (mgT x L).k = 11 from hk];rfl)) rfl rfl rfl rfl (F.nu.2.2 (show uNum (mgT x L).k = false by rw [show (mgT x L).k = 11 from hk];rfl)) (F.key0 (show uKey (mgT x L).k = false by rw [show (mgT x L).k = 11 from hk];rfl)) (F.val.1 (show uVal (mgT x L).k = false by rw [show (mgT x L).k = 11 from hk];rfl)).1 (F.val.1 (show uVal (mgT x L).k = false by rw [show (mgT x L).k = 11 from hk];rfl)).2.1 (F.val.1 (show uVal (mgT x L).k = false by rw [show (mgT x L).k = 11 from hk];rfl)).2.2 (F.data.2 (show uDat (mgT x L).k = false by rw [show (mgT x L).k = 11 from hk];rfl))⟩
theorem formP_12 (h : MgAt w x L) (hk : x.k = 12) : formP x L = formMg (mgT x L):=by
 have hl : L.dl.length = x.dn:=h.da.len
 have e1 : lets (letters x.k) = [112,110,107]:=by rw [hk];rfl
 have e2 : (letters x.k).toList.isEmpty = false:=by rw [hk,ByteArray.toList_eq];rfl
 have e3 : dropMs x [112,110,107] = {x with st:=0,nu:=0,key:=⟨#[]⟩}:=by simp only [dropMs,List.foldl_cons,List.foldl_nil,dm_p,dm_n,dm_k]
 have e4 : dropLs L [112,110,107] = L:=by simp only [dropLs,List.foldl_cons,List.foldl_nil,dl_p,dl_n,dl_k]
 rw [Bool.eq_iff_iff,formMg_iff]
 unfold formP
 rw [e1,e2,hk,e3,e4]
 simp only [List.all_cons,List.all_nil,Bool.and_true,Bool.and_eq_true,Bool.not_false,true_and,eqB_iff]
 constructor
 ·intro hh
  obtain ⟨⟨q0,q1,q2⟩,e⟩:=hh
  have z_ba : (mgT x L).ba = (0,0):=congrArg Mg.ba e
  have z_sl : (mgT x L).sl = 0:=congrArg Mg.sl e
  have z_has : (mgT x L).has = false:=congrArg Mg.has e
  have z_vo : (mgT x L).vo = (0,0):=congrArg Mg.vo e
  have z_cm : (mgT x L).cm = zeroC:=congrArg Mg.cm e
  have z_tx : (mgT x L).tx = zeroT:=congrArg Mg.tx e
  have z_id : (mgT x L).id = (0,0):=congrArg Mg.id e
  have z_g : (mgT x L).g = 0:=congrArg Mg.g e
  have z_y : (mgT x L).y = false:=congrArg Mg.y e
  have z_ver : (mgT x L).ver = 0:=congrArg Mg.ver e
  have z_val : (mgT x L).val = ⟨0,0,[]⟩:=congrArg Mg.val e
  have z_err : (mgT x L).err = 0:=congrArg Mg.err e
  have z_data : (mgT x L).data = []:=congrArg Mg.data e
  have p_n : 0≤x.nu∧x.nu≤2147483647:=by simpa [wellF] using q1
  have p_k : keyB x.key.data.toList = true∨(x.k = 13∧x.key.data.toList = []):=by
   have q : (keyB x.key.data.toList || (decide (x.k = 13) && eqB x.key ⟨#[]⟩)) = true:=q2
   rw [Bool.or_eq_true,Bool.and_eq_true,key_nil,decide_eq_true_eq] at q;exact q
  exact ⟨⟨by show 1≤x.k;omega,by show x.k≤15;omega⟩,(fun hu=>absurd (hu.symm.trans (show uBal (mgT x L).k = false by rw [show (mgT x L).k = 12 from hk];rfl)) (by decide)),(fun _=>z_ba),⟨by rw [z_sl];decide,by rw [z_sl];decide,fun _=>z_sl⟩,(fun _=>z_has),(fun hh=>absurd (z_has.symm.trans hh) (by decide)),(fun _=>z_vo),(fun hh=>by rw [(show uCmd (mgT x L).k = false by rw [show (mgT x L).k = 12 from hk];rfl),Bool.or_false] at hh;exact absurd (z_has.symm.trans hh) (by decide)),(fun _=>z_cm),(fun hu=>absurd (hu.symm.trans (show uTxn (mgT x L).k = false by rw [show (mgT x L).k = 12 from hk];rfl)) (by decide)),(fun _=>z_tx),(fun hu=>absurd (hu.symm.trans (show uId (mgT x L).k = false by rw [show (mgT x L).k = 12 from hk];rfl)) (by decide)),(fun _=>z_id),⟨by rw [z_g];decide,by rw [z_g];decide,fun _=>z_g⟩,(fun hu=>absurd (hu.symm.trans (show uStp (mgT x L).k = true by rw [show (mgT x L).k = 12 from hk];rfl)) (by decide)),(fun _=>z_y),⟨p_n.1,p_n.2,fun hu=>absurd (hu.symm.trans (show uNum (mgT x L).k = true by rw [show (mgT x L).k = 12 from hk];rfl)) (by decide)⟩,(fun _=>p_k),(fun hu=>absurd (hu.symm.trans (show uKey (mgT x L).k = true by rw [show (mgT x L).k = 12 from hk];rfl)) (by decide)),⟨fun _=>⟨z_ver,z_val,z_err⟩,by rw [z_val];rfl,by rw [z_err];decide,by rw [z_err];decide⟩,⟨by rw [z_data];decide,fun _=>z_data⟩⟩
 ·intro F
  exact ⟨⟨rfl,(by have:=F.nu;show (decide (0≤x.nu) && decide (x.nu≤2147483647)) = true;rw [Bool.and_eq_true,decide_eq_true_eq,decide_eq_true_eq];exact ⟨this.1,this.2.1⟩),(by have:=F.key (show uKey (mgT x L).k = true by rw [show (mgT x L).k = 12 from hk];rfl);show (keyB x.key.data.toList || (decide (x.k = 13) && eqB x.key ⟨#[]⟩)) = true;rw [Bool.or_eq_true,Bool.and_eq_true,key_nil,decide_eq_true_eq];exact this)⟩,Mg_ext hk (F.ba0 (show uBal (mgT x L).k = false by rw [show (mgT x L).k = 12 from hk];rfl)) (F.sl.2.2 (show uSlot (mgT x L).k = false by rw [show (mgT x L).k = 12 from hk];rfl)) (F.has0 (show uHas (mgT x L).k = false by rw [show (mgT x L).k = 12 from hk];rfl)) (F.vo0 (F.has0 (show uHas (mgT x L).k = false by rw [show (mgT x L).k = 12 from hk];rfl))) (F.cm0 (by rw [(show uCmd (mgT x L).k = false by rw [show (mgT x L).k = 12 from hk];rfl),Bool.or_false];exact F.has0 (show uHas (mgT x L).k = false by rw [show (mgT x L).k = 12 from hk];rfl))) (F.tx0 (show uTxn (mgT x L).k = false by rw [show (mgT x L).k = 12 from hk];rfl)) (F.id0 (show uId (mgT x L).k = false by rw [show (mgT x L).k = 12 from hk];rfl)) (F.g.2.2 (show uGrp (mgT x L).k = false by rw [show (mgT x L).k = 12 from hk];rfl)) rfl (F.y0 (show uYes (mgT x L).k = false by rw [show (mgT x L).k = 12 from hk];rfl)) rfl rfl (F.val.1 (show uVal (mgT x L).k = false by rw [show (mgT x L).k = 12 from hk];rfl)).1 (F.val.1 (show uVal (mgT x L).k = false by rw [show (mgT x L).k = 12 from hk];rfl)).2.1 (F.val.1 (show uVal (mgT x L).k = false by rw [show (mgT x L).k = 12 from hk];rfl)).2.2 (F.data.2 (show uDat (mgT x L).k = false by rw [show (mgT x L).k = 12 from hk];rfl))⟩
theorem formP_13 (h : MgAt w x L) (hk : x.k = 13) : formP x L = formMg (mgT x L):=by
 have hl : L.dl.length = x.dn:=h.da.len
 have e1 : lets (letters x.k) = [103,112,110,107,118,120,101]:=by rw [hk];rfl
 have e2 : (letters x.k).toList.isEmpty = false:=by rw [hk,ByteArray.toList_eq];rfl
 have e3 : dropMs x [103,112,110,107,118,120,101] = {x with g:=0,st:=0,nu:=0,key:=⟨#[]⟩,ver:=0,vk:=0,vb:=0,vt:=⟨#[]⟩,er:=0}:=by simp only [dropMs,List.foldl_cons,List.foldl_nil,dm_g,dm_p,dm_n,dm_k,dm_v,dm_x,dm_e]
 have e4 : dropLs L [103,112,110,107,118,120,101] = L:=by simp only [dropLs,List.foldl_cons,List.foldl_nil,dl_g,dl_p,dl_n,dl_k,dl_v,dl_x,dl_e]
 rw [Bool.eq_iff_iff,formMg_iff]
 unfold formP
 rw [e1,e2,hk,e3,e4]
 simp only [List.all_cons,List.all_nil,Bool.and_true,Bool.and_eq_true,Bool.not_false,true_and,eqB_iff]
 constructor
 ·intro hh
  obtain ⟨⟨q0,q1,q2,q3,q4,q5,q6⟩,e⟩:=hh
  have z_ba : (mgT x L).ba = (0,0):=congrArg Mg.ba e
  have z_sl : (mgT x L).sl = 0:=congrArg Mg.sl e
  have z_has : (mgT x L).has = false:=congrArg Mg.has e
  have z_vo : (mgT x L).vo = (0,0):=congrArg Mg.vo e
  have z_cm : (mgT x L).cm = zeroC:=congrArg Mg.cm e
  have z_tx : (mgT x L).tx = zeroT:=congrArg Mg.tx e
  have z_id : (mgT x L).id = (0,0):=congrArg Mg.id e
  have z_y : (mgT x L).y = false:=congrArg Mg.y e
  have z_data : (mgT x L).data = []:=congrArg Mg.data e
  have p_g : 0≤x.g∧x.g < 4:=by simpa [wellF] using q0
  have p_n : 0≤x.nu∧x.nu≤2147483647:=by simpa [wellF] using q2
  have p_k : keyB x.key.data.toList = true∨(x.k = 13∧x.key.data.toList = []):=by
   have q : (keyB x.key.data.toList || (decide (x.k = 13) && eqB x.key ⟨#[]⟩)) = true:=q3
   rw [Bool.or_eq_true,Bool.and_eq_true,key_nil,decide_eq_true_eq] at q;exact q
  have p_e : 0≤x.er∧x.er≤11:=by simpa [wellF] using q6
  exact ⟨⟨by show 1≤x.k;omega,by show x.k≤15;omega⟩,(fun hu=>absurd (hu.symm.trans (show uBal (mgT x L).k = false by rw [show (mgT x L).k = 13 from hk];rfl)) (by decide)),(fun _=>z_ba),⟨by rw [z_sl];decide,by rw [z_sl];decide,fun _=>z_sl⟩,(fun _=>z_has),(fun hh=>absurd (z_has.symm.trans hh) (by decide)),(fun _=>z_vo),(fun hh=>by rw [(show uCmd (mgT x L).k = false by rw [show (mgT x L).k = 13 from hk];rfl),Bool.or_false] at hh;exact absurd (z_has.symm.trans hh) (by decide)),(fun _=>z_cm),(fun hu=>absurd (hu.symm.trans (show uTxn (mgT x L).k = false by rw [show (mgT x L).k = 13 from hk];rfl)) (by decide)),(fun _=>z_tx),(fun hu=>absurd (hu.symm.trans (show uId (mgT x L).k = false by rw [show (mgT x L).k = 13 from hk];rfl)) (by decide)),(fun _=>z_id),⟨p_g.1,p_g.2,fun hu=>absurd (hu.symm.trans (show uGrp (mgT x L).k = true by rw [show (mgT x L).k = 13 from hk];rfl)) (by decide)⟩,(fun hu=>absurd (hu.symm.trans (show uStp (mgT x L).k = true by rw [show (mgT x L).k = 13 from hk];rfl)) (by decide)),(fun _=>z_y),⟨p_n.1,p_n.2,fun hu=>absurd (hu.symm.trans (show uNum (mgT x L).k = true by rw [show (mgT x L).k = 13 from hk];rfl)) (by decide)⟩,(fun _=>p_k),(fun hu=>absurd (hu.symm.trans (show uKey (mgT x L).k = true by rw [show (mgT x L).k = 13 from hk];rfl)) (by decide)),⟨fun hu=>absurd (hu.symm.trans (show uVal (mgT x L).k = true by rw [show (mgT x L).k = 13 from hk];rfl)) (by decide),q5,p_e.1,p_e.2⟩,⟨by rw [z_data];decide,fun _=>z_data⟩⟩
 ·intro F
  exact ⟨⟨(by have:=F.g;show (decide (0≤x.g) && decide (x.g < 4)) = true;rw [Bool.and_eq_true,decide_eq_true_eq,decide_eq_true_eq];exact ⟨this.1,this.2.1⟩),rfl,(by have:=F.nu;show (decide (0≤x.nu) && decide (x.nu≤2147483647)) = true;rw [Bool.and_eq_true,decide_eq_true_eq,decide_eq_true_eq];exact ⟨this.1,this.2.1⟩),(by have:=F.key (show uKey (mgT x L).k = true by rw [show (mgT x L).k = 13 from hk];rfl);show (keyB x.key.data.toList || (decide (x.k = 13) && eqB x.key ⟨#[]⟩)) = true;rw [Bool.or_eq_true,Bool.and_eq_true,key_nil,decide_eq_true_eq];exact this),rfl,F.val.2.1,(by have:=F.val.2.2;show (decide (0≤x.er) && decide (x.er≤11)) = true;rw [Bool.and_eq_true,decide_eq_true_eq,decide_eq_true_eq];exact this)⟩,Mg_ext hk (F.ba0 (show uBal (mgT x L).k = false by rw [show (mgT x L).k = 13 from hk];rfl)) (F.sl.2.2 (show uSlot (mgT x L).k = false by rw [show (mgT x L).k = 13 from hk];rfl)) (F.has0 (show uHas (mgT x L).k = false by rw [show (mgT x L).k = 13 from hk];rfl)) (F.vo0 (F.has0 (show uHas (mgT x L).k = false by rw [show (mgT x L).k = 13 from hk];rfl))) (F.cm0 (by rw [(show uCmd (mgT x L).k = false by rw [show (mgT x L).k = 13 from hk];rfl),Bool.or_false];exact F.has0 (show uHas (mgT x L).k = false by rw [show (mgT x L).k = 13 from hk];rfl))) (F.tx0 (show uTxn (mgT x L).k = false by rw [show (mgT x L).k = 13 from hk];rfl)) (F.id0 (show uId (mgT x L).k = false by rw [show (mgT x L).k = 13 from hk];rfl)) rfl rfl (F.y0 (show uYes (mgT x L).k = false by rw [show (mgT x L).k = 13 from hk];rfl)) rfl rfl rfl rfl rfl (F.data.2 (show uDat (mgT x L).k = false by rw [show (mgT x L).k = 13 from hk];rfl))⟩
theorem formP_14 (h : MgAt w x L) (hk : x.k = 14) : formP x L = formMg (mgT x L):=by
 have hl : L.dl.length = x.dn:=h.da.len
 have e1 : lets (letters x.k) = [110]:=by rw [hk];rfl
 have e2 : (letters x.k).toList.isEmpty = false:=by rw [hk,ByteArray.toList_eq];rfl
 have e3 : dropMs x [110] = {x with nu:=0}:=by simp only [dropMs,List.foldl_cons,List.foldl_nil,dm_n]
 have e4 : dropLs L [110] = L:=by simp only [dropLs,List.foldl_cons,List.foldl_nil,dl_n]
 rw [Bool.eq_iff_iff,formMg_iff]
 unfold formP
 rw [e1,e2,hk,e3,e4]
 simp only [List.all_cons,List.all_nil,Bool.and_true,Bool.and_eq_true,Bool.not_false,true_and,eqB_iff]
 constructor
 ·intro hh
  obtain ⟨q0,e⟩:=hh
  have z_ba : (mgT x L).ba = (0,0):=congrArg Mg.ba e
  have z_sl : (mgT x L).sl = 0:=congrArg Mg.sl e
  have z_has : (mgT x L).has = false:=congrArg Mg.has e
  have z_vo : (mgT x L).vo = (0,0):=congrArg Mg.vo e
  have z_cm : (mgT x L).cm = zeroC:=congrArg Mg.cm e
  have z_tx : (mgT x L).tx = zeroT:=congrArg Mg.tx e
  have z_id : (mgT x L).id = (0,0):=congrArg Mg.id e
  have z_g : (mgT x L).g = 0:=congrArg Mg.g e
  have z_st : (mgT x L).st = 0:=congrArg Mg.st e
  have z_y : (mgT x L).y = false:=congrArg Mg.y e
  have z_key : (mgT x L).key = []:=congrArg Mg.key e
  have z_ver : (mgT x L).ver = 0:=congrArg Mg.ver e
  have z_val : (mgT x L).val = ⟨0,0,[]⟩:=congrArg Mg.val e
  have z_err : (mgT x L).err = 0:=congrArg Mg.err e
  have z_data : (mgT x L).data = []:=congrArg Mg.data e
  have p_n : 0≤x.nu∧x.nu≤2147483647:=by simpa [wellF] using q0
  exact ⟨⟨by show 1≤x.k;omega,by show x.k≤15;omega⟩,(fun hu=>absurd (hu.symm.trans (show uBal (mgT x L).k = false by rw [show (mgT x L).k = 14 from hk];rfl)) (by decide)),(fun _=>z_ba),⟨by rw [z_sl];decide,by rw [z_sl];decide,fun _=>z_sl⟩,(fun _=>z_has),(fun hh=>absurd (z_has.symm.trans hh) (by decide)),(fun _=>z_vo),(fun hh=>by rw [(show uCmd (mgT x L).k = false by rw [show (mgT x L).k = 14 from hk];rfl),Bool.or_false] at hh;exact absurd (z_has.symm.trans hh) (by decide)),(fun _=>z_cm),(fun hu=>absurd (hu.symm.trans (show uTxn (mgT x L).k = false by rw [show (mgT x L).k = 14 from hk];rfl)) (by decide)),(fun _=>z_tx),(fun hu=>absurd (hu.symm.trans (show uId (mgT x L).k = false by rw [show (mgT x L).k = 14 from hk];rfl)) (by decide)),(fun _=>z_id),⟨by rw [z_g];decide,by rw [z_g];decide,fun _=>z_g⟩,(fun _=>z_st),(fun _=>z_y),⟨p_n.1,p_n.2,fun hu=>absurd (hu.symm.trans (show uNum (mgT x L).k = true by rw [show (mgT x L).k = 14 from hk];rfl)) (by decide)⟩,(fun hu=>absurd (hu.symm.trans (show uKey (mgT x L).k = false by rw [show (mgT x L).k = 14 from hk];rfl)) (by decide)),(fun _=>z_key),⟨fun _=>⟨z_ver,z_val,z_err⟩,by rw [z_val];rfl,by rw [z_err];decide,by rw [z_err];decide⟩,⟨by rw [z_data];decide,fun _=>z_data⟩⟩
 ·intro F
  exact ⟨(by have:=F.nu;show (decide (0≤x.nu) && decide (x.nu≤2147483647)) = true;rw [Bool.and_eq_true,decide_eq_true_eq,decide_eq_true_eq];exact ⟨this.1,this.2.1⟩),Mg_ext hk (F.ba0 (show uBal (mgT x L).k = false by rw [show (mgT x L).k = 14 from hk];rfl)) (F.sl.2.2 (show uSlot (mgT x L).k = false by rw [show (mgT x L).k = 14 from hk];rfl)) (F.has0 (show uHas (mgT x L).k = false by rw [show (mgT x L).k = 14 from hk];rfl)) (F.vo0 (F.has0 (show uHas (mgT x L).k = false by rw [show (mgT x L).k = 14 from hk];rfl))) (F.cm0 (by rw [(show uCmd (mgT x L).k = false by rw [show (mgT x L).k = 14 from hk];rfl),Bool.or_false];exact F.has0 (show uHas (mgT x L).k = false by rw [show (mgT x L).k = 14 from hk];rfl))) (F.tx0 (show uTxn (mgT x L).k = false by rw [show (mgT x L).k = 14 from hk];rfl)) (F.id0 (show uId (mgT x L).k = false by rw [show (mgT x L).k = 14 from hk];rfl)) (F.g.2.2 (show uGrp (mgT x L).k = false by rw [show (mgT x L).k = 14 from hk];rfl)) (F.st0 (show uStp (mgT x L).k = false by rw [show (mgT x L).k = 14 from hk];rfl)) (F.y0 (show uYes (mgT x L).k = false by rw [show (mgT x L).k = 14 from hk];rfl)) rfl (F.key0 (show uKey (mgT x L).k = false by rw [show (mgT x L).k = 14 from hk];rfl)) (F.val.1 (show uVal (mgT x L).k = false by rw [show (mgT x L).k = 14 from hk];rfl)).1 (F.val.1 (show uVal (mgT x L).k = false by rw [show (mgT x L).k = 14 from hk];rfl)).2.1 (F.val.1 (show uVal (mgT x L).k = false by rw [show (mgT x L).k = 14 from hk];rfl)).2.2 (F.data.2 (show uDat (mgT x L).k = false by rw [show (mgT x L).k = 14 from hk];rfl))⟩
theorem formP_15 (h : MgAt w x L) (hk : x.k = 15) : formP x L = formMg (mgT x L):=by
 have hl : L.dl.length = x.dn:=h.da.len
 have e1 : lets (letters x.k) = [115,100]:=by rw [hk];rfl
 have e2 : (letters x.k).toList.isEmpty = false:=by rw [hk,ByteArray.toList_eq];rfl
 have e3 : dropMs x [115,100] = {x with sl:=0,da:=none,dn:=0,dc:=0}:=by simp only [dropMs,List.foldl_cons,List.foldl_nil,dm_s,dm_d]
 have e4 : dropLs L [115,100] = {L with dl:=[]}:=by simp only [dropLs,List.foldl_cons,List.foldl_nil,dl_s,dl_d]
 rw [Bool.eq_iff_iff,formMg_iff]
 unfold formP
 rw [e1,e2,hk,e3,e4]
 simp only [List.all_cons,List.all_nil,Bool.and_true,Bool.and_eq_true,Bool.not_false,true_and,eqB_iff]
 constructor
 ·intro hh
  obtain ⟨⟨q0,q1⟩,e⟩:=hh
  have z_ba : (mgT x L).ba = (0,0):=congrArg Mg.ba e
  have z_has : (mgT x L).has = false:=congrArg Mg.has e
  have z_vo : (mgT x L).vo = (0,0):=congrArg Mg.vo e
  have z_cm : (mgT x L).cm = zeroC:=congrArg Mg.cm e
  have z_tx : (mgT x L).tx = zeroT:=congrArg Mg.tx e
  have z_id : (mgT x L).id = (0,0):=congrArg Mg.id e
  have z_g : (mgT x L).g = 0:=congrArg Mg.g e
  have z_st : (mgT x L).st = 0:=congrArg Mg.st e
  have z_y : (mgT x L).y = false:=congrArg Mg.y e
  have z_nu : (mgT x L).nu = 0:=congrArg Mg.nu e
  have z_key : (mgT x L).key = []:=congrArg Mg.key e
  have z_ver : (mgT x L).ver = 0:=congrArg Mg.ver e
  have z_val : (mgT x L).val = ⟨0,0,[]⟩:=congrArg Mg.val e
  have z_err : (mgT x L).err = 0:=congrArg Mg.err e
  have p_s : 0≤x.sl∧x.sl≤1000000:=by simpa [wellF] using q0
  have p_d : x.dn≤59900:=by simpa [wellF] using q1
  exact ⟨⟨by show 1≤x.k;omega,by show x.k≤15;omega⟩,(fun hu=>absurd (hu.symm.trans (show uBal (mgT x L).k = false by rw [show (mgT x L).k = 15 from hk];rfl)) (by decide)),(fun _=>z_ba),⟨p_s.1,p_s.2,fun hu=>absurd (hu.symm.trans (show uSlot (mgT x L).k = true by rw [show (mgT x L).k = 15 from hk];rfl)) (by decide)⟩,(fun _=>z_has),(fun hh=>absurd (z_has.symm.trans hh) (by decide)),(fun _=>z_vo),(fun hh=>by rw [(show uCmd (mgT x L).k = false by rw [show (mgT x L).k = 15 from hk];rfl),Bool.or_false] at hh;exact absurd (z_has.symm.trans hh) (by decide)),(fun _=>z_cm),(fun hu=>absurd (hu.symm.trans (show uTxn (mgT x L).k = false by rw [show (mgT x L).k = 15 from hk];rfl)) (by decide)),(fun _=>z_tx),(fun hu=>absurd (hu.symm.trans (show uId (mgT x L).k = false by rw [show (mgT x L).k = 15 from hk];rfl)) (by decide)),(fun _=>z_id),⟨by rw [z_g];decide,by rw [z_g];decide,fun _=>z_g⟩,(fun _=>z_st),(fun _=>z_y),⟨by rw [z_nu];decide,by rw [z_nu];decide,fun _=>z_nu⟩,(fun hu=>absurd (hu.symm.trans (show uKey (mgT x L).k = false by rw [show (mgT x L).k = 15 from hk];rfl)) (by decide)),(fun _=>z_key),⟨fun _=>⟨z_ver,z_val,z_err⟩,by rw [z_val];rfl,by rw [z_err];decide,by rw [z_err];decide⟩,⟨by show L.dl.length≤59900;omega,fun hu=>absurd (hu.symm.trans (show uDat (mgT x L).k = true by rw [show (mgT x L).k = 15 from hk];rfl)) (by decide)⟩⟩
 ·intro F
  exact ⟨⟨(by have:=F.sl;show (decide (0≤x.sl) && decide (x.sl≤1000000)) = true;rw [Bool.and_eq_true,decide_eq_true_eq,decide_eq_true_eq];exact ⟨this.1,this.2.1⟩),(by have:=F.data.1;show decide (x.dn≤59900) = true;rw [decide_eq_true_eq,← hl];exact this)⟩,Mg_ext hk (F.ba0 (show uBal (mgT x L).k = false by rw [show (mgT x L).k = 15 from hk];rfl)) rfl (F.has0 (show uHas (mgT x L).k = false by rw [show (mgT x L).k = 15 from hk];rfl)) (F.vo0 (F.has0 (show uHas (mgT x L).k = false by rw [show (mgT x L).k = 15 from hk];rfl))) (F.cm0 (by rw [(show uCmd (mgT x L).k = false by rw [show (mgT x L).k = 15 from hk];rfl),Bool.or_false];exact F.has0 (show uHas (mgT x L).k = false by rw [show (mgT x L).k = 15 from hk];rfl))) (F.tx0 (show uTxn (mgT x L).k = false by rw [show (mgT x L).k = 15 from hk];rfl)) (F.id0 (show uId (mgT x L).k = false by rw [show (mgT x L).k = 15 from hk];rfl)) (F.g.2.2 (show uGrp (mgT x L).k = false by rw [show (mgT x L).k = 15 from hk];rfl)) (F.st0 (show uStp (mgT x L).k = false by rw [show (mgT x L).k = 15 from hk];rfl)) (F.y0 (show uYes (mgT x L).k = false by rw [show (mgT x L).k = 15 from hk];rfl)) (F.nu.2.2 (show uNum (mgT x L).k = false by rw [show (mgT x L).k = 15 from hk];rfl)) (F.key0 (show uKey (mgT x L).k = false by rw [show (mgT x L).k = 15 from hk];rfl)) (F.val.1 (show uVal (mgT x L).k = false by rw [show (mgT x L).k = 15 from hk];rfl)).1 (F.val.1 (show uVal (mgT x L).k = false by rw [show (mgT x L).k = 15 from hk];rfl)).2.1 (F.val.1 (show uVal (mgT x L).k = false by rw [show (mgT x L).k = 15 from hk];rfl)).2.2 rfl⟩
theorem formP_doc (h : MgAt w x L) : formP x L = formMg (mgT x L):=by
 by_cases hk : 1≤x.k∧x.k≤15
 ·rcases kind_cases hk with e | e | e | e | e | e | e | e | e | e | e | e | e | e | e
  ·exact formP_1 h e
  ·exact formP_2 h e
  ·exact formP_3 h e
  ·exact formP_4 h e
  ·exact formP_5 h e
  ·exact formP_6 h e
  ·exact formP_7 h e
  ·exact formP_8 h e
  ·exact formP_9 h e
  ·exact formP_10 h e
  ·exact formP_11 h e
  ·exact formP_12 h e
  ·exact formP_13 h e
  ·exact formP_14 h e
  ·exact formP_15 h e
 ·have e1 : formP x L = false:=by
   unfold formP
   rw [letters_none hk]
   have : ((⟨#[]⟩ : ByteArray)).toList.isEmpty = true:=by rw [ByteArray.toList_eq];rfl
   rw [this];simp
  rw [e1]
  cases e : formMg (mgT x L)
  ·rfl
  ·exact absurd ((formMg_iff _).1 e).kind hk
end
theorem gFormed_any (x : MgM) (L : MgL) (w : World) (h : MgAt w x L) (hf : MgF x) (hU : Tabs w) :
  Calls Tryz.prog 9 #[.agg (mgV x)] w (Says w (formMg (mgT x L))):=by
 rw [← formP_doc h];exact gFormed_gen x L w h hf hU
/-- A message of a size that is looked at. -/
noncomputable def fewG (x : MgM) (L : MgL) : Bool:=fewT L.rs L.ws && (fewT L.rt L.wt && (decide (((x.key.size : Nat) : Int)≤1000) && (decide (((x.vt.size : Nat) : Int)≤1000) && decide (((x.dn : Nat) : Int)≤70000))))
theorem plain_any (x : MgM) (w : World) : Calls Tryz.prog 8 #[.agg (mgV x)] w fun e w'=>e = .returned (.agg (mgV x))∧Below w.heap.size w w':=by
 have H0:=hid (((Boxs.start w).more (mgV x) 40).more (zeroGV 0) 46)
 have hs : (w.alloc (.cells (mgV x) 40)).heap.size = w.heap.size + 1:=by simp
 rw [hs] at H0
 clear hs
 go_enter Tryz.func8,Tryz.ntmps8
 go_upto_region 1 with (fail)
 have HS : Hid (w.heap.size + 1 < ((w.alloc (.cells (mgV x) 40)).alloc (.cells (zeroGV 0) 46)).heap.size):=(H0.g 0 rfl).lt
 generalize (w.alloc (.cells (mgV x) 40)).alloc (.cells (zeroGV 0) 46) = W0 at *
 have HZ:=hid (H0.g 0 rfl)
 have HB:=hid H0.out.bel
 have x0:=H0.c 1 0 rfl rfl;have x1:=H0.c 1 1 rfl rfl;have x2:=H0.c 1 2 rfl rfl;have x3:=H0.c 1 3 rfl rfl;have x4:=H0.c 1 4 rfl rfl;have x5:=H0.c 1 5 rfl rfl;have x6:=H0.c 1 6 rfl rfl;have x7:=H0.c 1 7 rfl rfl;have x8:=H0.c 1 8 rfl rfl;have x9:=H0.c 1 9 rfl rfl;have x10:=H0.c 1 10 rfl rfl;have x11:=H0.c 1 11 rfl rfl;have x12:=H0.c 1 12 rfl rfl;have x13:=H0.c 1 13 rfl rfl;have x14:=H0.c 1 14 rfl rfl;have x15:=H0.c 1 15 rfl rfl;have x16:=H0.c 1 16 rfl rfl;have x17:=H0.c 1 17 rfl rfl;have x18:=H0.c 1 18 rfl rfl;have x19:=H0.c 1 19 rfl rfl;have x20:=H0.c 1 20 rfl rfl;have x21:=H0.c 1 21 rfl rfl;have x22:=H0.c 1 22 rfl rfl;have x23:=H0.c 1 23 rfl rfl;have x24:=H0.c 1 24 rfl rfl;have x25:=H0.c 1 25 rfl rfl;have x26:=H0.c 1 26 rfl rfl;have x27:=H0.c 1 27 rfl rfl;have x28:=H0.c 1 28 rfl rfl;have x29:=H0.c 1 29 rfl rfl;have x30:=H0.c 1 30 rfl rfl;have x31:=H0.c 1 31 rfl rfl;have x32:=H0.c 1 32 rfl rfl;have x33:=H0.c 1 33 rfl rfl
 clear H0
 go_wp2_with (refine wpList_store_row rfl 46 _ _ rfl (w.heap.size + 1) (mgV x) rfl rfl 46 _ HZ.out (by kernel_rfl) rfl (by simp [Value.oneCell']) ?_)
 exact bodyPost_ret (v:=.agg (mgV x)) (results_cell_row Tryz.results8 _ _ (w.heap.size + 1) 46 (mgV x) (0,0) _ rfl (HZ.out.fill (mgV x)) Tryz.underlying46 rfl (by kernel_rfl)) rfl ⟨rfl,Only.below HB.out (only_fill _ _ _) (by omega) HB.out.size⟩
/-- The message by which a program that does nothing is told. -/
abbrev safe7 : MgM:=⟨14,0,0,0,false,0,0,zeroM,0,0,none,0,0,none,0,0,0,0,0,0,false,7,⟨#[]⟩,0,0,0,⟨#[]⟩,0,none,0,0⟩
theorem safe7_n : MgN safe7:=⟨by show 0 < 4294967296;decide,by show 0 < 4294967296;decide,by show 0 < 18446744073709551616;decide,by show 0 < 18446744073709551616;decide,by show 0 < 18446744073709551616;decide,Nat.zero_le _,Nat.zero_le _⟩
theorem safe7_formed : formMg (mgT safe7 noL) = true:=by
 rw [formMg_iff]
 exact ⟨by decide,(fun h=>by cases h),(fun _=>rfl),⟨by decide,by decide,fun _=>rfl⟩,(fun _=>rfl),(fun h=>by cases h),(fun _=>rfl),(fun h=>by cases h),(fun _=>rfl),(fun h=>by cases h),(fun _=>rfl),(fun h=>by cases h),(fun _=>rfl),⟨by decide,by decide,fun _=>rfl⟩,(fun _=>rfl),(fun _=>rfl),⟨by decide,by decide,fun h=>by cases h⟩,(fun h=>by cases h),(fun _=>rfl),⟨fun _=>⟨rfl,rfl,rfl⟩,rfl,by decide,by decide⟩,⟨by decide,fun _=>rfl⟩⟩
theorem awake10_any (w : World) (hU : Tabs w) : Calls Tryz.prog 4 #[] w (Says w true):=by
 have cF : Calls Tryz.prog 9 #[.agg #[.int .i64 14,.int .u32 0,.int .i64 0,.int .i64 0,.bool false,.int .u32 0,.int .i64 0,.int .i64 0,.int .i64 0,.int .i64 0,.slice none 0 0,.slice none 0 0,.int .i64 0,.int .i64 0,.int .i64 0,.int .u64 0,.bool false,.int .i64 0,.int .i64 0,.slice none 0 0,.slice none 0 0,.int .i64 0,.int .i64 0,.int .i64 0,.int .u64 0,.bool false,.int .i64 7,.string ⟨#[]⟩,.int .u64 0,.int .i64 0,.int .u64 0,.string ⟨#[]⟩,.int .i64 0,.slice none 0 0]] w (Says w true):=by
  have h:=gFormed_any safe7 noL w ⟨CmAt.zero,TxAt.nil,BAt.nil,safe7_n⟩ ⟨Nat.zero_le _,Nat.zero_le _,Nat.zero_le _,Nat.zero_le _,Nat.zero_le _⟩ hU
  rw [safe7_formed] at h;exact h
 clear hU
 go_enter Tryz.func4,Tryz.ntmps4
 go_wp2_with (go_at_call 9;((with_reducible refine (cF).mono ?_);rintro e w1 ⟨rfl,hb1⟩))
 go_ret
 exact ⟨rfl,hb1⟩
end Go.Proofs.YtigimmbdlhginaaGreatDoor
