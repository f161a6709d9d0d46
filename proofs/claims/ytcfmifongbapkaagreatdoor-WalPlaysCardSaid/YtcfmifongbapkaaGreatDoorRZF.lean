/- Contract of wal.told. Conditions: the bytes lie in memory; the tables of utf8 lie there. What a disk is, and what each act makes of it: plain mathematics. No condition. What an operation leaves alone. Words for disks in memory: the program's and the document's. Contracts of disk's New, Down, Lasting, blows, SetFuse, Bytes, Sync. Conditions: the disk lies in memory. -/
import Derived.Test.YtcfmifongbapkaaGreatDoorRZB
import Derived.Test.YtcfmifongbapkaaGreatDoorRZA
import Derived.Test.YtcfmifongbapkaaGreatDoorRZE
import Derived.Test.YtcfmifongbapkaaGreatDoorRQ
import Derived.Tactics
import Derived.Test.YtcfmifongbapkaaGreatDoorRD
import Derived.Test.YtcfmifongbapkaaGreatDoorRR
namespace Go.Proofs.YtcfmifongbapkaaGreatDoor
set_option maxHeartbeats 4000000
open Go.RowKit
open Go.Lib (hid)
set_option linter.unusedVariables false
set_option linter.unusedSimpArgs false
/-- The list so far: a row of the call's own, its records in other blocks that came later than the call. -/
structure ToldR (w wr : World) (v : Value) (k : Nat) (D : List RE) : Prop where
 bel : Below w.heap.size w wr
 own : wr.ownsRow w.heap.size 36 15 v k (D.flatMap rcC)
 len : D.length = k
 all : ∀ z ∈ D,RcAt wr z.1 z.2∧RcF z.1∧InR (fun b=>w.heap.size≤b∧v.ownBlock≠some b∧b < wr.heap.size) z.1
section
variable {w wr w1 : World} {v : Value} {k : Nat} {D : List RE}
theorem ToldR.nil (w : World) : ToldR w w (.slice none 0 0) 0 []:=⟨Below.refl _ _,World.ownsRow_nil _ _ _ _,rfl,fun z hz=>by cases hz⟩
theorem ToldR.below (h : ToldR w wr v k D) (hb : Below wr.heap.size wr w1) : ToldR w w1 v k D :=
 ⟨h.bel.trans (hb.mono h.bel.size),ownk_below h.own hb,h.len,fun z hz=>⟨(h.all z hz).1.later hb,(h.all z hz).2.1,(h.all z hz).2.2.mono fun b hb'=>⟨hb'.1,hb'.2.1,Nat.lt_of_lt_of_le hb'.2.2 hb.size⟩⟩⟩
/-- A record that was read behind w1 is added. -/
theorem ToldR.push {w2 w3 : World} {v' : Value} {x : RcM} {L : RcL} (h : ToldR w wr v k D) (hb : Below wr.heap.size wr w2) (hX : RcAt w2 x L) (hF : RcF x) (hN : NewRc wr.heap.size x)
  (ho : w3.ownsRow w.heap.size 36 15 v' (k + 1) (D.flatMap rcC ++ (rcV x).toList)) (hg : w2.grownBy w3 v.ownBlock) (hat : v'.ownBlock = v.ownBlock∨v'.ownBlock = some w2.heap.size) : ToldR w w3 v' (k + 1) (D ++ [(x,L)]):=by
 have h2:=h.below hb
 have hold : ∀ b,(v.ownBlock≠some b∧b < w2.heap.size)→b < w2.heap.size→w3.heap[b]? = w2.heap[b]?:=fun b hb' hlt=>hg.block b hlt fun e=>hb'.1 e.symm
 have hst : ∀ z : RE,RcAt w2 z.1 z.2→InR (fun b=>w.heap.size≤b∧v.ownBlock≠some b∧b < w2.heap.size) z.1→RcAt w3 z.1 z.2∧InR (fun b=>w.heap.size≤b∧v'.ownBlock≠some b∧b < w3.heap.size) z.1:=fun z h1 h3 =>
  ⟨h1.keepS h3 hg.size fun b hb' hlt=>hold b hb'.2 hlt,h3.mono fun b hb'=>⟨hb'.1,fun e=>by
   rcases hat with e1 | e1
   ·exact hb'.2.1 (e1.symm.trans e)
   ·rw [e1] at e;injection e with e;have:=hb'.2.2;omega,Nat.lt_of_lt_of_le hb'.2.2 hg.size⟩⟩
 have hx : InR (fun b=>w.heap.size≤b∧v.ownBlock≠some b∧b < w2.heap.size) x:=(hX.inR hN).mono fun b hb'=>⟨Nat.le_trans h.bel.size hb'.1,fun e=>by have:=(h.own.lt b e).2;have:=hb'.1;omega,hb'.2⟩
 refine ⟨⟨hg.os.trans h2.bel.os,hg.tape.trans h2.bel.tape,hg.output.trans h2.bel.output,Nat.le_trans h2.bel.size hg.size,fun b hb'=>(hg.block b (Nat.lt_of_lt_of_le hb' h2.bel.size) fun e=>by have:=(h2.own.lt b e.symm).1;omega).trans (h2.bel.block b hb')⟩,?_,by rw [List.length_append,h.len];rfl,fun z hz=>?_⟩
 ·have e : (D ++ [(x,L)]).flatMap rcC = D.flatMap rcC ++ (rcV x).toList:=by rw [List.flatMap_append];simp [rcC]
  rw [e];exact ho
 ·rcases List.mem_append.1 hz with hz | hz
  ·obtain ⟨a1,a2⟩:=hst z (h2.all z hz).1 (h2.all z hz).2.2
   exact ⟨a1,(h2.all z hz).2.1,a2⟩
  ·obtain rfl:=List.mem_singleton.1 hz
   obtain ⟨a1,a2⟩:=hst (x,L) hX hx
   exact ⟨a1,hF,a2⟩
end
/-- A list of records in a row of the call's own, their lists and data in other blocks from B on. -/
structure RcsOwn (B : Nat) (W : World) (a : Option Addr) (n c : Nat) (L : List RE) : Prop where
 own : W.ownsRow B 36 15 (.slice a n c) n (L.flatMap rcC)
 len : L.length = n
 all : ∀ z ∈ L,RcAt W z.1 z.2∧RcF z.1∧InR (fun b=>B≤b∧(Value.slice a n c).ownBlock≠some b∧b < W.heap.size) z.1
section
variable {W W' : World} {B C n c : Nat} {a : Option Addr} {L : List RE}
theorem RcsOwn.at_ (h : RcsOwn B W a n c L) : RcsAt W a n L:=⟨h.len,RowAt.of_own h.own,fun z hz=>⟨(h.all z hz).1,(h.all z hz).2.1⟩⟩
theorem RcsOwn.nil (B : Nat) (W : World) : RcsOwn B W none 0 0 []:=⟨World.ownsRow_nil _ _ _ _,rfl,fun z hz=>by cases hz⟩
theorem RcsOwn.mono (h : RcsOwn B W a n c L) (hB : C≤B) : RcsOwn C W a n c L:=by
 refine ⟨⟨h.own.1,?_⟩,h.len,fun z hz=>⟨(h.all z hz).1,(h.all z hz).2.1,(h.all z hz).2.2.mono fun b hb=>⟨Nat.le_trans hB hb.1,hb.2⟩⟩⟩
 rcases h.own.2 with h1 | ⟨b,cap,cur,hv,h1,hr⟩
 ·exact .inl h1
 ·exact .inr ⟨b,cap,cur,hv,Nat.le_trans hB h1,hr⟩
theorem RcsOwn.keep (h : RcsOwn B W a n c L) (hs : W.heap.size≤W'.heap.size) (hk : ∀ b,B≤b→b < W.heap.size→W'.heap[b]? = W.heap[b]?) : RcsOwn B W' a n c L:=by
 refine ⟨⟨h.own.1,?_⟩,h.len,fun z hz=>⟨(h.all z hz).1.keepS (h.all z hz).2.2 hs fun b hb hlt=>hk b hb.1 hlt,(h.all z hz).2.1,(h.all z hz).2.2.mono fun b hb=>⟨hb.1,hb.2.1,Nat.lt_of_lt_of_le hb.2.2 hs⟩⟩⟩
 rcases h.own.2 with h1 | ⟨b,cap,cur,hv,h1,hh,hr⟩
 ·exact .inl h1
 ·exact .inr ⟨b,cap,cur,hv,h1,(hk b h1 (lt_of_heap hh)).trans hh,hr⟩
end
/-- What bytes tell. -/
def ToldO (w : World) (l : List UInt8) (e : Ending) (w' : World) : Prop :=
 ∃ a n c D,e = .returned (.tuple #[.slice a n c,.int .i64 ((tellN l : Nat) : Int)])∧Below w.heap.size w w'∧RcsAt w' a n D∧RcsIn (fun b=>w.heap.size≤b∧b < w'.heap.size) a n D∧rcS D = tellB l∧n≤c∧c≤maxLen∧RcsOwn w.heap.size w' a n c D
theorem ToldR.out {w w' : World} {v : Value} {k u : Nat} {D : List RE} {l : List UInt8} (h : ToldR w w' v k D) (e1 : rcS D = tellB l) (e2 : u = tellN l) : ToldO w l (.returned (.tuple #[v,.int .i64 (u : Int)])) w':=by
 obtain ⟨a,c,rfl,h1,h2⟩:=ownk_form h.own
 subst e2
 refine ⟨a,k,c,D,rfl,h.bel,⟨h.len,RowAt.of_own h.own,fun z hz=>⟨(h.all z hz).1,(h.all z hz).2.1⟩⟩,⟨?_,fun z hz=>(h.all z hz).2.2.mono fun b hb=>⟨hb.1,hb.2.2⟩⟩,e1,h1,h2,⟨h.own,h.len,h.all⟩⟩
 exact .inr fun p e=>by
  subst e
  exact h.own.lt p.block rfl
theorem tell_end {L : List UInt8} {D : List Rc} {u : Nat} (h : tellB (L.drop u) = []∧tellN (L.drop u) = 0) (h1 : D ++ tellB (L.drop u) = tellB L) (h2 : u + tellN (L.drop u) = tellN L) : D = tellB L∧u = tellN L:=by
 rw [h.1,List.append_nil] at h1
 exact ⟨h1,by rw [h.2] at h2;omega⟩
theorem tell_step {L : List UInt8} {D : List Rc} {u : Nat} {x : Rc} (h : uwErr (L.drop u) = 0) (hr : readR (bodyB (L.drop u)) = some x) (h1 : D ++ tellB (L.drop u) = tellB L) (h2 : u + tellN (L.drop u) = tellN L) :
  (D ++ [x]) ++ tellB (L.drop (u + (8 + lenB (L.drop u)))) = tellB L∧(u + (8 + lenB (L.drop u))) + tellN (L.drop (u + (8 + lenB (L.drop u)))) = tellN L:=by
 obtain ⟨e1,e2⟩:=tell_yes h hr
 rw [e1] at h1;rw [e2] at h2
 rw [List.drop_drop] at h1 h2
 exact ⟨by rw [List.append_assoc];exact h1,by omega⟩
theorem told_none (a : Option Addr) (c : Nat) (w : World) (hc : c≤maxLen) : Calls Tryz.prog 70 #[.slice a 0 c] w (ToldO w []):=by
 have hu : ∀ (a' : Option Addr),Calls Tryz.prog 101 #[.slice a' 0 c] w (UwNo w 4):=fun a'=>unwrap_short a' 0 c [] w BAt.nil (by omega) hc (by omega)
 unfold maxLen at hc
 go_enter Tryz.func70,Tryz.ntmps70
 go_wp2
 refine wp_loop_rounds 1 ?_
 rw [rounds_succ]
 go_wp2_with (go_at_call 101;((with_reducible refine (hu _).mono ?_);rintro e w1 ⟨rfl,hb1⟩))
 go_ret2
 exact ((ToldR.nil w).below hb1).out (u:=0) tell_nil.1.symm tell_nil.2.symm
theorem read_yes {w : World} {a : Option Addr} {n c : Nat} {l : List UInt8} {y : Rc} (h : Calls Tryz.prog 13 #[.slice a n c] w (ReadK w l)) (hr : readR l = some y) : Calls Tryz.prog 13 #[.slice a n c] w fun e w' => ∃ x L,e = .returned (.tuple #[.agg (rcV x),.int .i64 0])∧Below w.heap.size w w'∧RcAt w' x L∧RcF x∧NewRc w.heap.size x∧y = rcT x L :=
 h.mono fun e w' h=>by
  rcases h with ⟨x,L,h1,h2,h3,h4,h5,h6⟩ | ⟨_,_,h6⟩
  ·rw [hr] at h6;injection h6 with h6;exact ⟨x,L,h1,h2,h3,h4,h5,h6⟩
  ·rw [hr] at h6;cases h6
theorem read_no {w : World} {a : Option Addr} {n c : Nat} {l : List UInt8} (h : Calls Tryz.prog 13 #[.slice a n c] w (ReadK w l)) (hr : readR l = none) : Calls Tryz.prog 13 #[.slice a n c] w fun e w'=>e = .returned (.tuple #[.agg (rcV zeroR),.int .i64 2])∧Below w.heap.size w w' :=
 h.mono fun e w' h=>by
  rcases h with ⟨x,L,h1,h2,h3,h4,h5,h6⟩ | ⟨h1,h2,h6⟩
  ·rw [hr] at h6;cases h6
  ·exact ⟨h1,h2⟩
theorem made_k (w : World) (x : RcM) : BoxC (w.alloc (.cells zeroRV 36)) w.heap.size (rcV zeroR) 36∧Below w.heap.size w ((w.alloc (.cells zeroRV 36)).setRow w.heap.size (rcV x))∧BoxC ((w.alloc (.cells zeroRV 36)).setRow w.heap.size (rcV x)) w.heap.size (rcV x) 36:=by
 have hZ : BoxC (w.alloc (.cells zeroRV 36)) w.heap.size (rcV zeroR) 36:=BoxC.new w zeroRV 36
 exact ⟨hZ,Only.below ((Below.refl _ _).alloc (Nat.le_refl _) _) (only_fill _ w.heap.size (rcV x)) (Nat.le_refl _) (by simp),hZ.fill _⟩
set_option maxRecDepth 100000 in
theorem told_any (a : Option Addr) (n c : Nat) (L : List UInt8) (w : World) (hl : BAt w w.heap.size a n L) (hnc : n≤c) (hcm : c≤maxLen) (hn : n≤1099511627776) (hU : Tabs w) :
  Calls Tryz.prog 70 #[.slice a n c] w (ToldO w L):=by
 obtain ⟨i0,hi,hz0,hz1,hz2⟩:=info_parts Tryz.kInfo36
 by_cases h0 : n = 0
 ·subst h0
  obtain rfl : L = []:=List.eq_nil_of_length_eq_zero hl.len
  exact told_none a c w hcm
 ·obtain ⟨b,off,rfl,hbB⟩:=hl.addr (by omega)
  have hcm':=hcm
  unfold maxLen at hcm'
  clear h0
  go_enter Tryz.func70,Tryz.ntmps70
  go_wp2
  go_loopw [4,5] (fun v x wr => ∃ (u k : Nat) (D : List RE),u≤n∧k * 8≤u∧x = .int .i64 u∧rcS D ++ tellB (L.drop u) = tellB L∧u + tellN (L.drop u) = tellN L∧ToldR w wr v k D) (fun _ x _=>n - (intOf x).toNat)
  case atStart=>exact ⟨0,0,[],by omega,by omega,rfl,rfl,Nat.zero_add _,ToldR.nil w⟩
  case round =>
   obtain ⟨u,k,D,hu,hk8,rfl,h1,h2,hR⟩:=hrel
   have hlen:=hl.len
   have hdr:=hl.drop (k:=u) (cap:=c) hu hnc
   have hBr : Below w.heap.size w wr:=hR.bel
   have HR0:=hid hR
   clear hR
   have i1 : (u : Int)≤(n : Int):=by omega
   by_cases he : uwErr (L.drop u) = 0
   ·obtain ⟨hh8,hh6,hh7,_⟩:=uwErr_zero he
    rw [List.length_drop] at hh7 hh8
    have hcu : ¬ c = u:=by omega
    rw [if_neg hcu,Option.map_some,add_plain] at hdr
    have hbl:=bodyB_len he
    have HBL:=hid hbl
    have hlu : u + (8 + lenB (L.drop u))≤n:=by omega
    have HE:=hid he
    have H60 : Hid (lenB (L.drop u)≤60000):=hh6
    have HU : Hid (∀ W,Below w.heap.size w W→Tabs W):=fun W hW=>hU.below hW
    have cR : ∀ a1 c1 w1,BAt w1 w1.heap.size a1 (lenB (L.drop u)) (bodyB (L.drop u))→Below w.heap.size w w1→Calls Tryz.prog 13 #[.slice a1 (lenB (L.drop u)) c1] w1 (ReadK w1 (bodyB (L.drop u))):=fun a1 c1 w1 hb hW=>wRead_any a1 _ c1 _ w1 hb (by have:=H60.out;omega) (HU.out _ hW)
    cases hr : readR (bodyB (L.drop u)) with
    | none =>
     obtain ⟨s1,s2⟩:=tell_end (tell_bad he hr) h1 h2
     have S1:=hid s1;have S2:=hid s2
     have RR:=hid hr
     clear he s1 s2 h1 h2 hlen hbl hh8 hh6 hh7 hr
     go_wp2_with (first | (go_at_call 101;((with_reducible refine (unwrap_ok _ (n - u) (c - u) (L.drop u) _ ((hdr.below hBr (Nat.le_refl _)).more hBr.size) (by omega) (by unfold maxLen;omega) HE.out).mono ?_);rintro e w1 ⟨a1,n1,c1,rfl,ho1,hb1⟩;obtain rfl : n1 = lenB (L.drop u):=(by rw [← own_len ho1,HBL.out]);have HR1:=hid (HR0.out.below hb1);have B1:=hid (BAt.of_own ho1);clear ho1 hb1)) | (go_at_call 13;((with_reducible refine (read_no (cR _ _ _ B1.out HR1.out.bel) RR.out).mono ?_);rintro e w2 ⟨rfl,hb2⟩;have HR2:=hid (HR1.out.below hb2);have HM:=hid (made_k w2 zeroR);clear hb2)) | (refine wpList_store_k rfl _ _ rfl w2.heap.size zeroR rfl rfl zeroR HM.out.1 ?_))
     go_ret2
     exact (HR2.out.below HM.out.2.1).out S1.out S2.out
    | some y =>
     obtain ⟨s1,s2⟩:=tell_step he hr h1 h2
     have S1:=hid s1;have S2:=hid s2
     have RR:=hid hr
     clear he s1 s2 h1 h2 hlen hbl hh8 hh6 hh7 hr
     go_upto_region 7 with (first | (go_at_call 101;((with_reducible refine (unwrap_ok _ (n - u) (c - u) (L.drop u) _ ((hdr.below hBr (Nat.le_refl _)).more hBr.size) (by omega) (by unfold maxLen;omega) HE.out).mono ?_);rintro e w1 ⟨a1,n1,c1,rfl,ho1,hb1⟩;obtain rfl : n1 = lenB (L.drop u):=(by rw [← own_len ho1,HBL.out]);have HR1:=hid (HR0.out.below hb1);have B1:=hid (BAt.of_own ho1);clear ho1 hb1)) | (go_at_call 13;((with_reducible refine (read_yes (cR _ _ _ B1.out HR1.out.bel) RR.out).mono ?_);rintro e w2 ⟨x,Lx,rfl,hb2,hX,hF,hN,hy⟩;have BB2:=hid hb2;have X2:=hid hX;have F2:=hid hF;have N2:=hid hN;have Y2:=hid hy;have HM:=hid (made_k w2 x);clear hb2 hX hF hN hy)) | (refine wpList_store_k rfl _ _ rfl w2.heap.size x rfl rfl zeroR HM.out.1 ?_))
     have M3 : Hid (Below w1.heap.size w1 ((w2.alloc (.cells zeroRV 36)).setRow w2.heap.size (rcV x))∧RcAt ((w2.alloc (.cells zeroRV 36)).setRow w2.heap.size (rcV x)) x Lx):=⟨BB2.out.trans (HM.out.2.1.mono BB2.out.size),X2.out.later HM.out.2.1⟩
     have ldX:=HM.out.2.2.ldK
     clear BB2 X2 HM
     generalize (w2.alloc (.cells zeroRV 36)).setRow w2.heap.size (rcV x) = W3 at *
     have PUSH : Hid (∀ V v' w3,Below W3.heap.size W3 V→w3.ownsRow w.heap.size 36 15 v' (k + 1) (D.flatMap rcC ++ (rcV x).toList)→V.grownBy w3 u4.ownBlock→(v'.ownBlock = u4.ownBlock∨v'.ownBlock = some V.heap.size)→ToldR w w3 v' (k + 1) (D ++ [(x,Lx)])):=fun V v' w3 hV ho hg hat=>HR1.out.push (M3.out.1.trans (hV.mono M3.out.1.size)) (M3.out.2.later hV) F2.out N2.out ho hg hat
     have OWN : Hid (∀ V,Below W3.heap.size W3 V→V.ownsRow w.heap.size 36 15 u4 k (D.flatMap rcC)):=fun V hV=>ownk_below HR1.out.own (M3.out.1.trans (hV.mono M3.out.1.size))
     have SZ : Hid (w.heap.size≤W3.heap.size):=Nat.le_trans HR1.out.bel.size M3.out.1.size
     have bA : Hid (Below W3.heap.size W3 (W3.alloc (.cells (rcV x) 36))):=(Below.refl _ _).alloc (Nat.le_refl _) _
     clear HR1 HR0 B1 cR
     go_wp2_with (at_builtin;(refine wpList_append_rowk _ rfl _ _ 39 rfl w.heap.size 36 i0 (.agg zeroRV) 15 168 Tryz.underlying39 hi hz0 hz1 hz2 rfl (by omega) u4 k (D.flatMap rcC) rfl (OWN.out _ bA.out) (W3.heap.size + 1) (some ⟨W3.heap.size,0,none⟩) 1 1 (rcV x).toList rfl (RowAt.one W3 (rcV x) 36) (by simp [Value.oneCell']) (by unfold maxLen;omega) (by omega) (by have:=SZ.out;simp;omega) ?_;intro v' w4 ho4 hg4 hat4;have R4:=hid (PUSH.out _ _ _ bA.out ho4 hg4 hat4);clear ho4 hg4 hat4))
     go_roundw
     case rel=>exact ⟨u + (8 + lenB (L.drop u)),k + 1,D ++ [(x,Lx)],by omega,by omega,by go_num,by rw [rcS_app];have:=S1.out;rw [Y2.out] at this;exact this,S2.out,R4.out⟩
     case measure=>simp [intOf];omega
   ·obtain ⟨s1,s2⟩:=tell_end (tell_no he) h1 h2
    have HE:=hid he;have S1:=hid s1;have S2:=hid s2
    have hlt:=uwErr_lt (L.drop u)
    have hq : ((uwErr (L.drop u) : Int) == 0) = false:=by simp;omega
    have hq2 : ((uwErr (L.drop u) : Int) != 0) = true:=by simp;omega
    clear he s1 s2 h1 h2 hlen
    by_cases hcu : c = u
    ·rw [if_pos hcu] at hdr
     subst hcu
     obtain rfl : n = c:=by omega
     rw [Nat.sub_self] at hdr
     go_wp2_with (go_at_call 101;((with_reducible refine (unwrap_no _ 0 0 (L.drop n) _ ((hdr.below hBr (Nat.le_refl _)).more hBr.size) (by omega) (by unfold maxLen;omega) HE.out).mono ?_);rintro e w1 ⟨rfl,hb1⟩))
     go_ret2
     exact (HR0.out.below hb1).out S1.out S2.out
    ·rw [if_neg hcu,Option.map_some,add_plain] at hdr
     go_wp2_with (go_at_call 101;((with_reducible refine (unwrap_no _ (n - u) (c - u) (L.drop u) _ ((hdr.below hBr (Nat.le_refl _)).more hBr.size) (by omega) (by unfold maxLen;omega) HE.out).mono ?_);rintro e w1 ⟨rfl,hb1⟩))
     go_ret2
     exact (HR0.out.below hb1).out S1.out S2.out
/-- A disk: its size, what lasts, what doesn't, its fuse (below 0: none), whether it is down, within a Replace, by what. -/
structure Dk where
 size : Int
 la : List UInt8
 re : List UInt8
 fuse : Int
 down : Bool
 torn : Bool
 half : List UInt8
def newD (n : Int) : Dk:=⟨max n 0,[],[],-1,false,false,[]⟩
/-- Does the power go within this act? -/
def goesB (d : Dk) : Bool:=decide (d.fuse = 0)
def goesD (d : Dk) : Dk:=if d.fuse = 0 then { d with down:=true } else if 0 < d.fuse then { d with fuse:=d.fuse - 1 } else d
def fullA (d : Dk) (l : List UInt8) : Bool:=decide (d.size < (d.la.length : Int) + d.re.length + l.length)
def fullR (d : Dk) (l : List UInt8) : Bool:=decide (d.size < (l.length : Int))
def appE (d : Dk) (l : List UInt8) : Int:=if d.down then 8 else if fullA d l then 7 else if goesB d then 8 else 0
def appD (d : Dk) (l : List UInt8) : Dk:=if d.down then d else if fullA d l then d else { goesD d with re:=d.re ++ l }
def synE (d : Dk) : Int:=if d.down then 8 else if goesB d then 8 else 0
def synD (d : Dk) : Dk:=if d.down then d else if goesB d then goesD d else { goesD d with la:=d.la ++ d.re,re:=[] }
def repE (d : Dk) (l : List UInt8) : Int:=if d.down then 8 else if fullR d l then 7 else if goesB d then 8 else 0
def repD (d : Dk) (l : List UInt8) : Dk:=if d.down then d else if fullR d l then d else if goesB d then { goesD d with torn:=true,half:=l } else { goesD d with la:=l,re:=[] }
def fusD (d : Dk) (n : Int) : Dk:={ d with fuse:=max n (-1) }
def downD (d : Dk) : Dk:={ d with down:=true }
/-- What is there behind a cut. -/
def behD (d : Dk) (k : Int) : List UInt8:=if d.torn then (if 0 < k then d.half else d.la) else d.la ++ d.re.take k.toNat
def cutD (d : Dk) (k : Int) : Dk:=⟨d.size,behD d k,[],-1,false,false,[]⟩
/-- A bound of what is there. -/
def BndD (d : Dk) (M : Nat) : Prop:=d.la.length + d.re.length≤M∧d.half.length≤M
theorem goes_la (d : Dk) : (goesD d).la = d.la:=by unfold goesD;split <;> (try split) <;> rfl
theorem goes_re (d : Dk) : (goesD d).re = d.re:=by unfold goesD;split <;> (try split) <;> rfl
theorem goes_half (d : Dk) : (goesD d).half = d.half:=by unfold goesD;split <;> (try split) <;> rfl
theorem goes_size (d : Dk) : (goesD d).size = d.size:=by unfold goesD;split <;> (try split) <;> rfl
theorem BndD.goes {d : Dk} {M : Nat} (h : BndD d M) : BndD (goesD d) M:=by unfold BndD;rw [goes_la,goes_re,goes_half];exact h
theorem BndD.mono {d : Dk} {M N : Nat} (h : BndD d M) (hN : M≤N) : BndD d N:=⟨Nat.le_trans h.1 hN,Nat.le_trans h.2 hN⟩
theorem BndD.new (n : Int) : BndD (newD n) 0:=⟨Nat.le_refl _,Nat.le_refl _⟩
theorem BndD.syn {d : Dk} {M : Nat} (h : BndD d M) : BndD (synD d) M:=by
 unfold synD
 split
 ·exact h
 ·split
  ·exact h.goes
  ·exact ⟨by simp only [List.length_append,List.length_nil];exact h.1,by simp only [goes_half];exact h.2⟩
theorem beh_len {d : Dk} {M : Nat} (h : BndD d M) (k : Int) : (behD d k).length≤M:=by
 unfold behD
 split
 ·split
  ·exact h.2
  ·have:=h.1;omega
 ·rw [List.length_append,List.length_take];have:=h.1;omega
theorem BndD.cut {d : Dk} {M : Nat} (h : BndD d M) (k : Int) : BndD (cutD d k) M:=⟨by show (behD d k).length + 0≤M;have:=beh_len h k;omega,by show 0≤M;omega⟩
theorem beh_take (d : Dk) (k : Int) (h : d.torn = false) : behD d k = (d.la ++ d.re).take (d.la.length + min k.toNat d.re.length):=by
 unfold behD
 rw [h,List.take_append]
 simp
 rw [List.take_of_length_le (l:=d.la) (by omega)]
 congr 1
 by_cases e : k.toNat≤d.re.length
 ·rw [Nat.min_eq_left e]
 ·rw [Nat.min_eq_right (by omega),List.take_of_length_le (by omega),List.take_of_length_le (Nat.le_refl _)]
/-- Nothing but what is named has turned. -/
structure Fr (W W' : World) (own : List Nat) : Prop where
 os : W'.os = W.os
 tape : W'.tape = W.tape
 output : W'.output = W.output
 size : W.heap.size≤W'.heap.size
 block : ∀ i,i < W.heap.size→i ∉ own→W'.heap[i]? = W.heap[i]?
theorem Fr.of_below {W W' : World} {own : List Nat} (h : Below W.heap.size W W') : Fr W W' own:=⟨h.os,h.tape,h.output,h.size,fun i hi _=>h.block i hi⟩
section
variable {W W' W'' : World} {own : List Nat}
theorem Fr.trans {own' : List Nat} (h : Fr W W' own) (h' : Fr W' W'' own') (ho : ∀ i ∈ own',i ∈ own∨W.heap.size≤i) : Fr W W'' own :=
 ⟨h'.os.trans h.os,h'.tape.trans h.tape,h'.output.trans h.output,Nat.le_trans h.size h'.size,fun i hi hn=>(h'.block i (Nat.lt_of_lt_of_le hi h.size) (fun e=>by
  rcases ho i e with h1 | h1
  ·exact hn h1
  ·omega)).trans (h.block i hi hn)⟩
theorem Fr.below {B : Nat} {w0 : World} (hb : Below B w0 W) (h : Fr W W' own) (hB : B≤W.heap.size) (ho : ∀ i ∈ own,B≤i) : Below B w0 W' :=
 ⟨h.os.trans hb.os,h.tape.trans hb.tape,h.output.trans hb.output,Nat.le_trans hb.size h.size,fun i hi=>(h.block i (by omega) (fun e=>by have:=ho i e;omega)).trans (hb.block i hi)⟩
end
theorem box_fr {W V : World} {G : Nat} {cs : Array Value} {t : TypeId} {own : List Nat} (h : BoxC W G cs t) (hF : Fr W V own) (hn : G ∉ own) : BoxC V G cs t:=(hF.block G (lt_of_heap h) hn).trans h
/-- A row of bytes that is nobody else's. -/
def OwnB (W : World) (v : Value) (l : List UInt8) : Prop:=W.ownsRow 0 5 1 v l.length (bcells l)
def Far (v v' : Value) : Prop := ∀ j,v.ownBlock = some j→v'.ownBlock≠some j
section
variable {W W' : World} {v v' : Value} {l : List UInt8} {g : Nat} {cs : Array Value} {t : TypeId}
theorem OwnB.nil (W : World) : OwnB W (.slice none 0 0) []:=World.ownsRow_nil _ _ _ _
theorem OwnB.of_own {B n : Nat} (h : W.ownsRow B 5 1 v n (bcells l)) : OwnB W v l:=by
 have e:=own_len h
 subst e
 exact own_base h (Nat.zero_le _)
theorem OwnB.form (h : OwnB W v l) : ∃ a c,v = .slice a l.length c∧l.length≤c∧c≤maxLen:=by
 obtain ⟨a,c,h1,h2,h3,_⟩:=own_form h
 exact ⟨a,c,h1,h2,h3⟩
theorem OwnB.bat {a : Option Addr} {n c : Nat} (h : OwnB W (.slice a n c) l) (hn : n = l.length) : BAt W W.heap.size a n l:=by subst hn;exact BAt.of_own h
theorem OwnB.lt (h : OwnB W v l) : ∀ j,v.ownBlock = some j→j < W.heap.size:=own_lt h
theorem OwnB.moved (h : OwnB W v l) (hk : ∀ j,v.ownBlock = some j→j < W.heap.size→W'.heap[j]? = W.heap[j]?) : OwnB W' v l:=by
 refine ⟨h.1,?_⟩
 rcases h.2 with h1 | ⟨j,c,cur,hv,hb,hh,hr⟩
 ·exact .inl h1
 ·exact .inr ⟨j,c,cur,hv,hb,(hk j (by rw [hv];rfl) (lt_of_heap hh)).trans hh,hr⟩
theorem OwnB.below (h : OwnB W v l) (hb : Below W.heap.size W W') : OwnB W' v l:=h.moved fun j _ hj=>hb.block j hj
theorem OwnB.not_box (h : OwnB W v l) (hb : BoxC W g cs t) (ht : t≠5) : v.ownBlock≠some g:=by
 intro e
 rcases h.2 with ⟨h1,_⟩ | ⟨j,c,cur,hv,_,hh,_⟩
 ·rw [h1] at e;cases e
 ·rw [hv] at e
  injection e with e
  have e' : j = g:=e
  rw [e',show W.heap[g]? = _ from hb] at hh
  injection hh with hh
  injection hh with _ hh _
  exact ht hh
theorem OwnB.set (h : OwnB W v l) (hne : v.ownBlock≠some g) (i : Nat) (u : Value) : OwnB (W.setCell ⟨g,i,none⟩ u) v l :=
 h.moved fun j hj _=>Below.heap_setCell _ _ _ _ (fun e=>hne (by rw [hj];exact congrArg some e))
theorem OwnB.fr {own : List Nat} (h : OwnB W v l) (hF : Fr W W' own) (hn : ∀ j,v.ownBlock = some j→j ∉ own) : OwnB W' v l:=h.moved fun j hj hlt=>hF.block j hlt (hn j hj)
theorem Fr.set (W : World) (g i : Nat) (u : Value) : Fr W (W.setCell ⟨g,i,none⟩ u) [g] :=
 ⟨by simp [World.setCell],by simp [World.setCell],by simp [World.setCell],by simp [World.setCell],fun j _ hj=>Below.heap_setCell _ _ _ _ (fun e=>hj (by simp;exact e))⟩
theorem Fr.refl (W : World) (own : List Nat) : Fr W W own:=⟨rfl,rfl,rfl,Nat.le_refl _,fun _ _ _=>rfl⟩
theorem Fr.wide {own own' : List Nat} (h : Fr W W' own) (ho : ∀ i ∈ own,i ∈ own') : Fr W W' own':=⟨h.os,h.tape,h.output,h.size,fun i hi hn=>h.block i hi fun e=>hn (ho i e)⟩
theorem Far.nil : Far v (.slice none 0 0):=fun j _ e=>by cases e
theorem Far.nil' : Far (.slice none 0 0) v:=fun j e=>by cases e
theorem Far.symm (h : Far v v') : Far v' v:=fun j hj e=>h j e hj
end
def bk (v : Value) : List Nat:=v.ownBlock.toList
theorem bk_mem {v : Value} {j : Nat} : j ∈ bk v↔v.ownBlock = some j:=by unfold bk;simp
theorem bk_nil : bk (.slice none 0 0) = []:=rfl
/-- The program's disk in block g. -/
structure DkP (W : World) (g : Nat) (d : Dk) (v nx : Value) (left : Int) : Prop where
 box : BoxC W g #[.int .i64 d.size,v,.int .i64 d.la.length,.bool (decide (0≤d.fuse)),.int .i64 left,.bool d.down,.bool d.torn,nx] 111
 row : OwnB W v (d.la ++ d.re)
 nxt : OwnB W nx d.half
 left : 0≤d.fuse→left = d.fuse
 sz : 0≤d.size∧d.size < 9223372036854775808
 far : Far v nx
/-- The document's disk in block g. -/
structure DkR (W : World) (g : Nat) (d : Dk) (vl vr vh : Value) : Prop where
 box : BoxC W g #[.int .i64 d.size,vl,vr,.int .i64 d.fuse,.bool d.down,.bool d.torn,vh] 73
 rl : OwnB W vl d.la
 rr : OwnB W vr d.re
 rh : OwnB W vh d.half
 sz : 0≤d.size∧d.size < 9223372036854775808
 f1 : Far vl vr
 f2 : Far vl vh
 f3 : Far vr vh
def PD (W : World) (g : Nat) (d : Dk) (own : List Nat) : Prop := ∃ v nx left,DkP W g d v nx left∧own = g :: (bk v ++ bk nx)
def RD (W : World) (g : Nat) (d : Dk) (own : List Nat) : Prop := ∃ vl vr vh,DkR W g d vl vr vh∧own = g :: (bk vl ++ bk vr ++ bk vh)
/-- What an operation leaves. -/
def Stp (K : World→List Nat→Prop) (W W' : World) (own : List Nat) : Prop := ∃ own',K W' own'∧Fr W W' own∧∀ i ∈ own',i ∈ own∨W.heap.size≤i
section
variable {W W' : World} {g : Nat} {d : Dk} {v nx vl vr vh : Value} {left : Int} {own : List Nat}
theorem BoxC.eight {w : World} {g : Nat} {c0 c1 c2 c3 c4 c5 c6 c7 : Value} {t : TypeId} (h : BoxC w g #[c0,c1,c2,c3,c4,c5,c6,c7] t) : w.cell? ⟨g,0,none⟩ = some c0∧w.cell? ⟨g,1,none⟩ = some c1∧w.cell? ⟨g,2,none⟩ = some c2∧w.cell? ⟨g,3,none⟩ = some c3∧w.cell? ⟨g,4,none⟩ = some c4∧w.cell? ⟨g,5,none⟩ = some c5∧w.cell? ⟨g,6,none⟩ = some c6∧w.cell? ⟨g,7,none⟩ = some c7 :=
 ⟨h.cell 0 c0 rfl,h.cell 1 c1 rfl,h.cell 2 c2 rfl,h.cell 3 c3 rfl,h.cell 4 c4 rfl,h.cell 5 c5 rfl,h.cell 6 c6 rfl,h.cell 7 c7 rfl⟩
theorem BoxC.seven {w : World} {g : Nat} {c0 c1 c2 c3 c4 c5 c6 : Value} {t : TypeId} (h : BoxC w g #[c0,c1,c2,c3,c4,c5,c6] t) : w.cell? ⟨g,0,none⟩ = some c0∧w.cell? ⟨g,1,none⟩ = some c1∧w.cell? ⟨g,2,none⟩ = some c2∧w.cell? ⟨g,3,none⟩ = some c3∧w.cell? ⟨g,4,none⟩ = some c4∧w.cell? ⟨g,5,none⟩ = some c5∧w.cell? ⟨g,6,none⟩ = some c6 :=
 ⟨h.cell 0 c0 rfl,h.cell 1 c1 rfl,h.cell 2 c2 rfl,h.cell 3 c3 rfl,h.cell 4 c4 rfl,h.cell 5 c5 rfl,h.cell 6 c6 rfl⟩
theorem DkP.far_box (h : DkP W g d v nx left) : v.ownBlock≠some g∧nx.ownBlock≠some g:=⟨h.row.not_box h.box (by decide),h.nxt.not_box h.box (by decide)⟩
theorem DkR.far_box (h : DkR W g d vl vr vh) : vl.ownBlock≠some g∧vr.ownBlock≠some g∧vh.ownBlock≠some g:=⟨h.rl.not_box h.box (by decide),h.rr.not_box h.box (by decide),h.rh.not_box h.box (by decide)⟩
theorem DkP.kept (h : DkP W g d v nx left) (hk : ∀ j ∈ g :: (bk v ++ bk nx),j < W.heap.size→W'.heap[j]? = W.heap[j]?) : DkP W' g d v nx left :=
 ⟨(hk g (List.mem_cons_self ..) h.box.lt).trans h.box,h.row.moved fun j hj hlt=>hk j (List.mem_cons_of_mem _ (List.mem_append_left _ (bk_mem.2 hj))) hlt,h.nxt.moved fun j hj hlt=>hk j (List.mem_cons_of_mem _ (List.mem_append_right _ (bk_mem.2 hj))) hlt,h.left,h.sz,h.far⟩
theorem DkR.kept (h : DkR W g d vl vr vh) (hk : ∀ j ∈ g :: (bk vl ++ bk vr ++ bk vh),j < W.heap.size→W'.heap[j]? = W.heap[j]?) : DkR W' g d vl vr vh :=
 ⟨(hk g (List.mem_cons_self ..) h.box.lt).trans h.box,h.rl.moved fun j hj hlt=>hk j (List.mem_cons_of_mem _ (List.mem_append_left _ (List.mem_append_left _ (bk_mem.2 hj)))) hlt,h.rr.moved fun j hj hlt=>hk j (List.mem_cons_of_mem _ (List.mem_append_left _ (List.mem_append_right _ (bk_mem.2 hj)))) hlt,h.rh.moved fun j hj hlt=>hk j (List.mem_cons_of_mem _ (List.mem_append_right _ (bk_mem.2 hj))) hlt,h.sz,h.f1,h.f2,h.f3⟩
theorem DkP.below (h : DkP W g d v nx left) (hb : Below W.heap.size W W') : DkP W' g d v nx left:=h.kept fun j _ hj=>hb.block j hj
theorem DkR.below (h : DkR W g d vl vr vh) (hb : Below W.heap.size W W') : DkR W' g d vl vr vh:=h.kept fun j _ hj=>hb.block j hj
theorem PD.below (h : PD W g d own) (hb : Below W.heap.size W W') : PD W' g d own:=by obtain ⟨v,nx,left,h1,e⟩:=h;exact ⟨v,nx,left,h1.below hb,e⟩
theorem RD.below (h : RD W g d own) (hb : Below W.heap.size W W') : RD W' g d own:=by obtain ⟨vl,vr,vh,h1,e⟩:=h;exact ⟨vl,vr,vh,h1.below hb,e⟩
theorem PD.kept (h : PD W g d own) (hk : ∀ j ∈ own,j < W.heap.size→W'.heap[j]? = W.heap[j]?) : PD W' g d own:=by obtain ⟨v,nx,left,h1,rfl⟩:=h;exact ⟨v,nx,left,h1.kept hk,rfl⟩
theorem RD.kept (h : RD W g d own) (hk : ∀ j ∈ own,j < W.heap.size→W'.heap[j]? = W.heap[j]?) : RD W' g d own:=by obtain ⟨vl,vr,vh,h1,rfl⟩:=h;exact ⟨vl,vr,vh,h1.kept hk,rfl⟩
theorem PD.lt (h : PD W g d own) : ∀ i ∈ own,i < W.heap.size:=by
 obtain ⟨v,nx,left,h1,rfl⟩:=h
 intro i hi
 rcases List.mem_cons.1 hi with rfl | hi
 ·exact h1.box.lt
 ·rcases List.mem_append.1 hi with hi | hi
  ·exact h1.row.lt i (bk_mem.1 hi)
  ·exact h1.nxt.lt i (bk_mem.1 hi)
theorem RD.lt (h : RD W g d own) : ∀ i ∈ own,i < W.heap.size:=by
 obtain ⟨vl,vr,vh,h1,rfl⟩:=h
 intro i hi
 rcases List.mem_cons.1 hi with rfl | hi
 ·exact h1.box.lt
 ·rcases List.mem_append.1 hi with hi | hi
  ·rcases List.mem_append.1 hi with hi | hi
   ·exact h1.rl.lt i (bk_mem.1 hi)
   ·exact h1.rr.lt i (bk_mem.1 hi)
  ·exact h1.rh.lt i (bk_mem.1 hi)
theorem Stp.same {K : World→List Nat→Prop} (h : K W' own) (hb : Below W.heap.size W W') : Stp K W W' own:=⟨own,h,Fr.of_below hb,fun i hi=>.inl hi⟩
end
section
variable {W : World} {g : Nat} {d : Dk} {v nx : Value} {left : Int} {own : List Nat}
theorem DkP.setFuse (h : DkP W g d v nx left) (n : Int) : DkP ((W.setCell ⟨g,3,none⟩ (.bool (decide (0≤n)))).setCell ⟨g,4,none⟩ (.int .i64 n)) g (fusD d n) v nx n:=by
 refine ⟨?_,((h.row.set h.far_box.1 _ _).set h.far_box.1 _ _),((h.nxt.set h.far_box.2 _ _).set h.far_box.2 _ _),fun e=>?_,h.sz,h.far⟩
 ·have e : decide (0≤(fusD d n).fuse) = decide (0≤n):=by
   show decide (0≤max n (-1)) = _
   by_cases hn : 0≤n
   ·rw [decide_eq_true hn];exact decide_eq_true (by omega)
   ·rw [decide_eq_false hn];exact decide_eq_false (by omega)
  have hb:=(h.box.set 3 (.bool (decide (0≤n)))).set 4 (.int .i64 n)
  rw [e]
  exact hb
 ·have e' : 0≤max n (-1):=e
  show n = max n (-1)
  omega
theorem DkP.setDown (h : DkP W g d v nx left) : DkP (W.setCell ⟨g,5,none⟩ (.bool true)) g (downD d) v nx left :=
 ⟨h.box.set 5 (.bool true),h.row.set h.far_box.1 _ _,h.nxt.set h.far_box.2 _ _,h.left,h.sz,h.far⟩
theorem DkP.setLeft (h : DkP W g d v nx left) (hf : 0 < d.fuse) : DkP (W.setCell ⟨g,4,none⟩ (.int .i64 (d.fuse - 1))) g { d with fuse:=d.fuse - 1 } v nx (d.fuse - 1):=by
 refine ⟨?_,h.row.set h.far_box.1 _ _,h.nxt.set h.far_box.2 _ _,fun _=>rfl,h.sz,h.far⟩
 have e : decide (0≤d.fuse - 1) = decide (0≤d.fuse):=by rw [decide_eq_true (by omega),decide_eq_true (by omega)]
 show BoxC _ g #[.int .i64 d.size,v,.int .i64 d.la.length,.bool (decide (0≤d.fuse - 1)),.int .i64 (d.fuse - 1),.bool d.down,.bool d.torn,nx] _
 rw [e]
 exact h.box.set 4 (.int .i64 (d.fuse - 1))
/-- All bytes last. -/
theorem DkP.setLast (h : DkP W g d v nx left) : DkP (W.setCell ⟨g,2,none⟩ (.int .i64 (d.la ++ d.re).length)) g { d with la:=d.la ++ d.re,re:=[] } v nx left:=by
 refine ⟨h.box.set 2 _,?_,h.nxt.set h.far_box.2 _ _,h.left,h.sz,h.far⟩
 show OwnB _ v ((d.la ++ d.re) ++ [])
 rw [List.append_nil]
 exact h.row.set h.far_box.1 _ _
theorem down_any (h : BoxC W g #[.int .i64 d.size,v,.int .i64 d.la.length,.bool (decide (0≤d.fuse)),.int .i64 left,.bool d.down,.bool d.torn,nx] 111) :
  Calls Tryz.prog 66 #[.pointer (some ⟨g,0,none⟩)] W fun e w'=>e = .returned (.bool d.down)∧W = w':=by
 obtain ⟨y0,y1,y2,y3,y4,y5,y6,y7⟩:=h.eight
 clear h
 go_enter Tryz.func66,Tryz.ntmps66
 go_wp2
 go_ret
 exact ⟨rfl,rfl⟩
theorem lasting_any (h : DkP W g d v nx left) : Calls Tryz.prog 23 #[.pointer (some ⟨g,0,none⟩)] W fun e w'=>e = .returned (.int .i64 d.la.length)∧W = w':=by
 obtain ⟨y0,y1,y2,y3,y4,y5,y6,y7⟩:=h.box.eight
 clear h
 go_enter Tryz.func23,Tryz.ntmps23
 go_wp2
 go_ret
 exact ⟨rfl,rfl⟩
theorem fuse_any (n : Int) (h : DkP W g d v nx left) : Calls Tryz.prog 31 #[.pointer (some ⟨g,0,none⟩),.int .i64 n] W fun e w'=>e = .returned (.tuple #[])∧DkP w' g (fusD d n) v nx n∧Fr W w' [g]:=by
 obtain ⟨y0,y1,y2,y3,y4,y5,y6,y7⟩:=h.box.eight
 have fz:=h.box.frozen
 have z3:=fz 3
 have z4:=fz 4
 have HR : Hid (DkP ((W.setCell ⟨g,3,none⟩ (.bool (decide (0≤n)))).setCell ⟨g,4,none⟩ (.int .i64 n)) g (fusD d n) v nx n∧Fr W ((W.setCell ⟨g,3,none⟩ (.bool (decide (0≤n)))).setCell ⟨g,4,none⟩ (.int .i64 n)) [g]):=⟨h.setFuse n,(Fr.set W g 3 _).trans (Fr.set _ g 4 _) (fun i hi=>.inl hi)⟩
 have hd : decide (n ≥ 0) = decide (0≤n):=rfl
 clear h fz
 go_enter Tryz.func31,Tryz.ntmps31
 go_wp2
 go_end0
 exact ⟨rfl,HR.out⟩
theorem blows_any (h : DkP W g d v nx left) (hl : d.fuse < 9223372036854775808) : Calls Tryz.prog 67 #[.pointer (some ⟨g,0,none⟩)] W fun e w'=>e = .returned (.bool (goesB d))∧(∃ left',DkP w' g (goesD d) v nx left')∧Fr W w' [g]:=by
 obtain ⟨y0,y1,y2,y3,y4,y5,y6,y7⟩:=h.box.eight
 have fz:=h.box.frozen
 have z4:=fz 4
 have z5:=fz 5
 clear fz
 by_cases h0 : 0≤d.fuse
 ·rw [h.left h0] at y4
  rw [decide_eq_true h0] at y3
  by_cases hz : d.fuse = 0
  ·rw [hz] at y4
   have HR : Hid ((∃ left',DkP (W.setCell ⟨g,5,none⟩ (.bool true)) g (goesD d) v nx left')∧Fr W (W.setCell ⟨g,5,none⟩ (.bool true)) [g]):=⟨⟨left,by unfold goesD;rw [if_pos hz];exact h.setDown⟩,Fr.set W g 5 _⟩
   have eg : goesB d = true:=decide_eq_true hz
   rw [eg]
   clear h h0 hz eg hl
   go_enter Tryz.func67,Tryz.ntmps67
   go_wp2
   go_ret
   exact ⟨rfl,HR.out⟩
  ·have hp : 0 < d.fuse:=by omega
   have HR : Hid ((∃ left',DkP (W.setCell ⟨g,4,none⟩ (.int .i64 (d.fuse - 1))) g (goesD d) v nx left')∧Fr W (W.setCell ⟨g,4,none⟩ (.int .i64 (d.fuse - 1))) [g]):=⟨⟨_,by unfold goesD;rw [if_neg hz,if_pos hp];exact h.setLeft hp⟩,Fr.set W g 4 _⟩
   have eg : goesB d = false:=decide_eq_false hz
   rw [eg]
   have hd : decide (d.fuse > 0) = true:=decide_eq_true hp
   generalize d.fuse = f at *
   clear h h0 hz eg
   go_enter Tryz.func67,Tryz.ntmps67
   go_wp2
   go_ret
   exact ⟨rfl,HR.out⟩
 ·rw [decide_eq_false h0] at y3
  have eg : goesB d = false:=decide_eq_false (by omega)
  have ed : goesD d = d:=by unfold goesD;rw [if_neg (by omega),if_neg (by omega)]
  rw [eg,ed]
  have HR : Hid ((∃ left',DkP W g d v nx left')∧Fr W W [g]):=⟨⟨left,h⟩,Fr.refl W [g]⟩
  clear h h0 eg ed hl
  go_enter Tryz.func67,Tryz.ntmps67
  go_wp2
  go_ret
  exact ⟨rfl,HR.out⟩
end
theorem dkNew_any (n : Int) (hn : n < 9223372036854775808) (W : World) : Calls Tryz.prog 20 #[.int .i64 n] W fun e w'=>e = .returned (.pointer (some ⟨W.heap.size,0,none⟩))∧Below W.heap.size W w'∧DkP w' W.heap.size (newD n) (.slice none 0 0) (.slice none 0 0) 0:=by
 have HR : ∀ m : Int,m = max n 0→Hid (Below W.heap.size W (W.alloc (.cells #[.int .i64 m,.slice none 0 0,.int .i64 0,.bool false,.int .i64 0,.bool false,.bool false,.slice none 0 0] 111))∧DkP (W.alloc (.cells #[.int .i64 m,.slice none 0 0,.int .i64 0,.bool false,.int .i64 0,.bool false,.bool false,.slice none 0 0] 111)) W.heap.size (newD n) (.slice none 0 0) (.slice none 0 0) 0):=by
  intro m hm
  subst hm
  exact ⟨(Below.refl _ _).alloc (Nat.le_refl _) _,⟨BoxC.new _ _ _,OwnB.nil _,OwnB.nil _,(fun e=>absurd (show (0 : Int)≤-1 from e) (by decide)),⟨by show 0≤max n 0;omega,by show max n 0 < _;omega⟩,Far.nil⟩⟩
 by_cases h : 0≤n
 ·have hm:=HR n (by omega)
  have hM:=HR (max n 0) rfl
  clear HR
  have hd : decide (n < 0) = false:=decide_eq_false (by omega)
  go_enter Tryz.func20,Tryz.ntmps20
  go_wp2
  go_ret
  first | exact ⟨rfl,hm.out⟩ | exact ⟨rfl,hM.out⟩
 ·have hm:=HR 0 (by omega)
  have hM:=HR (max n 0) rfl
  clear HR
  have hd : decide (n < 0) = true:=decide_eq_true (by omega)
  go_enter Tryz.func20,Tryz.ntmps20
  go_wp2
  go_ret
  first | exact ⟨rfl,hm.out⟩ | exact ⟨rfl,hM.out⟩
end Go.Proofs.YtcfmifongbapkaaGreatDoor
