/- Contracts of a law's few. Conditions: the records lie in memory. What the laws' disks come to: plain mathematics. No condition. Contract of wal.Compact. Conditions: the records lie in memory; the tables of utf8 lie there. Contract of wal.Compact where it refuses. Contracts of the document's disk: New, goes, Append, Bytes. Conditions: the disk lies in memory, and what is appended. Contracts of the document's disk: Append, Sync, Replace. Conditions: the disk lies in memory, and what is laid. Contract of the document's Sync. Condition: the disk lies in memory. -/
import Derived.Test.YtcfmifongbapkaaGreatDoorRZH
import Derived.Test.YtcfmifongbapkaaGreatDoorRZG
import Derived.Deep.RegionLaw
namespace Go.Proofs.YtcfmifongbapkaaGreatDoor
set_option maxRecDepth 100000
set_option maxHeartbeats 4000000
open Go.RowKit
open Go.Lib (hid)
set_option linter.unusedVariables false
set_option linter.unusedSimpArgs false
/-- Are there few records, of a size that is looked at? -/
noncomputable def fewG : Nat→Nat→List RE→Bool
 | _,0,_=>true
 | _,_ + 1,[]=>true
 | n,k + 1,z :: r=>fewRc z && (decide (n + z.1.dn≤200000) && fewG (n + z.1.dn) k r)
theorem fewG_step (n k : Nat) (z : RE) (r : List RE) : fewG n (k + 1) (z :: r) = (fewRc z && (decide (n + z.1.dn≤200000) && fewG (n + z.1.dn) k r)):=rfl
noncomputable def fewL (L : List RE) (m : Int) : Bool:=fewG 0 100 L && decide ((L.length : Int)≤m)
theorem fewG_all (L : List RE) : ∀ n k,L.length≤k→fewG n k L = true→(∀ z ∈ L,fewRc z = true)∧n + (L.map fun z=>z.1.dn).sum≤max n 200000:=by
 induction L with
 | nil=>intro n k _ _;exact ⟨(fun z hz=>by cases hz),by simp;omega⟩
 | cons z r ih =>
  intro n k hk h
  cases k with
  | zero=>simp at hk
  | succ k =>
   unfold fewG at h
   simp only [Bool.and_eq_true,decide_eq_true_eq] at h
   obtain ⟨h1,h2,h3⟩:=h
   obtain ⟨i1,i2⟩:=ih (n + z.1.dn) k (by simpa using hk) h3
   refine ⟨fun y hy=>?_,by rw [List.map_cons,List.sum_cons];omega⟩
   rcases List.mem_cons.1 hy with rfl | hy
   ·exact h1
   ·exact i1 y hy
theorem fewL_all {W : World} {a : Option Addr} {n : Nat} {L : List RE} {m : Int} (h : RcsRaw W a n L) (hm : m≤100) (hf : fewL L m = true) : RcsAt W a n L∧(L.length : Int)≤m∧(L.map fun z=>z.1.dn).sum≤200000:=by
 unfold fewL at hf
 simp only [Bool.and_eq_true,decide_eq_true_eq] at hf
 obtain ⟨h1,h2⟩:=fewG_all L 0 100 (by omega) hf.1
 exact ⟨⟨h.len,h.row,fun z hz=>⟨h.all z hz,fewRc_F (h.all z hz) (h1 z hz)⟩⟩,hf.2,by omega⟩
theorem few_any (a : Option Addr) (n c : Nat) (L : List RE) (m : Int) (w : World) (h : RcsRaw w a n L) (hnc : n≤c) (hcm : c≤maxLen) : Calls Tryz.prog 9 #[.slice a n c,.int .i64 m] w (Says w (fewL L m)):=by
 have hln:=h.len
 have hcm':=hcm
 unfold maxLen at hcm'
 unfold fewL
 have H:=hid h
 clear h
 rw [hln]
 go_enter Tryz.func9,Tryz.ntmps9
 go_wp2_with (fail)
 go_loopw [5,6] (fun x y wr => ∃ s i : Nat,x = .int .i64 s∧y = .int .i64 i∧i≤L.length∧i≤100∧s≤200000∧fewG s (100 - i) (L.drop i) = fewG 0 100 L∧Below w.heap.size w wr) (fun _ y _=>100 - (intOf y).toNat)
 case atStart=>exact ⟨0,0,rfl,rfl,Nat.zero_le _,Nat.zero_le _,Nat.zero_le _,rfl,Below.refl _ _⟩
 case round =>
  obtain ⟨s,i,rfl,rfl,hi,hi2,hs,hG,hB⟩:=hrel
  have BR:=hid hB
  clear hB
  by_cases h1 : i < L.length
  ·have i1 : (i : Int) < (n : Int):=by omega
   by_cases h2 : i < 100
   ·have i2 : (i : Int) < 100:=by omega
    obtain ⟨b0,off,rfl,hb0,LD0⟩:=H.out.at_ h1
    have LD:=hid LD0
    clear LD0
    have ld:=(LD.out _ BR.out).1
    have hX:=H.out.all _ (List.getElem_mem h1)
    have cF : ∀ W,Below w.heap.size w W→Calls Tryz.prog 33 #[.agg (rcV L[i].1)] W (Says W (fewRc L[i])):=fun W hW=>rFew_rec L[i].1 L[i].2 W (hX.later hW)
    have eD : L.drop i = L[i] :: L.drop (i + 1):=List.drop_eq_getElem_cons h1
    have eK : 100 - i = (100 - (i + 1)) + 1:=by omega
    rw [eD,eK] at hG
    rw [fewG_step] at hG
    have hdn : L[i].1.dn≤maxLen∨True:=.inr trivial
    generalize L[i] = z at *
    obtain ⟨⟨k,br,bn,sl,cm,da,dn,dc⟩,Lz⟩:=z
    simp only at ld hG cF LD
    cases hf : fewRc (⟨k,br,bn,sl,cm,da,dn,dc⟩,Lz)
    ·rw [hf] at hG cF
     have GG : Hid (fewG 0 100 L = false):=hG.symm.trans rfl
     clear hG hf hX
     go_wp2_with (first | (go_at_call 12;((with_reducible refine (plain_any _ _).mono ?_);rintro e w1 ⟨rfl,hb1⟩;have B1:=hid (BR.out.trans (hb1.mono BR.out.size));clear hb1)) | (go_at_call 33;((with_reducible refine (cF _ B1.out).mono ?_);rintro e w2 ⟨rfl,hb2⟩;have B2:=hid (B1.out.trans (hb2.mono B1.out.size));have c14:=(LD.out _ B2.out).2;clear hb2)))
     go_ret
     exact ⟨by rw [GG.out];rfl,B2.out⟩
    ·rw [hf] at hG cF
     have h7 : dn≤70000:=by
      unfold fewRc at hf
      simp only [Bool.and_eq_true,decide_eq_true_eq] at hf
      exact hf.2
     rw [Bool.true_and] at hG
     by_cases h3 : s + dn≤200000
     ·have i3 : ¬ (200000 : Int) < (s : Int) + (dn : Int):=by omega
      rw [decide_eq_true h3,Bool.true_and] at hG
      have GG:=hid hG
      clear hG hf hX
      go_wp2_with (first | (go_at_call 12;((with_reducible refine (plain_any _ _).mono ?_);rintro e w1 ⟨rfl,hb1⟩;have B1:=hid (BR.out.trans (hb1.mono BR.out.size));clear hb1)) | (go_at_call 33;((with_reducible refine (cF _ B1.out).mono ?_);rintro e w2 ⟨rfl,hb2⟩;have B2:=hid (B1.out.trans (hb2.mono B1.out.size));have c14:=(LD.out _ B2.out).2;clear hb2)))
      go_roundw
      case rel=>exact ⟨s + dn,i + 1,by go_num,by go_num,h1,h2,h3,GG.out,B2.out⟩
      case measure=>simp [intOf];omega
     ·have i3 : (200000 : Int) < (s : Int) + (dn : Int):=by omega
      rw [decide_eq_false h3] at hG
      have GG : Hid (fewG 0 100 L = false):=hG.symm.trans rfl
      clear hG hf hX
      go_wp2_with (first | (go_at_call 12;((with_reducible refine (plain_any _ _).mono ?_);rintro e w1 ⟨rfl,hb1⟩;have B1:=hid (BR.out.trans (hb1.mono BR.out.size));clear hb1)) | (go_at_call 33;((with_reducible refine (cF _ B1.out).mono ?_);rintro e w2 ⟨rfl,hb2⟩;have B2:=hid (B1.out.trans (hb2.mono B1.out.size));have c14:=(LD.out _ B2.out).2;clear hb2)))
      go_ret
      exact ⟨by rw [GG.out];rfl,B2.out⟩
   ·obtain rfl : i = 100:=by omega
    have GG : Hid (fewG 0 100 L = true):=hG.symm.trans rfl
    clear hG
    go_wp2
    go_ret
    exact ⟨by rw [GG.out];simp,BR.out⟩
  ·have i1 : ¬ (i : Int) < (n : Int):=by omega
   have GG : Hid (fewG 0 100 L = true):=by
    have e : L.drop i = []:=List.drop_of_length_le (by omega)
    rw [e] at hG
    unfold Hid
    rw [← hG]
    cases 100 - i <;> rfl
   clear hG
   go_wp2
   go_ret
   exact ⟨by rw [GG.out];simp,BR.out⟩
/-- A disk of a million bytes with what lasts and what doesn't, and a fuse. -/
abbrev dkF (f : Int) (la re : List UInt8) : Dk:=⟨1000000,la,re,f,false,false,[]⟩
abbrev dkA (la re : List UInt8) : Dk:=dkF (-1) la re
/-- The power goes within the Add. -/
abbrev dkT (la re : List UInt8) : Dk:=⟨1000000,la,re,0,true,false,[]⟩
theorem catR_next (xs : List Rc) (i : Nat) (h : i < xs.length) : catR (xs.take (i + 1)) = catR (xs.take i) ++ frameB (rcB xs[i]):=by
 rw [List.take_succ_eq_append_getElem h,catR_app,catR_one]
theorem rcS_get (L : List RE) (i : Nat) (h : i < L.length) : (rcS L)[i]'(by rw [rcS_len];exact h) = rcT L[i].1 L[i].2:=by simp [rcS]
section
variable {g n c : Nat} {a : Option Addr} {L : List RE}
theorem compact_yes {Q : World→Prop} (E : Int) (V : World) (h : RcsAt V a n L) (hF : ∀ z ∈ L,formR (rcT z.1 z.2) = true) (hn : n≤1000) (hnc : n≤c) (hcm : c≤maxLen) (hU : Tabs V)
  (cR : ∀ W a m c,Below V.heap.size V W→BAt W W.heap.size a m (catR (rcS L))→m≤1099511627776→Calls Tryz.prog 71 #[.pointer (some ⟨g,0,none⟩),.slice a m c] W fun e w'=>e = .returned (.int .i64 E)∧Q w') :
  Calls Tryz.prog 32 #[.pointer (some ⟨g,0,none⟩),.slice a n c] V fun e w'=>e = .returned (.int .i64 E)∧Q w':=by
 obtain ⟨i0,hi,hz0,hz1,hz2⟩:=info_parts Tryz.info5
 have hln:=h.len
 have HL:=hid h
 have FF:=hid hF
 have TU : Hid (∀ W,Below V.heap.size V W→Tabs W):=fun W hW=>hU.below hW
 have hcm':=hcm
 unfold maxLen at hcm'
 clear h hF hU
 go_enter Tryz.func32,Tryz.ntmps32
 go_wp2_with (fail)
 go_loopw [5,12] (fun v y wr => ∃ (i m : Nat),y = .int .i64 i∧i≤n∧m≤i * 60008∧PutIn V wr v m (catR ((rcS L).take i))) (fun _ y _=>n - (intOf y).toNat)
 case atStart=>exact ⟨0,0,rfl,Nat.zero_le _,Nat.zero_le _,⟨World.ownsRow_nil _ _ _ _,Below.refl _ _⟩⟩
 case round =>
  obtain ⟨i,m,rfl,hi0,hm,hP⟩:=hrel
  have PI:=hid hP
  obtain ⟨a0,c0,rfl⟩:=hP.form
  clear hP
  by_cases h1 : i < n
  ·have i1 : ((i : Nat) : Int) < (n : Int):=by omega
   have hiL : i < L.length:=by omega
   obtain ⟨b0,off,rfl,hb0,LD0⟩:=HL.out.raw.at_ hiL
   have ld:=(LD0 _ PI.out.bel).1
   have hZ:=HL.out.all _ (List.getElem_mem hiL)
   have eG:=rcS_get L i hiL
   have eN:=catR_next (rcS L) i (by rw [rcS_len];exact hiL)
   rw [eG] at eN
   have hf : formR (rcT L[i].1 L[i].2) = true:=FF.out _ (List.getElem_mem hiL)
   have hmx:=(rcB_max ((formR_iff _).1 hf)).2
   have hfl:=frameB_len (rcB (rcT L[i].1 L[i].2))
   have cW:=fun W (hW : Below V.heap.size V W)=>wFramed_yes L[i].1 L[i].2 W (hZ.1.later hW) hZ.2 (TU.out W hW) hf
   have EN : Hid (catR ((rcS L).take (i + 1)) = catR ((rcS L).take i) ++ frameB (rcB (rcT L[i].1 L[i].2))):=eN
   clear eG eN hZ hf LD0
   generalize L[i] = z at *
   generalize rcB (rcT z.1 z.2) = B at *
   generalize frameB B = F at *
   generalize catR ((rcS L).take i) = C0 at *
   have HM:=hid (made_k wr z.1)
   go_upto_region 5 with (refine wpList_store_k rfl _ _ rfl wr.heap.size z.1 rfl rfl zeroR HM.out.1 ?_)
   have ldX:=HM.out.2.2.ldK
   have PJ:=hid (PI.out.below HM.out.2.1)
   clear HM PI ld
   generalize (wr.alloc (.cells zeroRV 36)).setRow wr.heap.size (rcV z.1) = W3 at *
   go_wp2_with (first | (go_at_call 68;((with_reducible refine (cW _ PJ.out.bel).mono ?_);rintro e w1 ⟨a1,n1,c1,rfl,ho1,hb1⟩;have P1:=hid (PJ.out.below hb1);have hn1:=own_len ho1;have L1:=hid (BAt.of_own ho1);clear ho1 hb1)) | (at_builtin;(refine wpList_append_bytes _ rfl _ _ 34 rfl V.heap.size 5 i0 Tryz.underlying34 hi hz0 hz1 hz2 _ m C0 rfl P1.out.own w1.heap.size a1 n1 F c1 rfl L1.out (by omega) P1.out.bel.size ?_;intro v2 w2 ho2 hg2;have R:=hid (P1.out.next0 ho2 hg2);clear ho2 hg2)))
   go_roundw
   case rel=>exact ⟨i + 1,m + n1,by go_num,h1,by omega,R.out.cast EN.out.symm⟩
   case measure=>simp [intOf];omega
  ·have i1 : ¬ ((i : Nat) : Int) < (n : Int):=by omega
   obtain rfl : i = n:=by omega
   have eT : (rcS L).take i = rcS L:=List.take_of_length_le (by rw [rcS_len];omega)
   have cR2:=cR _ a0 m c0 PI.out.bel (by have:=PI.out.bat;rw [eT] at this;exact this) (by omega)
   clear eT
   go_wp2_with (go_at_call 71;((with_reducible refine cR2.mono ?_);rintro e w3 ⟨rfl,h3⟩;have Q3:=hid h3;clear h3))
   go_ret
   exact ⟨rfl,Q3.out⟩
end
section
variable {g n c : Nat} {a : Option Addr} {L : List RE}
theorem compact_no (j : Nat) (V : World) (h : RcsAt V a n L) (hj : j < L.length) (hF : ∀ i (hi : i < L.length),i < j→formR (rcT L[i].1 L[i].2) = true) (hB : formR (rcT (L[j]'hj).1 (L[j]'hj).2) = false) (hn : n≤1000) (hnc : n≤c) (hcm : c≤maxLen) (hU : Tabs V) :
  Calls Tryz.prog 32 #[.pointer (some ⟨g,0,none⟩),.slice a n c] V fun e w'=>e = .returned (.int .i64 2)∧Below V.heap.size V w':=by
 obtain ⟨i0,hi,hz0,hz1,hz2⟩:=info_parts Tryz.info5
 have hln:=h.len
 have HL:=hid h
 have FF:=hid hF
 have FB:=hid hB
 have TU : Hid (∀ W,Below V.heap.size V W→Tabs W):=fun W hW=>hU.below hW
 have hcm':=hcm
 unfold maxLen at hcm'
 clear h hF hU hB
 go_enter Tryz.func32,Tryz.ntmps32
 go_wp2_with (fail)
 go_loopw [5,12] (fun v y wr => ∃ (i m : Nat),y = .int .i64 i∧i≤j∧m≤i * 60008∧PutIn V wr v m (catR ((rcS L).take i))) (fun _ y _=>n - (intOf y).toNat)
 case atStart=>exact ⟨0,0,rfl,Nat.zero_le _,Nat.zero_le _,⟨World.ownsRow_nil _ _ _ _,Below.refl _ _⟩⟩
 case round =>
  obtain ⟨i,m,rfl,hi0,hm,hP⟩:=hrel
  have PI:=hid hP
  obtain ⟨a0,c0,rfl⟩:=hP.form
  clear hP
  have hin : i < n:=by omega
  have i1 : ((i : Nat) : Int) < (n : Int):=by omega
  by_cases h1 : i < j
  ·have hiL : i < L.length:=by omega
   obtain ⟨b0,off,rfl,hb0,LD0⟩:=HL.out.raw.at_ hiL
   have ld:=(LD0 _ PI.out.bel).1
   have hZ:=HL.out.all _ (List.getElem_mem hiL)
   have eG:=rcS_get L i hiL
   have eN:=catR_next (rcS L) i (by rw [rcS_len];exact hiL)
   rw [eG] at eN
   have hf : formR (rcT L[i].1 L[i].2) = true:=FF.out i hiL h1
   have hmx:=(rcB_max ((formR_iff _).1 hf)).2
   have hfl:=frameB_len (rcB (rcT L[i].1 L[i].2))
   have cW:=fun W (hW : Below V.heap.size V W)=>wFramed_yes L[i].1 L[i].2 W (hZ.1.later hW) hZ.2 (TU.out W hW) hf
   have EN : Hid (catR ((rcS L).take (i + 1)) = catR ((rcS L).take i) ++ frameB (rcB (rcT L[i].1 L[i].2))):=eN
   clear eG eN hZ hf LD0
   generalize L[i] = z at *
   generalize rcB (rcT z.1 z.2) = B at *
   generalize frameB B = F at *
   generalize catR ((rcS L).take i) = C0 at *
   have HM:=hid (made_k wr z.1)
   go_upto_region 5 with (refine wpList_store_k rfl _ _ rfl wr.heap.size z.1 rfl rfl zeroR HM.out.1 ?_)
   have ldX:=HM.out.2.2.ldK
   have PJ:=hid (PI.out.below HM.out.2.1)
   clear HM PI ld
   generalize (wr.alloc (.cells zeroRV 36)).setRow wr.heap.size (rcV z.1) = W3 at *
   go_wp2_with (first | (go_at_call 68;((with_reducible refine (cW _ PJ.out.bel).mono ?_);rintro e w1 ⟨a1,n1,c1,rfl,ho1,hb1⟩;have P1:=hid (PJ.out.below hb1);have hn1:=own_len ho1;have L1:=hid (BAt.of_own ho1);clear ho1 hb1)) | (at_builtin;(refine wpList_append_bytes _ rfl _ _ 34 rfl V.heap.size 5 i0 Tryz.underlying34 hi hz0 hz1 hz2 _ m C0 rfl P1.out.own w1.heap.size a1 n1 F c1 rfl L1.out (by omega) P1.out.bel.size ?_;intro v2 w2 ho2 hg2;have R:=hid (P1.out.next0 ho2 hg2);clear ho2 hg2)))
   go_roundw
   case rel=>exact ⟨i + 1,m + n1,by go_num,h1,by omega,R.out.cast EN.out.symm⟩
   case measure=>simp [intOf];omega
  ·obtain rfl : j = i:=by omega
   have hiL : j < L.length:=hj
   obtain ⟨b0,off,rfl,hb0,LD0⟩:=HL.out.raw.at_ hiL
   have ld:=(LD0 _ PI.out.bel).1
   have hZ:=HL.out.all _ (List.getElem_mem hiL)
   have cW:=fun W (hW : Below V.heap.size V W)=>wFramed_no L[j].1 L[j].2 W (hZ.1.later hW) hZ.2 (TU.out W hW) FB.out
   clear hZ LD0 FB FF
   generalize L[j] = z at *
   have HM:=hid (made_k wr z.1)
   go_upto_region 5 with (refine wpList_store_k rfl _ _ rfl wr.heap.size z.1 rfl rfl zeroR HM.out.1 ?_)
   have ldX:=HM.out.2.2.ldK
   have PJ:=hid (PI.out.below HM.out.2.1)
   clear HM PI ld
   generalize (wr.alloc (.cells zeroRV 36)).setRow wr.heap.size (rcV z.1) = W3 at *
   go_wp2_with ((go_at_call 68;((with_reducible refine (cW _ PJ.out.bel).mono ?_);rintro e w1 ⟨rfl,hb1⟩;have P1:=hid (PJ.out.below hb1);clear hb1)))
   go_ret
   exact ⟨rfl,P1.out.bel⟩
end
/-- The first that isn't formed. -/
theorem first_bad (L : List RE) (h : ¬ ∀ z ∈ L,formR (rcT z.1 z.2) = true) : ∃ j, ∃ hj : j < L.length,(∀ i (hi : i < L.length),i < j→formR (rcT L[i].1 L[i].2) = true)∧formR (rcT (L[j]'hj).1 (L[j]'hj).2) = false:=by
 induction L with
 | nil=>exact absurd (fun z hz=>by cases hz) h
 | cons x r ih =>
  cases hx : formR (rcT x.1 x.2)
  ·exact ⟨0,by simp,fun i hi h=>by omega,hx⟩
  ·obtain ⟨j,hj,h1,h2⟩:=ih fun hr=>h fun z hz=>by
    rcases List.mem_cons.1 hz with rfl | hz
    ·exact hx
    ·exact hr z hz
   refine ⟨j + 1,by simpa using hj,fun i hi h=>?_,h2⟩
   cases i with
   | zero=>exact hx
   | succ i=>exact h1 i (by simpa using hi) (by omega)
section
variable {W w1 w2 V : World} {g : Nat} {d : Dk} {vl vr vh v1 : Value} {own : List Nat} {l : List UInt8}
theorem DkR.setDown (h : DkR W g d vl vr vh) : DkR (W.setCell ⟨g,4,none⟩ (.bool true)) g (downD d) vl vr vh :=
 ⟨h.box.set 4 (.bool true),h.rl.set h.far_box.1 _ _,h.rr.set h.far_box.2.1 _ _,h.rh.set h.far_box.2.2 _ _,h.sz,h.f1,h.f2,h.f3⟩
theorem DkR.setFuse (h : DkR W g d vl vr vh) (n : Int) : DkR (W.setCell ⟨g,3,none⟩ (.int .i64 n)) g { d with fuse:=n } vl vr vh :=
 ⟨h.box.set 3 (.int .i64 n),h.rl.set h.far_box.1 _ _,h.rr.set h.far_box.2.1 _ _,h.rh.set h.far_box.2.2 _ _,h.sz,h.f1,h.f2,h.f3⟩
theorem DkR.box_grown {v : Value} (h : DkR W g d vl vr vh) (hg : W.grownBy w1 v.ownBlock) (hv : v.ownBlock≠some g) : BoxC w1 g #[.int .i64 d.size,vl,vr,.int .i64 d.fuse,.bool d.down,.bool d.torn,vh] 73:=h.box.grown hg (fun e=>hv e.symm)
/-- What does not last is appended to. -/
theorem DkR.appended {k n : Nat} (h : DkR W g d vl vr vh) (ho : w1.ownsRow 0 5 1 v1 (k + n) (bcells d.re ++ bcells l)) (hg : W.grownBy w1 vr.ownBlock) (hat : v1.ownBlock = vr.ownBlock∨v1.ownBlock = some W.heap.size) :
  DkR (w1.setCell ⟨g,2,none⟩ v1) g { d with re:=d.re ++ l } vl v1 vh∧Fr W (w1.setCell ⟨g,2,none⟩ v1) (g :: bk vr):=by
 have hb:=h.box_grown hg h.far_box.2.1
 have ho1 : OwnB w1 v1 (d.re ++ l):=by
  rw [← bcells_app] at ho
  exact OwnB.of_own ho
 have hne : v1.ownBlock≠some g:=ho1.not_box hb (by decide)
 have hl : OwnB w1 vl d.la:=h.rl.fr (Fr.grown hg) fun j hj e=>h.f1 j hj (bk_mem.1 e)
 have hh : OwnB w1 vh d.half:=h.rh.fr (Fr.grown hg) fun j hj e=>h.f3 j (bk_mem.1 e) hj
 refine ⟨⟨hb.set 2 v1,hl.set h.far_box.1 _ _,ho1.set hne _ _,hh.set h.far_box.2.2 _ _,h.sz,(h.f1.symm.grown h.rl hat).symm,h.f2,h.f3.grown h.rh hat⟩,?_⟩
 exact ((Fr.grown hg).wide (fun i hi=>List.mem_cons_of_mem _ hi)).trans (Fr.set w1 g 2 v1) (fun i hi=>.inl (by simp at hi;simp [hi]))
/-- What lasts is appended to, by what does not. -/
theorem DkR.synced {k n : Nat} (h : DkR W g d vl vr vh) (ho : w1.ownsRow 0 5 1 v1 (k + n) (bcells d.la ++ bcells d.re)) (hg : W.grownBy w1 vl.ownBlock) (hat : v1.ownBlock = vl.ownBlock∨v1.ownBlock = some W.heap.size) :
  DkR ((w1.setCell ⟨g,1,none⟩ v1).setCell ⟨g,2,none⟩ (.slice none 0 0)) g { d with la:=d.la ++ d.re,re:=[] } v1 (.slice none 0 0) vh∧Fr W ((w1.setCell ⟨g,1,none⟩ v1).setCell ⟨g,2,none⟩ (.slice none 0 0)) (g :: bk vl):=by
 have hb:=h.box_grown hg h.far_box.1
 have ho1 : OwnB w1 v1 (d.la ++ d.re):=by
  rw [← bcells_app] at ho
  exact OwnB.of_own ho
 have hne : v1.ownBlock≠some g:=ho1.not_box hb (by decide)
 have hh : OwnB w1 vh d.half:=h.rh.fr (Fr.grown hg) fun j hj e=>h.f2 j (bk_mem.1 e) hj
 refine ⟨⟨(hb.set 1 v1).set 2 _,(ho1.set hne _ _).set hne _ _,OwnB.nil _,(hh.set h.far_box.2.2 _ _).set h.far_box.2.2 _ _,h.sz,Far.nil,h.f2.grown h.rh hat,Far.nil'⟩,?_⟩
 exact (((Fr.grown hg).wide (fun i hi=>List.mem_cons_of_mem _ hi)).trans (Fr.set w1 g 1 v1) (fun i hi=>.inl (by simp at hi;simp [hi]))).trans (Fr.set _ g 2 _) (fun i hi=>.inl (by simp at hi;simp [hi]))
theorem DkR.setTorn (h : DkR V g d vl vr vh) (hF : Fresh W V v1 l) (hg : g < W.heap.size) (hv : (∀ j,vl.ownBlock = some j→j < W.heap.size)∧∀ j,vr.ownBlock = some j→j < W.heap.size) : DkR ((V.setCell ⟨g,5,none⟩ (.bool true)).setCell ⟨g,6,none⟩ v1) g { d with torn:=true,half:=l } vl vr v1 :=
 ⟨(h.box.set 5 (.bool true)).set 6 v1,(h.rl.set h.far_box.1 _ _).set h.far_box.1 _ _,(h.rr.set h.far_box.2.1 _ _).set h.far_box.2.1 _ _,((hF.set hg _ _).set hg _ _).own,h.sz,h.f1,fun j hj e=>(by have:=hv.1 j hj;have:=hF.new j e;omega),fun j hj e=>(by have:=hv.2 j hj;have:=hF.new j e;omega)⟩
theorem DkR.setNew (h : DkR V g d vl vr vh) (hF : Fresh W V v1 l) (hg : g < W.heap.size) (hv : ∀ j,vh.ownBlock = some j→j < W.heap.size) : DkR ((V.setCell ⟨g,1,none⟩ v1).setCell ⟨g,2,none⟩ (.slice none 0 0)) g { d with la:=l,re:=[] } v1 (.slice none 0 0) vh :=
 ⟨(h.box.set 1 v1).set 2 _,((hF.set hg _ _).set hg _ _).own,OwnB.nil _,(h.rh.set h.far_box.2.2 _ _).set h.far_box.2.2 _ _,h.sz,Far.nil,fun j hj e=>(by have:=hv j e;have:=hF.new j hj;omega),Far.nil'⟩
theorem Stp.ref {W' : World} {vl' vr' vh' : Value} {d' : Dk} (hF : Fr W W' own) (h' : DkR W' g d' vl' vr' vh') (hg : g ∈ own) (hl : ∀ j,vl'.ownBlock = some j→j ∈ own∨W.heap.size≤j) (hr : ∀ j,vr'.ownBlock = some j→j ∈ own∨W.heap.size≤j) (hh : ∀ j,vh'.ownBlock = some j→j ∈ own∨W.heap.size≤j) :
  Stp (fun V own=>RD V g d' own) W W' own:=by
 refine ⟨_,⟨vl',vr',vh',h',rfl⟩,hF,fun i hi=>?_⟩
 rcases List.mem_cons.1 hi with rfl | hi
 ·exact .inl hg
 ·rcases List.mem_append.1 hi with hi | hi
  ·rcases List.mem_append.1 hi with hi | hi
   ·exact hl i (bk_mem.1 hi)
   ·exact hr i (bk_mem.1 hi)
  ·exact hh i (bk_mem.1 hi)
theorem own_l : ∀ j,vl.ownBlock = some j→j ∈ g :: (bk vl ++ bk vr ++ bk vh):=fun j hj=>List.mem_cons_of_mem _ (List.mem_append_left _ (List.mem_append_left _ (bk_mem.2 hj)))
theorem own_r : ∀ j,vr.ownBlock = some j→j ∈ g :: (bk vl ++ bk vr ++ bk vh):=fun j hj=>List.mem_cons_of_mem _ (List.mem_append_left _ (List.mem_append_right _ (bk_mem.2 hj)))
theorem own_h : ∀ j,vh.ownBlock = some j→j ∈ g :: (bk vl ++ bk vr ++ bk vh):=fun j hj=>List.mem_cons_of_mem _ (List.mem_append_right _ (bk_mem.2 hj))
theorem rgoes_any (h : DkR W g d vl vr vh) (hl : d.fuse < 9223372036854775808) : Calls Tryz.prog 97 #[.pointer (some ⟨g,0,none⟩)] W fun e w'=>e = .returned (.bool (goesB d))∧DkR w' g (goesD d) vl vr vh∧Fr W w' [g]:=by
 obtain ⟨y0,y1,y2,y3,y4,y5,y6⟩:=h.box.seven
 have z3:=h.box.frozen 3
 have z4:=h.box.frozen 4
 by_cases hz : d.fuse = 0
 ·rw [hz] at y3
  have HR : Hid (DkR (W.setCell ⟨g,4,none⟩ (.bool true)) g (goesD d) vl vr vh∧Fr W (W.setCell ⟨g,4,none⟩ (.bool true)) [g]):=⟨by unfold goesD;rw [if_pos hz];exact h.setDown,Fr.set W g 4 _⟩
  have eg : goesB d = true:=decide_eq_true hz
  rw [eg]
  clear h hz eg hl
  go_enter Tryz.func97,Tryz.ntmps97
  go_wp2
  go_ret
  exact ⟨rfl,HR.out⟩
 ·have eg : goesB d = false:=decide_eq_false hz
  have hd0 : (d.fuse == 0) = false:=by simpa using hz
  by_cases hp : 0 < d.fuse
  ·have HR : Hid (DkR (W.setCell ⟨g,3,none⟩ (.int .i64 (d.fuse - 1))) g (goesD d) vl vr vh∧Fr W (W.setCell ⟨g,3,none⟩ (.int .i64 (d.fuse - 1))) [g]):=⟨by unfold goesD;rw [if_neg hz,if_pos hp];exact h.setFuse _,Fr.set W g 3 _⟩
   have hd : decide (d.fuse > 0) = true:=decide_eq_true hp
   rw [eg]
   generalize d.fuse = f at *
   clear h eg hz
   go_enter Tryz.func97,Tryz.ntmps97
   go_wp2
   go_ret
   exact ⟨rfl,HR.out⟩
  ·have hd : decide (d.fuse > 0) = false:=decide_eq_false hp
   have ed : goesD d = d:=by unfold goesD;rw [if_neg hz,if_neg hp]
   have HR : Hid (DkR W g d vl vr vh∧Fr W W [g]):=⟨h,Fr.refl W [g]⟩
   rw [eg,ed]
   generalize d.fuse = f at *
   clear h eg hz ed
   go_enter Tryz.func97,Tryz.ntmps97
   go_wp2
   go_ret
   exact ⟨rfl,HR.out⟩
theorem rbytes_any (h : DkR W g d vl vr vh) (hM : d.la.length + d.re.length≤1099511627776) : Calls Tryz.prog 25 #[.pointer (some ⟨g,0,none⟩)] W (NewB W (d.la ++ d.re)):=by
 obtain ⟨al,nl,cl,rfl,hnl,hol,hbl,hcl,hml⟩:=h.rl.parts
 obtain ⟨ar,nr,cr,rfl,hnr,hor,hbr,hcr,hmr⟩:=h.rr.parts
 obtain ⟨i0,hi,hz0,hz1,hz2⟩:=info_parts Tryz.info5
 obtain ⟨y0,y1,y2,y3,y4,y5,y6⟩:=h.box.seven
 have HH:=hid h
 have L:=hid hbl
 have R:=hid hbr
 have hlr : nl + nr≤1099511627776:=by omega
 clear h hnl hol hbl hnr hor hbr hM
 go_enter Tryz.func25,Tryz.ntmps25
 go_upto_region 3 with (at_builtin;(refine wpList_append_bytes _ rfl _ _ 34 rfl W.heap.size 5 i0 Tryz.underlying34 hi hz0 hz1 hz2 _ 0 [] rfl (World.ownsRow_nil _ _ _ _) W.heap.size al nl d.la cl rfl L.out (by omega) (Nat.le_refl _) ?_;intro v1 w1 ho1 hg1;rw [Nat.zero_add] at ho1;have P1 : Hid (PutIn W w1 v1 nl d.la):=⟨ho1,(Below.refl _ _).grown hg1 (Nat.le_refl _) (fun j hj=>by cases hj)⟩;obtain ⟨a1,c1,rfl,_,_,_⟩:=own_form ho1;have X1:=HH.out.box.below P1.out.2;obtain ⟨x0,x1,x2,x3,x4,x5,x6⟩:=X1.seven;clear X1 ho1 hg1))
 go_wp2_with (at_builtin;(refine wpList_append_bytes _ rfl _ _ 34 rfl W.heap.size 5 i0 Tryz.underlying34 hi hz0 hz1 hz2 _ nl d.la rfl P1.out.1 w1.heap.size ar nr d.re cr rfl ((R.out.below P1.out.2 (Nat.le_refl _)).more P1.out.2.size) (by omega) P1.out.2.size ?_;intro v2 w2 ho2 hg2;have P2:=hid (P1.out.next0 ho2 hg2);clear ho2 hg2))
 go_ret
 exact P2.out.out
end
theorem rnew_any (n : Int) (hn : n < 9223372036854775808) (W : World) : Calls Tryz.prog 21 #[.int .i64 n] W fun e w'=>e = .returned (.pointer (some ⟨W.heap.size,0,none⟩))∧Below W.heap.size W w'∧DkR w' W.heap.size (newD n) (.slice none 0 0) (.slice none 0 0) (.slice none 0 0):=by
 have HR : ∀ m : Int,m = max n 0→Hid (Below W.heap.size W (W.alloc (.cells #[.int .i64 m,.slice none 0 0,.slice none 0 0,.int .i64 (-1),.bool false,.bool false,.slice none 0 0] 73))∧DkR (W.alloc (.cells #[.int .i64 m,.slice none 0 0,.slice none 0 0,.int .i64 (-1),.bool false,.bool false,.slice none 0 0] 73)) W.heap.size (newD n) (.slice none 0 0) (.slice none 0 0) (.slice none 0 0)):=by
  intro m hm
  subst hm
  exact ⟨(Below.refl _ _).alloc (Nat.le_refl _) _,⟨BoxC.new _ _ _,OwnB.nil _,OwnB.nil _,OwnB.nil _,⟨by show 0≤max n 0;omega,by show max n 0 < _;omega⟩,Far.nil,Far.nil,Far.nil⟩⟩
 by_cases h : 0≤n
 ·have hm:=HR n (by omega)
  clear HR
  have hd : decide (n < 0) = false:=decide_eq_false (by omega)
  go_enter Tryz.func21,Tryz.ntmps21
  go_wp2
  go_ret
  exact ⟨rfl,hm.out⟩
 ·have hm:=HR 0 (by omega)
  clear HR
  have hd : decide (n < 0) = true:=decide_eq_true (by omega)
  go_enter Tryz.func21,Tryz.ntmps21
  go_wp2
  go_ret
  exact ⟨rfl,hm.out⟩
theorem OwnB.ats {W : World} {v : Value} {l : List UInt8} {n : Nat} (h : OwnB W v l) (hn : n = l.length) : W.ownsRow 0 5 1 v n (bcells l):=by subst hn;exact h
section
variable {W : World} {g : Nat} {d : Dk} {own : List Nat} {l : List UInt8}
theorem rappend_any {a : Option Addr} {n c : Nat} (h : RD W g d own) (hl : d.fuse < 9223372036854775808) (hM : d.la.length + d.re.length≤1099511627776) (hb : BAt W W.heap.size a n l) (hn : n≤1099511627776) (hG : ∀ b off,a = some ⟨b,off,none⟩→0 < n→b≠g) :
  Calls Tryz.prog 64 #[.pointer (some ⟨g,0,none⟩),.slice a n c] W fun e w'=>e = .returned (.int .i64 (appE d l))∧Stp (fun V own=>RD V g (appD d l) own) W w' own:=by
 have h0:=h
 obtain ⟨vl,vr,vh,hp,rfl⟩:=h
 have HS : Hid (∀ q,Stp (fun V own=>RD V g d own) W (W.drewN q) (g :: (bk vl ++ bk vr ++ bk vh))):=fun q=>Stp.same (h0.below (below_drewN q (Below.refl _ _))) (below_drewN q (Below.refl _ _))
 obtain ⟨y0,y1,y2,y3,y4,y5,y6⟩:=hp.box.seven
 clear h0
 by_cases hd : d.down = true
 ·rw [hd] at y4
  have e1 : appE d l = 8:=by unfold appE;rw [if_pos hd]
  have e2 : appD d l = d:=by unfold appD;rw [if_pos hd]
  rw [e1,e2]
  clear hp e1 e2 hd hl hb hM
  go_enter Tryz.func64,Tryz.ntmps64
  go_wp2
  go_ret
  exact ⟨rfl,HS.out 0⟩
 ·have hd0 : d.down = false:=by simpa using hd
  rw [hd0] at y4
  obtain ⟨al,nl,cl,rfl,hnl,_,_,hcl,hml⟩:=hp.rl.parts
  obtain ⟨ar,nr,cr,rfl,hnr,_,_,hcr,hmr⟩:=hp.rr.parts
  have hlen:=hb.len
  have hlr : nl + nr≤1099511627776:=by omega
  obtain ⟨hs0,hs1⟩:=hp.sz
  have fA : fullA d l = decide ((nl : Int) + (nr : Int) + (n : Int) > d.size):=by
   unfold fullA
   rw [← hlen,← hnl,← hnr]
  by_cases hf : fullA d l = true
  ·have e1 : appE d l = 7:=by unfold appE;rw [if_neg hd,if_pos hf]
   have e2 : appD d l = d:=by unfold appD;rw [if_neg hd,if_pos hf]
   rw [e1,e2]
   rw [hf] at fA
   have fA':=fA.symm
   generalize d.size = s at *
   clear hp e1 e2 hd hd0 hl hM hnl hnr hf hlen fA hb
   go_enter Tryz.func64,Tryz.ntmps64
   go_upto_region 3 with (fail)
   go_quiet (fail)
   go_wp2
   go_ret
   exact ⟨rfl,HS.out _⟩
  ·have hf0 : fullA d l = false:=by simpa using hf
   rw [hf0] at fA
   have fA':=fA.symm
   have HP:=hid hp
   obtain ⟨i0,hi,hz0,hz1,hz2⟩:=info_parts Tryz.info5
   have e2 : appD d l = { goesD d with re:=(goesD d).re ++ l }:=by unfold appD;rw [if_neg hd,if_neg hf,goes_re]
   have NR : Hid (nr = (goesD d).re.length):=by unfold Hid;rw [goes_re];exact hnr
   rw [e2]
   have HB : Hid (∀ V,Fr W V [g]→BAt V V.heap.size a n l):=fun V hF=>hb.moved hF.size fun b off ha hn hlt=>hF.block b hlt (fun e=>hG b off ha hn (by simpa using e))
   clear e2 hnl hnr hlen hb hM
   cases hgz : goesB d with
   | true =>
    have e1 : appE d l = 8:=by unfold appE;rw [if_neg hd,if_neg hf,if_pos hgz]
    rw [e1]
    have cG : ∀ q,Calls Tryz.prog 97 #[.pointer (some ⟨g,0,none⟩)] (W.drewN q) fun e w'=>e = .returned (.bool true)∧DkR w' g (goesD d) (.slice al nl cl) (.slice ar nr cr) vh∧Fr (W.drewN q) w' [g]:=fun q=>hgz ▸ rgoes_any (hp.below (below_drewN q (Below.refl _ _))) hl
    clear hp e1 hd hd0 hf hf0 fA hl
    go_enter Tryz.func64,Tryz.ntmps64
    go_upto_region 3 with (fail)
    go_quiet (fail)
    go_wp2_with (first
     | (go_at_call 97;((with_reducible refine (cG _).mono ?_);rintro e w1 ⟨rfl,h1,hf1⟩;have H1:=hid h1;have F1 : Hid (Fr W w1 [g]):=⟨hf1.os,hf1.tape,hf1.output,hf1.size,hf1.block⟩;obtain ⟨x0,x1,x2,x3,x4,x5,x6⟩:=h1.box.seven;clear h1 hf1))
     | (at_builtin;(refine wpList_append_row _ rfl _ _ 34 rfl 0 5 i0 _ 1 Tryz.underlying34 hi hz0 hz1 hz2 rfl (.slice ar nr cr) nr (bcells (goesD d).re) rfl (H1.out.rr.ats NR.out) a n c (bcells l) rfl (HB.out _ F1.out).cells (bcells_one l) (by unfold maxLen;omega) (by omega) (Nat.zero_le _) ?_;intro v2 w2 ho hg hat;obtain ⟨a2,c2,rfl,_,_,_⟩:=own_form ho;have X2:=hid (H1.out.appended ho hg hat);have T2:=hid hat;have bx:=H1.out.box_grown hg H1.out.far_box.2.1;have z2:=bx.frozen 2;obtain ⟨u0,u1,u2,u3,u4,u5,u6⟩:=bx.seven;clear bx ho hg hat)))
    go_ret
    refine ⟨rfl,Stp.ref (F1.out.wide (fun i hi=>by simp at hi;simp [hi]) |>.trans X2.out.2 (fun i hi=>?_)) X2.out.1 (List.mem_cons_self ..) (fun j hj=>.inl (own_l j hj)) (fun j hj=>?_) (fun j hj=>.inl (own_h j hj))⟩
    ·rcases List.mem_cons.1 hi with rfl | hi
     ·exact .inl (List.mem_cons_self ..)
     ·exact .inl (own_r i (bk_mem.1 hi))
    ·rcases T2.out with e | e
     ·exact .inl (own_r j (e ▸ hj))
     ·rw [hj] at e;injection e with e;exact .inr (by have:=F1.out.size;omega)
   | false =>
    have e1 : appE d l = 0:=by unfold appE;rw [if_neg hd,if_neg hf,if_neg (by rw [hgz];exact Bool.false_ne_true)]
    rw [e1]
    have cG : ∀ q,Calls Tryz.prog 97 #[.pointer (some ⟨g,0,none⟩)] (W.drewN q) fun e w'=>e = .returned (.bool false)∧DkR w' g (goesD d) (.slice al nl cl) (.slice ar nr cr) vh∧Fr (W.drewN q) w' [g]:=fun q=>hgz ▸ rgoes_any (hp.below (below_drewN q (Below.refl _ _))) hl
    clear hp e1 hd hd0 hf hf0 fA hl
    go_enter Tryz.func64,Tryz.ntmps64
    go_upto_region 3 with (fail)
    go_quiet (fail)
    go_wp2_with (first
     | (go_at_call 97;((with_reducible refine (cG _).mono ?_);rintro e w1 ⟨rfl,h1,hf1⟩;have H1:=hid h1;have F1 : Hid (Fr W w1 [g]):=⟨hf1.os,hf1.tape,hf1.output,hf1.size,hf1.block⟩;obtain ⟨x0,x1,x2,x3,x4,x5,x6⟩:=h1.box.seven;clear h1 hf1))
     | (at_builtin;(refine wpList_append_row _ rfl _ _ 34 rfl 0 5 i0 _ 1 Tryz.underlying34 hi hz0 hz1 hz2 rfl (.slice ar nr cr) nr (bcells (goesD d).re) rfl (H1.out.rr.ats NR.out) a n c (bcells l) rfl (HB.out _ F1.out).cells (bcells_one l) (by unfold maxLen;omega) (by omega) (Nat.zero_le _) ?_;intro v2 w2 ho hg hat;obtain ⟨a2,c2,rfl,_,_,_⟩:=own_form ho;have X2:=hid (H1.out.appended ho hg hat);have T2:=hid hat;have bx:=H1.out.box_grown hg H1.out.far_box.2.1;have z2:=bx.frozen 2;obtain ⟨u0,u1,u2,u3,u4,u5,u6⟩:=bx.seven;clear bx ho hg hat)))
    go_ret
    refine ⟨rfl,Stp.ref (F1.out.wide (fun i hi=>by simp at hi;simp [hi]) |>.trans X2.out.2 (fun i hi=>?_)) X2.out.1 (List.mem_cons_self ..) (fun j hj=>.inl (own_l j hj)) (fun j hj=>?_) (fun j hj=>.inl (own_h j hj))⟩
    ·rcases List.mem_cons.1 hi with rfl | hi
     ·exact .inl (List.mem_cons_self ..)
     ·exact .inl (own_r i (bk_mem.1 hi))
    ·rcases T2.out with e | e
     ·exact .inl (own_r j (e ▸ hj))
     ·rw [hj] at e;injection e with e;exact .inr (by have:=F1.out.size;omega)
end
section
variable {W : World} {g : Nat} {d : Dk} {own : List Nat} {l : List UInt8}
theorem DkR.sync_close {w1 w2 : World} {vl vr vh v1 : Value} {d' : Dk} (F1 : Fr W w1 [g]) (X : DkR w2 g d' v1 (.slice none 0 0) vh) (F2 : Fr w1.drew w2 (g :: bk vl)) (hat : v1.ownBlock = vl.ownBlock∨v1.ownBlock = some w1.drew.heap.size) :
  Stp (fun V own=>RD V g d' own) W w2 (g :: (bk vl ++ bk vr ++ bk vh)):=by
 have F2' : Fr w1 w2 (g :: bk vl):=⟨F2.os,F2.tape,F2.output,F2.size,F2.block⟩
 refine Stp.ref ((F1.wide (fun i hi=>by simp at hi;simp [hi])).trans F2' (fun i hi=>?_)) X (List.mem_cons_self ..) (fun j hj=>?_) (fun j hj=>by cases hj) (fun j hj=>.inl (own_h j hj))
 ·rcases List.mem_cons.1 hi with rfl | hi
  ·exact .inl (List.mem_cons_self ..)
  ·exact .inl (own_l i (bk_mem.1 hi))
 ·rcases hat with e | e
  ·exact .inl (own_l j (e ▸ hj))
  ·rw [hj] at e;injection e with e
   have h1:=F1.size
   have h2 : w1.drew.heap.size = w1.heap.size:=rfl
   exact .inr (by omega)
theorem rsync_any (h : RD W g d own) (hl : d.fuse < 9223372036854775808) (hM : d.la.length + d.re.length≤1099511627776) :
  Calls Tryz.prog 57 #[.pointer (some ⟨g,0,none⟩)] W fun e w'=>e = .returned (.int .i64 (synE d))∧Stp (fun V own=>RD V g (synD d) own) W w' own:=by
 have h0:=h
 obtain ⟨vl,vr,vh,hp,rfl⟩:=h
 obtain ⟨y0,y1,y2,y3,y4,y5,y6⟩:=hp.box.seven
 by_cases hd : d.down = true
 ·have HS : Hid (Stp (fun V own=>RD V g d own) W W (g :: (bk vl ++ bk vr ++ bk vh))):=Stp.same h0 (Below.refl _ _)
  rw [hd] at y4
  have e1 : synE d = 8:=by unfold synE;rw [if_pos hd]
  have e2 : synD d = d:=by unfold synD;rw [if_pos hd]
  rw [e1,e2]
  clear hp e1 e2 hd hl h0
  go_enter Tryz.func57,Tryz.ntmps57
  go_wp2
  go_ret
  exact ⟨rfl,HS.out⟩
 ·have hd0 : d.down = false:=by simpa using hd
  rw [hd0] at y4
  have cG:=rgoes_any hp hl
  by_cases hz : goesB d = true
  ·rw [hz] at cG
   have e1 : synE d = 8:=by unfold synE;rw [if_neg hd,if_pos hz]
   have e2 : synD d = goesD d:=by unfold synD;rw [if_neg hd,if_pos hz]
   rw [e1,e2]
   clear hp e1 e2 hd hd0 hz h0
   go_enter Tryz.func57,Tryz.ntmps57
   go_wp2_with (go_at_call 97;((with_reducible refine cG.mono ?_);rintro e w1 ⟨rfl,h1,hf1⟩;have H1:=hid h1;have F1:=hid hf1;clear h1 hf1))
   go_ret
   exact ⟨rfl,Stp.ref (F1.out.wide (fun i hi=>by simp at hi;simp [hi])) H1.out (List.mem_cons_self ..) (fun j hj=>.inl (own_l j hj)) (fun j hj=>.inl (own_r j hj)) (fun j hj=>.inl (own_h j hj))⟩
  ·have hz0 : goesB d = false:=by simpa using hz
   rw [hz0] at cG
   have e1 : synE d = 0:=by unfold synE;rw [if_neg hd,if_neg hz]
   have e2 : synD d = { goesD d with la:=(goesD d).la ++ (goesD d).re,re:=[] }:=by unfold synD;rw [if_neg hd,if_neg hz,goes_la,goes_re]
   rw [e1,e2]
   obtain ⟨al,nl,cl,rfl,hnl,_,_,hcl,hml⟩:=hp.rl.parts
   obtain ⟨ar,nr,cr,rfl,hnr,_,_,hcr,hmr⟩:=hp.rr.parts
   obtain ⟨i0,hi,hz0,hz1,hz2⟩:=info_parts Tryz.info5
   have NL : Hid (nl = (goesD d).la.length):=by unfold Hid;rw [goes_la];exact hnl
   have NR : Hid (nr = (goesD d).re.length):=by unfold Hid;rw [goes_re];exact hnr
   have hlr : nl + nr≤1099511627776:=by omega
   clear hp e1 e2 hd hd0 hz h0 hnl hnr hM
   go_enter Tryz.func57,Tryz.ntmps57
   go_upto_region 3 with (go_at_call 97;((with_reducible refine cG.mono ?_);rintro e w1 ⟨rfl,h1,hf1⟩;have H1:=hid h1;have F1:=hid hf1;have s0:=h1.box.seven;obtain ⟨x0,x1,x2,x3,x4,x5,x6⟩:=h1.box.seven;clear h1 hf1))
   have D1 : Hid (DkR w1.drew g (goesD d) (.slice al nl cl) (.slice ar nr cr) vh):=H1.out.below (below_drewN 1 (Below.refl _ _))
   obtain ⟨t0,t1,t2,t3,t4,t5,t6⟩:=D1.out.box.seven
   go_region_law (first | (refine step_append_row1 _ rfl _ _ 34 rfl 0 5 i0 _ 1 Tryz.underlying34 hi hz0 hz1 hz2 rfl (.slice al nl cl) nl (bcells (goesD d).la) rfl (D1.out.rl.ats NL.out) ar nr cr (bcells (goesD d).re) rfl (D1.out.rr.bat NR.out).cells (bcells_one _) (by unfold maxLen;omega) (by omega) (Nat.zero_le _) ?_;intro v2 w2 ho hg hat;obtain ⟨a2,c2,rfl,_,_,_⟩:=own_form ho;have X2:=hid (D1.out.synced ho hg hat);have T2:=hid hat;have bx:=D1.out.box_grown hg D1.out.far_box.1;have z1:=bx.frozen 1;have z2:=bx.frozen 2;obtain ⟨u0,u1,u2,u3,u4,u5,u6⟩:=bx.seven;clear bx ho hg hat))
   all_goals (try go_wp2)
   all_goals (go_ret;exact ⟨rfl,DkR.sync_close F1.out X2.out.1 X2.out.2 T2.out⟩)
end
end Go.Proofs.YtcfmifongbapkaaGreatDoor
