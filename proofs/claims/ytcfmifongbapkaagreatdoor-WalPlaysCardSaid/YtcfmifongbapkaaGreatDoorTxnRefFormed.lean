/- Contract of the document's Formed of transactions. Conditions: the lists lie in memory. -/
import Derived.Test.YtcfmifongbapkaaGreatDoorRM
import Derived.Test.YtcfmifongbapkaaGreatDoorRF
import Derived.Deep.RegionHeld3
namespace Go.Proofs.YtcfmifongbapkaaGreatDoor
open Go.RowKit
open Go.Lib (hid)
set_option linter.unusedVariables false
theorem form_keys (i : IdN) (rs : List RdM) (ws : List WrM) (h : riseB (txt (keysM rs)) = false∨riseB (txt (keysV ws)) = false∨valsB ws = false) : formT formedB (txT i rs ws) = false:=by
 by_cases hi : idB i = true
 ·by_cases h1 : rs.length≤6
  ·by_cases h2 : ws.length≤6
   ·by_cases h3 : rs.length = 0∧ws.length = 0
    ·exact form_len i rs ws (.inr (.inr (.inr h3)))
    ·rw [form_parts i rs ws hi h1 h2 h3]
     rcases h with h | h | h <;> rw [h] <;> simp
   ·exact form_len i rs ws (.inr (.inr (.inl (by omega))))
  ·exact form_len i rs ws (.inr (.inl (by omega)))
 ·exact form_len i rs ws (.inl (by simpa using hi))
theorem keysM_get (rs : List RdM) (k : Nat) (h : k < rs.length) : (txt (keysM rs))[k]'(by rw [txt_len,keysM_len];exact h) = rs[k].1.data.toList:=by
 simp [txt,keysM]
theorem keysV_get (ws : List WrM) (k : Nat) (h : k < ws.length) : (txt (keysV ws))[k]'(by rw [txt_len,keysV_len];exact h) = ws[k].key.data.toList:=by
 simp [txt,keysV]
set_option maxRecDepth 100000 in
set_option maxHeartbeats 4000000 in
theorem rFormedT_any (s q : Int) (a : Option Addr) (n c : Nat) (b : Option Addr) (m d : Nat) (rs : List RdM) (ws : List WrM) (w : World) (h : TxAt w a n b m rs ws) :
  Calls Tryz.prog 94 #[.agg (txV s q a n c b m d)] w (Says w (formT formedB (txT (s,q) rs ws))):=by
 have H0:=hid ((Boxs.start w).more (txV s q a n c b m d) 30)
 have HT:=hid h
 have hl:=h.lenR
 have hk:=h.lenW
 have hsM : (txt (keysM rs)).length = rs.length:=by rw [txt_len,keysM_len]
 have hsV : (txt (keysV ws)).length = ws.length:=by rw [txt_len,keysV_len]
 have cI:=fun W=>rId_any s q W
 obtain ⟨x0,x1,x2,x3⟩:=(H0.out.get 0 _ _ _ rfl).four
 clear h
 cases hI : idB (s,q)
 ·rw [hI] at cI
  have Q:=hid (form_len (s,q) rs ws (.inl hI))
  clear hI
  go_enter Tryz.func94,Tryz.ntmps94
  go_wp2_with (go_at_call 93;((with_reducible refine (cI _).mono ?_);rintro e w1 ⟨rfl,hb1⟩;have H1:=hid (H0.out.below hb1)))
  go_ret
  exact ⟨by rw [Q.out];rfl,H1.out.bel⟩
 rw [hI] at cI
 by_cases hn : 6 < n
 ·have Q:=hid (form_len (s,q) rs ws (.inr (.inl (by omega))))
  have d1 : decide ((6 : Int) < (n : Int)) = true:=by simp;omega
  clear hI
  go_enter Tryz.func94,Tryz.ntmps94
  go_wp2_with (go_at_call 93;((with_reducible refine (cI _).mono ?_);rintro e w1 ⟨rfl,hb1⟩;have H1:=hid (H0.out.below hb1);(clear x0 x1 x2 x3);obtain ⟨x0,x1,x2,x3⟩:=(H1.out.get 0 _ _ _ rfl).four))
  go_ret
  exact ⟨by rw [Q.out];rfl,H1.out.bel⟩
 have d1 : decide ((6 : Int) < (n : Int)) = false:=by simp;omega
 by_cases hm : 6 < m
 ·have Q:=hid (form_len (s,q) rs ws (.inr (.inr (.inl (by omega)))))
  have d2 : decide ((6 : Int) < (m : Int)) = true:=by simp;omega
  clear hI
  go_enter Tryz.func94,Tryz.ntmps94
  go_wp2_with (go_at_call 93;((with_reducible refine (cI _).mono ?_);rintro e w1 ⟨rfl,hb1⟩;have H1:=hid (H0.out.below hb1);(clear x0 x1 x2 x3);obtain ⟨x0,x1,x2,x3⟩:=(H1.out.get 0 _ _ _ rfl).four))
  go_ret
  exact ⟨by rw [Q.out];rfl,H1.out.bel⟩
 have d2 : decide ((6 : Int) < (m : Int)) = false:=by simp;omega
 by_cases h0 : n = 0∧m = 0
 ·have Q:=hid (form_len (s,q) rs ws (.inr (.inr (.inr (by omega)))))
  obtain ⟨rfl,rfl⟩:=h0
  clear hI
  go_enter Tryz.func94,Tryz.ntmps94
  go_wp2_with (go_at_call 93;((with_reducible refine (cI _).mono ?_);rintro e w1 ⟨rfl,hb1⟩;have H1:=hid (H0.out.below hb1);(clear x0 x1 x2 x3);obtain ⟨x0,x1,x2,x3⟩:=(H1.out.get 0 _ _ _ rfl).four))
  go_ret
  exact ⟨by rw [Q.out];rfl,H1.out.bel⟩
 have HP:=hid (form_parts (s,q) rs ws hI (by omega) (by omega) (by omega))
 have HK:=hid (form_keys (s,q) rs ws)
 have HB:=hid (keysM_ok HT.out.okR)
 have HB':=hid (keysV_ok HT.out.okW)
 clear hI
 have HTEST : Hid ((((n : Int) == 0) = false)∨(((n : Int) == 0) = true∧((m : Int) == 0) = false)):=by
  unfold Hid
  rcases Nat.eq_zero_or_pos n with e | e
  ·exact .inr ⟨by simp;omega,by simp;omega⟩
  ·exact .inl (by simp;omega)
 have HGO : Hid (∀ W,Boxs w W [(w.heap.size,txV s q a n c b m d,30)]→True):=fun _ _=>trivial
 rcases HTEST.out with d3 | ⟨d3,d4⟩
 ·clear HTEST HGO
  go_enter Tryz.func94,Tryz.ntmps94
  go_wp2_with (go_at_call 93;((with_reducible refine (cI _).mono ?_);rintro e w1 ⟨rfl,hb1⟩;have H1:=hid (H0.out.below hb1);(clear x0 x1 x2 x3);obtain ⟨x0,x1,x2,x3⟩:=(H1.out.get 0 _ _ _ rfl).four))
  go_loopw [3] (fun i wr => ∃ k : Nat,k≤n∧i = .int .i64 k∧Hid (RiseP (txt (keysM rs)) k)∧Boxs w wr [(w.heap.size,txV s q a n c b m d,30)]) (fun i _=>n - (intOf i).toNat)
  case atStart=>exact ⟨0,Nat.zero_le _,rfl,RiseP.start _,H1.out⟩
  case round =>
   obtain ⟨k,hk3,rfl,HR,hX⟩:=hrel
   have HX:=hid hX
   clear hX H1 H0 hb1 x0 x1 x2 x3
   obtain ⟨x0,x1,x2,x3⟩:=(HX.out.get 0 _ _ _ rfl).four
   by_cases hlt : k < n
   ·have hk1 : k < rs.length:=by omega
    have hk2 : k < (txt (keysM rs)).length:=by omega
    have cK:=fun W=>refKey_any rs[k].1 W (HB.out _ (List.mem_map.2 ⟨_,List.getElem_mem hk1,rfl⟩))
    have hbad : keyB rs[k].1.data.toList = false→Hid (formT formedB (txT (s,q) rs ws) = false):=fun e=>HK.out (.inl (rise_key _ k hk2 (by rw [keysM_get rs k hk1];exact e)))
    obtain ⟨b0,off,rfl,hb0,z0,z1⟩:=HT.out.rds.at_ (i:=k) hk1
    replace z0:=(HX.out.bel.cell (p:=⟨b0,off + k * 2,none⟩) hb0).trans z0
    replace z1:=(HX.out.bel.cell (p:=⟨b0,off + k * 2 + 1,none⟩) hb0).trans z1
    have i1 : (k : Int) < (n : Int):=by omega
    cases hz : keyB rs[k].1.data.toList
    ·rw [hz] at cK
     have Q:=hbad hz
     clear hbad hz HR
     generalize rs[k] = x at *
     go_upto_region 6 with (fail)
     go_quiet ((go_at_call 122;exact quiet_same (cK _)))
     go_wp2
     go_ret
     exact ⟨by rw [Q.out];rfl,(HX.out.drewN _).bel⟩
    ·rw [hz] at cK
     clear hbad
     cases k with
     | zero =>
      have Q:=hid (RiseP.first (txt (keysM rs)) hk2 (by rw [keysM_get rs 0 hk1];exact hz))
      rw [Nat.zero_mul,Nat.add_zero] at z0 z1
      clear hz HR
      have i2 : (0 : Int) < (n : Int):=by omega
      generalize rs[0] = x at *
      go_upto_region 6 with (fail)
      go_quiet ((go_at_call 122;exact quiet_same (cK _)))
      go_wp2
      go_roundw
      case rel=>exact ⟨0 + 1,by omega,by go_num,Q,HX.out.drewN _⟩
      case measure=>simp [intOf];omega
     | succ p =>
      have hp1 : p < rs.length:=by omega
      have hgood : leB rs[p + 1].1.data.toList rs[p].1.data.toList = false→Hid (RiseP (txt (keysM rs)) (p + 1 + 1)):=fun e=>HR.out.next hk2 (by rw [keysM_get rs (p + 1) hk1];exact hz) (by rw [keysM_get rs (p + 1) hk1,keysM_get rs p hp1];exact e)
      have hbad : leB rs[p + 1].1.data.toList rs[p].1.data.toList = true→Hid (formT formedB (txT (s,q) rs ws) = false):=fun e=>HK.out (.inl (rise_adj _ p hk2 (by rw [keysM_get rs (p + 1) hk1,keysM_get rs p hp1];exact e)))
      obtain ⟨b1,off1,e1,_,y0,_⟩:=HT.out.rds.at_ (i:=p) hp1
      injection e1 with e1
      injection e1 with e1 e2
      subst e1;subst e2
      replace y0:=(HX.out.bel.cell (p:=⟨b0,off + p * 2,none⟩) hb0).trans y0
      clear hz HR
      generalize rs[p + 1] = y at *
      generalize rs[p] = x at *
      obtain ⟨y,yv⟩:=y
      obtain ⟨x,xv⟩:=x
      have hE:=leS y x
      have hw : IntKind.i64.wrap (p : Int) = p:=by rw [IntKind.wrap_i64];omega
      have j1 : p < n:=by omega
      have j2 : (p : Int) < (n : Int):=by omega
      have j3 : (p : Int) + 1 < (n : Int):=by omega
      have j4 : ((p : Int) + 1).toNat = p + 1:=by omega
      have j5 : (0 : Int)≤(p : Int) + 1:=by omega
      have j6 : decide ((0 : Int) < (p : Int) + 1) = true:=decide_eq_true (by omega)
      cases hz : leB y.data.toList x.data.toList
      ·rw [hz] at hE
       have Q:=hgood hz
       clear hbad hgood hz
       go_upto_region 6 with (fail)
       go_quiet ((go_at_call 122;exact quiet_same (cK _)))
       go_wp2
       go_roundw
       case rel=>exact ⟨p + 1 + 1,by omega,by go_num,Q,HX.out.drewN _⟩
       case measure=>simp [intOf];omega
      ·rw [hz] at hE
       have Q:=hbad hz
       clear hbad hgood hz
       go_upto_region 6 with (fail)
       go_quiet ((go_at_call 122;exact quiet_same (cK _)))
       go_wp2
       go_ret
       exact ⟨by rw [Q.out];rfl,(HX.out.drewN _).bel⟩
   ·have QR:=hid (HR.out.done (by omega))
    clear HR
    go_wp2
    go_loopw [4] (fun i wr => ∃ k : Nat,k≤m∧i = .int .i64 k∧Hid (RiseP (txt (keysV ws)) k)∧Hid ((ws.take k).all (fun x=>formedB (valM x)) = true)∧Boxs w wr [(w.heap.size,txV s q a n c b m d,30)]) (fun i _=>m - (intOf i).toNat)
    case atStart=>exact ⟨0,Nat.zero_le _,rfl,RiseP.start _,rfl,HX.out⟩
    case round =>
     obtain ⟨k,hk3,rfl,HR,HV,hX⟩:=hrel
     clear HX x0 x1 x2 x3
     have HX:=hid hX
     clear hX
     by_cases hlt : k < m
     ·have hk1 : k < ws.length:=by omega
      have hk2 : k < (txt (keysV ws)).length:=by omega
      have cK:=fun W=>refKey_any ws[k].key W (HB'.out _ (List.mem_map.2 ⟨_,List.getElem_mem hk1,rfl⟩))
      have hO:=HT.out.okW _ (List.getElem_mem hk1)
      have cF:=fun W=>refFormed_any ws[k].k ws[k].b ws[k].t W hO.2.1 hO.2.2
      have hbad : keyB ws[k].key.data.toList = false→Hid (formT formedB (txT (s,q) rs ws) = false):=fun e=>HK.out (.inr (.inl (rise_key _ k hk2 (by rw [keysV_get ws k hk1];exact e))))
      have hbadV : formedB ⟨ws[k].k,ws[k].b,ws[k].t.data.toList⟩ = false→Hid (formT formedB (txT (s,q) rs ws) = false):=fun e=>HK.out (.inr (.inr (all_bad (fun x=>formedB (valM x)) ws k hk1 e)))
      have hgoodV : formedB ⟨ws[k].k,ws[k].b,ws[k].t.data.toList⟩ = true→Hid ((ws.take (k + 1)).all (fun x=>formedB (valM x)) = true):=fun e=>all_next (fun x=>formedB (valM x)) ws k hk1 HV.out e
      obtain ⟨b0,off,rfl,hb0,z0,z1,z2,z3⟩:=HT.out.wrs.at_ (i:=k) hk1
      have HS : Hid (∀ W,Boxs w W [(w.heap.size,txV s q a n c (some ⟨b0,off,none⟩) m d,30)]→W.cell? ⟨w.heap.size,3,none⟩ = some (.slice (some ⟨b0,off,none⟩) m d)∧W.cell? ⟨b0,off + k * 4,none⟩ = some (.string ws[k].key)∧W.cell? ⟨b0,off + k * 4 + 1,none⟩ = some (.int .i64 ws[k].k)∧W.cell? ⟨b0,off + k * 4 + 2,none⟩ = some (.int .u64 ((ws[k].b : Nat) : Int))∧W.cell? ⟨b0,off + k * 4 + 3,none⟩ = some (.string ws[k].t)):=fun W hW=>⟨(hW.get 0 _ _ _ rfl).cell 3 _ rfl,(hW.bel.cell (p:=⟨b0,off + k * 4,none⟩) hb0).trans z0,(hW.bel.cell (p:=⟨b0,off + k * 4 + 1,none⟩) hb0).trans z1,(hW.bel.cell (p:=⟨b0,off + k * 4 + 2,none⟩) hb0).trans z2,(hW.bel.cell (p:=⟨b0,off + k * 4 + 3,none⟩) hb0).trans z3⟩
      clear z0 z1 z2 z3 hO
      have i1 : (k : Int) < (m : Int):=by omega
      obtain ⟨x3,z0,z1,z2,z3⟩:=HS.out _ HX.out
      cases hz : keyB ws[k].key.data.toList
      ·rw [hz] at cK
       have Q:=hbad hz
       clear hbad hbadV hgoodV hz HR HV HS cF
       generalize ws[k] = x at *
       go_upto_region 11 with (fail)
       go_quiet ((go_at_call 122;exact quiet_same (cK _)))
       go_wp2
       go_ret
       exact ⟨by rw [Q.out];rfl,(HX.out.drewN _).bel⟩
      ·rw [hz] at cK
       clear hbad
       have HZ:=hid hz
       clear hz
       cases hz : formedB ⟨ws[k].k,ws[k].b,ws[k].t.data.toList⟩
       ·rw [hz] at cF
        have Q:=hbadV hz
        clear hbadV hgoodV hz HR HV HZ
        generalize ws[k] = x at *
        obtain ⟨xk,xa,xb,xt⟩:=x
        go_upto_region 11 with (fail)
        have s0:=HS.out _ HX.out
        refine wp_region_held_drew (S:=(fun w'=>w'.cell? ⟨w.heap.size,3,none⟩ = some (.slice (some ⟨b0,off,none⟩) m d)∧w'.cell? ⟨b0,off + k * 4,none⟩ = some (.string xk)∧w'.cell? ⟨b0,off + k * 4 + 1,none⟩ = some (.int .i64 xa)∧w'.cell? ⟨b0,off + k * 4 + 2,none⟩ = some (.int .u64 ((xb : Nat) : Int))∧w'.cell? ⟨b0,off + k * 4 + 3,none⟩ = some (.string xt))) (by kernel_rfl) ?_ (fun hHeld=>?_)
        ·(try dsimp only);first | exact s0 | exact s1
        refine wpAnyH_take (i:=0) (v:=?_) rfl (by kernel_rfl) (by kernel_rfl) (by kernel_rfl) (fun _ _ _ h=>h) (Or.inl ⟨by rfl,?_⟩) (by assumption) ?_
        rotate_left 1
        ·intro w hSw;(try dsimp only at hSw);go_simp <;> with_reducible rfl
        try simp only [List.getElem_toArray,List.getElem_cons_zero,Act.put,List.setIfInBounds_toArray,List.set_cons_zero,List.set_cons_succ]
        refine wpAnyH_take (i:=1) (v:=?_) rfl (by kernel_rfl) (by kernel_rfl) (by kernel_rfl) (fun _ _ _ h=>h) (Or.inl ⟨by rfl,?_⟩) (by assumption) ?_
        rotate_left 1
        ·intro w hSw;(try dsimp only at hSw);go_simp <;> with_reducible rfl
        try simp only [List.getElem_toArray,List.getElem_cons_zero,List.getElem_cons_succ,Act.put,List.setIfInBounds_toArray,List.set_cons_zero,List.set_cons_succ]
        refine wpAnyH_take (i:=2) (v:=?_) rfl (by kernel_rfl) (by kernel_rfl) (by kernel_rfl) (fun _ _ _ h=>h) (Or.inl ⟨by rfl,?_⟩) (by assumption) ?_
        rotate_left 1
        ·intro w hSw;(try dsimp only at hSw);go_simp <;> with_reducible rfl
        try simp only [List.getElem_toArray,List.getElem_cons_zero,List.getElem_cons_succ,Act.put,List.setIfInBounds_toArray,List.set_cons_zero,List.set_cons_succ]
        refine wpAnyH_take (i:=3) (v:=?_) rfl (by kernel_rfl) (by kernel_rfl) (by kernel_rfl) (fun _ _ _ h=>h) (Or.inl ⟨by rfl,?_⟩) (by assumption) ?_
        rotate_left 1
        ·intro w hSw;(try dsimp only at hSw);go_simp <;> with_reducible rfl
        try simp only [List.getElem_toArray,List.getElem_cons_zero,List.getElem_cons_succ,Act.put,List.setIfInBounds_toArray,List.set_cons_zero,List.set_cons_succ]
        refine wpAnyH_take (i:=4) (v:=?_) rfl (by kernel_rfl) (by kernel_rfl) (by kernel_rfl) (fun _ _ _ h=>h) (Or.inl ⟨by rfl,?_⟩) (by assumption) ?_
        rotate_left 1
        ·intro w hSw;(try dsimp only at hSw);go_simp <;> with_reducible rfl
        try simp only [List.getElem_toArray,List.getElem_cons_zero,List.getElem_cons_succ,Act.put,List.setIfInBounds_toArray,List.set_cons_zero,List.set_cons_succ]
        refine wpAnyH_take (i:=5) (v:=?_) rfl (by kernel_rfl) (by kernel_rfl) (by kernel_rfl) (fun _ _ _ h=>h) (Or.inl ⟨by rfl,?_⟩) (by assumption) ?_
        rotate_left 1
        ·intro w hSw;(try dsimp only at hSw);go_simp <;> with_reducible rfl
        try simp only [List.getElem_toArray,List.getElem_cons_zero,List.getElem_cons_succ,Act.put,List.setIfInBounds_toArray,List.set_cons_zero,List.set_cons_succ]
        refine wpAnyH_ready (rs:=[6]) (by kernel_rfl) (by simp) ?_
        refine AllReadyH.cons rfl (fun K hK=>?_) AllReadyH.nil
        go_simp
        go_at_call 122;((with_reducible refine (cK _).mono ?_);rintro e w4 ⟨rfl,rfl⟩)
        refine hK.out _ _ ?_ (fun hHeld2=>?_)
        ·(try dsimp only);first | exact s0 | exact s1
        clear hK K hHeld
        have hHeld:=hHeld2
        clear hHeld2
        try simp only [List.getElem_toArray,List.getElem_cons_zero,List.getElem_cons_succ,Act.put,List.setIfInBounds_toArray,List.set_cons_zero,List.set_cons_succ]
        refine wpAnyH_take (i:=7) (v:=?_) rfl (by kernel_rfl) (by kernel_rfl) (by kernel_rfl) (fun _ _ _ h=>h) (Or.inl ⟨by rfl,?_⟩) (by assumption) ?_
        rotate_left 1
        ·intro w hSw;(try dsimp only at hSw);go_simp <;> with_reducible rfl
        try simp only [List.getElem_toArray,List.getElem_cons_zero,List.getElem_cons_succ,Act.put,List.setIfInBounds_toArray,List.set_cons_zero,List.set_cons_succ]
        refine wpAnyH_take (i:=8) (v:=?_) rfl (by kernel_rfl) (by kernel_rfl) (by kernel_rfl) (fun _ _ _ h=>h) (Or.inl ⟨by rfl,?_⟩) (by assumption) ?_
        rotate_left 1
        ·intro w hSw;(try dsimp only at hSw);go_simp <;> with_reducible rfl
        try simp only [List.getElem_toArray,List.getElem_cons_zero,List.getElem_cons_succ,Act.put,List.setIfInBounds_toArray,List.set_cons_zero,List.set_cons_succ]
        refine wpAnyH_take (i:=9) (v:=?_) rfl (by kernel_rfl) (by kernel_rfl) (by kernel_rfl) (fun _ _ _ h=>h) (Or.inl ⟨by rfl,?_⟩) (by assumption) ?_
        rotate_left 1
        ·intro w hSw;(try dsimp only at hSw);go_simp <;> with_reducible rfl
        try simp only [List.getElem_toArray,List.getElem_cons_zero,List.getElem_cons_succ,Act.put,List.setIfInBounds_toArray,List.set_cons_zero,List.set_cons_succ]
        refine wpAnyH_take (i:=10) (v:=?_) rfl (by kernel_rfl) (by kernel_rfl) (by kernel_rfl) (fun _ _ _ h=>h) (Or.inl ⟨by rfl,?_⟩) (by assumption) ?_
        rotate_left 1
        ·intro w hSw;(try dsimp only at hSw);go_simp <;> with_reducible rfl
        try simp only [List.getElem_toArray,List.getElem_cons_zero,List.getElem_cons_succ,Act.put,List.setIfInBounds_toArray,List.set_cons_zero,List.set_cons_succ]
        refine wpAnyH_take (i:=11) (v:=?_) rfl (by kernel_rfl) (by kernel_rfl) (by kernel_rfl) (fun _ _ _ h=>h) (Or.inl ⟨by rfl,?_⟩) (by assumption) ?_
        rotate_left 1
        ·intro w hSw;(try dsimp only at hSw);go_simp <;> with_reducible rfl
        try simp only [List.getElem_toArray,List.getElem_cons_zero,List.getElem_cons_succ,Act.put,List.setIfInBounds_toArray,List.set_cons_zero,List.set_cons_succ]
        refine wpAnyH_take (i:=12) (v:=?_) rfl (by kernel_rfl) (by kernel_rfl) (by kernel_rfl) (fun _ _ _ h=>h) (Or.inl ⟨by rfl,?_⟩) (by assumption) ?_
        rotate_left 1
        ·intro w hSw;(try dsimp only at hSw);go_simp <;> with_reducible rfl
        try simp only [List.getElem_toArray,List.getElem_cons_zero,List.getElem_cons_succ,Act.put,List.setIfInBounds_toArray,List.set_cons_zero,List.set_cons_succ]
        refine wpAnyH_take (i:=13) (v:=?_) rfl (by kernel_rfl) (by kernel_rfl) (by kernel_rfl) (fun _ _ _ h=>h) (Or.inl ⟨by rfl,?_⟩) (by assumption) ?_
        rotate_left 1
        ·intro w hSw;(try dsimp only at hSw);go_simp <;> with_reducible rfl
        try simp only [List.getElem_toArray,List.getElem_cons_zero,List.getElem_cons_succ,Act.put,List.setIfInBounds_toArray,List.set_cons_zero,List.set_cons_succ]
        refine wpAnyH_take (i:=14) (v:=?_) rfl (by kernel_rfl) (by kernel_rfl) (by kernel_rfl) (fun _ _ _ h=>h) (Or.inl ⟨by rfl,?_⟩) (by assumption) ?_
        rotate_left 1
        ·intro w hSw;(try dsimp only at hSw);go_simp <;> with_reducible rfl
        try simp only [List.getElem_toArray,List.getElem_cons_zero,List.getElem_cons_succ,Act.put,List.setIfInBounds_toArray,List.set_cons_zero,List.set_cons_succ]
        refine wpAnyH_ready (rs:=[15]) (by kernel_rfl) (by simp) ?_
        refine AllReadyH.cons rfl (fun K hK=>?_) AllReadyH.nil
        go_simp
        go_at_call 123;((with_reducible refine (cF _).mono ?_);rintro e w5 ⟨rfl,hb5⟩;have H5:=hid ((HX.out.drewN 1).below hb5);have s1:=HS.out _ H5.out)
        refine hK.out _ _ ?_ (fun hHeld2=>?_)
        ·(try dsimp only);first | exact s0 | exact s1
        clear hK K hHeld
        have hHeld:=hHeld2
        clear hHeld2
        try simp only [List.getElem_toArray,List.getElem_cons_zero,List.getElem_cons_succ,Act.put,List.setIfInBounds_toArray,List.set_cons_zero,List.set_cons_succ]
        refine wpAnyH_take (i:=16) (v:=?_) rfl (by kernel_rfl) (by kernel_rfl) (by kernel_rfl) (fun _ _ _ h=>h) (Or.inl ⟨by rfl,?_⟩) (by assumption) ?_
        rotate_left 1
        ·intro w hSw;(try dsimp only at hSw);go_simp <;> with_reducible rfl
        try simp only [List.getElem_toArray,List.getElem_cons_zero,List.getElem_cons_succ,Act.put,List.setIfInBounds_toArray,List.set_cons_zero,List.set_cons_succ]
        refine wpAnyH_take (i:=17) (v:=?_) rfl (by kernel_rfl) (by kernel_rfl) (by kernel_rfl) (fun _ _ _ h=>h) (Or.inl ⟨by rfl,?_⟩) (by assumption) ?_
        rotate_left 1
        ·intro w hSw;(try dsimp only at hSw);go_simp <;> with_reducible rfl
        try simp only [List.getElem_toArray,List.getElem_cons_zero,List.getElem_cons_succ,Act.put,List.setIfInBounds_toArray,List.set_cons_zero,List.set_cons_succ]
        refine wpAnyH_take (i:=18) (v:=?_) rfl (by kernel_rfl) (by kernel_rfl) (by kernel_rfl) (fun _ _ _ h=>h) (Or.inl ⟨by rfl,?_⟩) (by assumption) ?_
        rotate_left 1
        ·intro w hSw;(try dsimp only at hSw);go_simp <;> with_reducible rfl
        try simp only [List.getElem_toArray,List.getElem_cons_zero,List.getElem_cons_succ,Act.put,List.setIfInBounds_toArray,List.set_cons_zero,List.set_cons_succ]
        refine wpAnyH_take (i:=19) (v:=undef) rfl (by kernel_rfl) (by kernel_rfl) (by kernel_rfl) (fun _ _ _ h=>h) (Or.inr ⟨by rfl,rfl⟩) (by assumption) ?_
        try simp only [List.getElem_toArray,List.getElem_cons_zero,List.getElem_cons_succ,Act.put,List.setIfInBounds_toArray,List.set_cons_zero,List.set_cons_succ]
        refine wpAnyH_take (i:=20) (v:=undef) rfl (by kernel_rfl) (by kernel_rfl) (by kernel_rfl) (fun _ _ _ h=>h) (Or.inr ⟨by rfl,rfl⟩) (by assumption) ?_
        try simp only [List.getElem_toArray,List.getElem_cons_zero,List.getElem_cons_succ,Act.put,List.setIfInBounds_toArray,List.set_cons_zero,List.set_cons_succ]
        refine wpAnyH_take (i:=21) (v:=undef) rfl (by kernel_rfl) (by kernel_rfl) (by kernel_rfl) (fun _ _ _ h=>h) (Or.inr ⟨by rfl,rfl⟩) (by assumption) ?_
        try simp only [List.getElem_toArray,List.getElem_cons_zero,List.getElem_cons_succ,Act.put,List.setIfInBounds_toArray,List.set_cons_zero,List.set_cons_succ]
        refine wpAnyH_take (i:=22) (v:=undef) rfl (by kernel_rfl) (by kernel_rfl) (by kernel_rfl) (fun _ _ _ h=>h) (Or.inr ⟨by rfl,rfl⟩) (by assumption) ?_
        try simp only [List.getElem_toArray,List.getElem_cons_zero,List.getElem_cons_succ,Act.put,List.setIfInBounds_toArray,List.set_cons_zero,List.set_cons_succ]
        refine wpAnyH_take (i:=23) (v:=undef) rfl (by kernel_rfl) (by kernel_rfl) (by kernel_rfl) (fun _ _ _ h=>h) (Or.inr ⟨by rfl,rfl⟩) (by assumption) ?_
        try simp only [List.getElem_toArray,List.getElem_cons_zero,List.getElem_cons_succ,Act.put,List.setIfInBounds_toArray,List.set_cons_zero,List.set_cons_succ]
        refine wpAnyH_take (i:=24) (v:=undef) rfl (by kernel_rfl) (by kernel_rfl) (by kernel_rfl) (fun _ _ _ h=>h) (Or.inr ⟨by rfl,rfl⟩) (by assumption) ?_
        try simp only [List.getElem_toArray,List.getElem_cons_zero,List.getElem_cons_succ,Act.put,List.setIfInBounds_toArray,List.set_cons_zero,List.set_cons_succ]
        refine wpAnyH_take (i:=25) (v:=undef) rfl (by kernel_rfl) (by kernel_rfl) (by kernel_rfl) (fun _ _ _ h=>h) (Or.inr ⟨by rfl,rfl⟩) (by assumption) ?_
        try simp only [List.getElem_toArray,List.getElem_cons_zero,List.getElem_cons_succ,Act.put,List.setIfInBounds_toArray,List.set_cons_zero,List.set_cons_succ]
        refine wpAnyH_take (i:=26) (v:=undef) rfl (by kernel_rfl) (by kernel_rfl) (by kernel_rfl) (fun _ _ _ h=>h) (Or.inr ⟨by rfl,rfl⟩) (by assumption) ?_
        try simp only [List.getElem_toArray,List.getElem_cons_zero,List.getElem_cons_succ,Act.put,List.setIfInBounds_toArray,List.set_cons_zero,List.set_cons_succ]
        refine wpAnyH_take (i:=27) (v:=undef) rfl (by kernel_rfl) (by kernel_rfl) (by kernel_rfl) (fun _ _ _ h=>h) (Or.inr ⟨by rfl,rfl⟩) (by assumption) ?_
        try simp only [List.getElem_toArray,List.getElem_cons_zero,List.getElem_cons_succ,Act.put,List.setIfInBounds_toArray,List.set_cons_zero,List.set_cons_succ]
        refine wpAnyH_take (i:=28) (v:=undef) rfl (by kernel_rfl) (by kernel_rfl) (by kernel_rfl) (fun _ _ _ h=>h) (Or.inr ⟨by rfl,rfl⟩) (by assumption) ?_
        try simp only [List.getElem_toArray,List.getElem_cons_zero,List.getElem_cons_succ,Act.put,List.setIfInBounds_toArray,List.set_cons_zero,List.set_cons_succ]
        refine wpAnyH_take (i:=29) (v:=undef) rfl (by kernel_rfl) (by kernel_rfl) (by kernel_rfl) (fun _ _ _ h=>h) (Or.inr ⟨by rfl,rfl⟩) (by assumption) ?_
        try simp only [List.getElem_toArray,List.getElem_cons_zero,List.getElem_cons_succ,Act.put,List.setIfInBounds_toArray,List.set_cons_zero,List.set_cons_succ]
        refine wpAnyH_take (i:=30) (v:=undef) rfl (by kernel_rfl) (by kernel_rfl) (by kernel_rfl) (fun _ _ _ h=>h) (Or.inr ⟨by rfl,rfl⟩) (by assumption) ?_
        try simp only [List.getElem_toArray,List.getElem_cons_zero,List.getElem_cons_succ,Act.put,List.setIfInBounds_toArray,List.set_cons_zero,List.set_cons_succ]
        refine wpAnyH_take (i:=31) (v:=undef) rfl (by kernel_rfl) (by kernel_rfl) (by kernel_rfl) (fun _ _ _ h=>h) (Or.inr ⟨by rfl,rfl⟩) (by assumption) ?_
        try simp only [List.getElem_toArray,List.getElem_cons_zero,List.getElem_cons_succ,Act.put,List.setIfInBounds_toArray,List.set_cons_zero,List.set_cons_succ]
        refine wpAnyH_take (i:=32) (v:=undef) rfl (by kernel_rfl) (by kernel_rfl) (by kernel_rfl) (fun _ _ _ h=>h) (Or.inr ⟨by rfl,rfl⟩) (by assumption) ?_
        try simp only [List.getElem_toArray,List.getElem_cons_zero,List.getElem_cons_succ,Act.put,List.setIfInBounds_toArray,List.set_cons_zero,List.set_cons_succ]
        refine wpAnyH_take (i:=33) (v:=undef) rfl (by kernel_rfl) (by kernel_rfl) (by kernel_rfl) (fun _ _ _ h=>h) (Or.inr ⟨by rfl,rfl⟩) (by assumption) ?_
        try simp only [List.getElem_toArray,List.getElem_cons_zero,List.getElem_cons_succ,Act.put,List.setIfInBounds_toArray,List.set_cons_zero,List.set_cons_succ]
        refine wpAnyH_take (i:=34) (v:=undef) rfl (by kernel_rfl) (by kernel_rfl) (by kernel_rfl) (fun _ _ _ h=>h) (Or.inr ⟨by rfl,rfl⟩) (by assumption) ?_
        try simp only [List.getElem_toArray,List.getElem_cons_zero,List.getElem_cons_succ,Act.put,List.setIfInBounds_toArray,List.set_cons_zero,List.set_cons_succ]
        refine wpAnyH_take (i:=35) (v:=undef) rfl (by kernel_rfl) (by kernel_rfl) (by kernel_rfl) (fun _ _ _ h=>h) (Or.inr ⟨by rfl,rfl⟩) (by assumption) ?_
        try simp only [List.getElem_toArray,List.getElem_cons_zero,List.getElem_cons_succ,Act.put,List.setIfInBounds_toArray,List.set_cons_zero,List.set_cons_succ]
        refine wpAnyH_take (i:=36) (v:=undef) rfl (by kernel_rfl) (by kernel_rfl) (by kernel_rfl) (fun _ _ _ h=>h) (Or.inr ⟨by rfl,rfl⟩) (by assumption) ?_
        try simp only [List.getElem_toArray,List.getElem_cons_zero,List.getElem_cons_succ,Act.put,List.setIfInBounds_toArray,List.set_cons_zero,List.set_cons_succ]
        refine wpAnyH_take (i:=37) (v:=?_) rfl (by kernel_rfl) (by kernel_rfl) (by kernel_rfl) (fun _ _ _ h=>h) (Or.inl ⟨by rfl,?_⟩) (by assumption) ?_
        rotate_left 1
        ·intro w hSw;(try dsimp only at hSw);go_simp <;> with_reducible rfl
        try simp only [List.getElem_toArray,List.getElem_cons_zero,List.getElem_cons_succ,Act.put,List.setIfInBounds_toArray,List.set_cons_zero,List.set_cons_succ]
        refine wpAnyH_done (by kernel_rfl) ?_ _
        go_wp2
        go_ret
        exact ⟨by rw [Q.out];rfl,H5.out.bel⟩
       ·rw [hz] at cF
        have QV:=hgoodV hz
        clear hbadV hgoodV hz HV
        cases k with
        | zero =>
         have Q:=hid (RiseP.first (txt (keysV ws)) hk2 (by rw [keysV_get ws 0 hk1];exact HZ.out))
         rw [Nat.zero_mul,Nat.add_zero] at z0 z1 z2 z3 HS
         clear HZ HR
         have i2 : (0 : Int) < (m : Int):=by omega
         generalize ws[0] = x at *
         obtain ⟨xk,xa,xb,xt⟩:=x
         go_upto_region 11 with (fail)
         have s0:=HS.out _ HX.out
         refine wp_region_held_drew (S:=(fun w'=>w'.cell? ⟨w.heap.size,3,none⟩ = some (.slice (some ⟨b0,off,none⟩) m d)∧w'.cell? ⟨b0,off,none⟩ = some (.string xk)∧w'.cell? ⟨b0,off + 1,none⟩ = some (.int .i64 xa)∧w'.cell? ⟨b0,off + 2,none⟩ = some (.int .u64 ((xb : Nat) : Int))∧w'.cell? ⟨b0,off + 3,none⟩ = some (.string xt))) (by kernel_rfl) ?_ (fun hHeld=>?_)
         ·(try dsimp only);first | exact s0 | exact s1
         refine wpAnyH_take (i:=0) (v:=?_) rfl (by kernel_rfl) (by kernel_rfl) (by kernel_rfl) (fun _ _ _ h=>h) (Or.inl ⟨by rfl,?_⟩) (by assumption) ?_
         rotate_left 1
         ·intro w hSw;(try dsimp only at hSw);go_simp <;> with_reducible rfl
         try simp only [List.getElem_toArray,List.getElem_cons_zero,Act.put,List.setIfInBounds_toArray,List.set_cons_zero,List.set_cons_succ]
         refine wpAnyH_take (i:=1) (v:=?_) rfl (by kernel_rfl) (by kernel_rfl) (by kernel_rfl) (fun _ _ _ h=>h) (Or.inl ⟨by rfl,?_⟩) (by assumption) ?_
         rotate_left 1
         ·intro w hSw;(try dsimp only at hSw);go_simp <;> with_reducible rfl
         try simp only [List.getElem_toArray,List.getElem_cons_zero,List.getElem_cons_succ,Act.put,List.setIfInBounds_toArray,List.set_cons_zero,List.set_cons_succ]
         refine wpAnyH_take (i:=2) (v:=?_) rfl (by kernel_rfl) (by kernel_rfl) (by kernel_rfl) (fun _ _ _ h=>h) (Or.inl ⟨by rfl,?_⟩) (by assumption) ?_
         rotate_left 1
         ·intro w hSw;(try dsimp only at hSw);go_simp <;> with_reducible rfl
         try simp only [List.getElem_toArray,List.getElem_cons_zero,List.getElem_cons_succ,Act.put,List.setIfInBounds_toArray,List.set_cons_zero,List.set_cons_succ]
         refine wpAnyH_take (i:=3) (v:=?_) rfl (by kernel_rfl) (by kernel_rfl) (by kernel_rfl) (fun _ _ _ h=>h) (Or.inl ⟨by rfl,?_⟩) (by assumption) ?_
         rotate_left 1
         ·intro w hSw;(try dsimp only at hSw);go_simp <;> with_reducible rfl
         try simp only [List.getElem_toArray,List.getElem_cons_zero,List.getElem_cons_succ,Act.put,List.setIfInBounds_toArray,List.set_cons_zero,List.set_cons_succ]
         refine wpAnyH_take (i:=4) (v:=?_) rfl (by kernel_rfl) (by kernel_rfl) (by kernel_rfl) (fun _ _ _ h=>h) (Or.inl ⟨by rfl,?_⟩) (by assumption) ?_
         rotate_left 1
         ·intro w hSw;(try dsimp only at hSw);go_simp <;> with_reducible rfl
         try simp only [List.getElem_toArray,List.getElem_cons_zero,List.getElem_cons_succ,Act.put,List.setIfInBounds_toArray,List.set_cons_zero,List.set_cons_succ]
         refine wpAnyH_take (i:=5) (v:=?_) rfl (by kernel_rfl) (by kernel_rfl) (by kernel_rfl) (fun _ _ _ h=>h) (Or.inl ⟨by rfl,?_⟩) (by assumption) ?_
         rotate_left 1
         ·intro w hSw;(try dsimp only at hSw);go_simp <;> with_reducible rfl
         try simp only [List.getElem_toArray,List.getElem_cons_zero,List.getElem_cons_succ,Act.put,List.setIfInBounds_toArray,List.set_cons_zero,List.set_cons_succ]
         refine wpAnyH_ready (rs:=[6]) (by kernel_rfl) (by simp) ?_
         refine AllReadyH.cons rfl (fun K hK=>?_) AllReadyH.nil
         go_simp
         go_at_call 122;((with_reducible refine (cK _).mono ?_);rintro e w4 ⟨rfl,rfl⟩)
         refine hK.out _ _ ?_ (fun hHeld2=>?_)
         ·(try dsimp only);first | exact s0 | exact s1
         clear hK K hHeld
         have hHeld:=hHeld2
         clear hHeld2
         try simp only [List.getElem_toArray,List.getElem_cons_zero,List.getElem_cons_succ,Act.put,List.setIfInBounds_toArray,List.set_cons_zero,List.set_cons_succ]
         refine wpAnyH_take (i:=7) (v:=?_) rfl (by kernel_rfl) (by kernel_rfl) (by kernel_rfl) (fun _ _ _ h=>h) (Or.inl ⟨by rfl,?_⟩) (by assumption) ?_
         rotate_left 1
         ·intro w hSw;(try dsimp only at hSw);go_simp <;> with_reducible rfl
         try simp only [List.getElem_toArray,List.getElem_cons_zero,List.getElem_cons_succ,Act.put,List.setIfInBounds_toArray,List.set_cons_zero,List.set_cons_succ]
         refine wpAnyH_take (i:=8) (v:=?_) rfl (by kernel_rfl) (by kernel_rfl) (by kernel_rfl) (fun _ _ _ h=>h) (Or.inl ⟨by rfl,?_⟩) (by assumption) ?_
         rotate_left 1
         ·intro w hSw;(try dsimp only at hSw);go_simp <;> with_reducible rfl
         try simp only [List.getElem_toArray,List.getElem_cons_zero,List.getElem_cons_succ,Act.put,List.setIfInBounds_toArray,List.set_cons_zero,List.set_cons_succ]
         refine wpAnyH_take (i:=9) (v:=?_) rfl (by kernel_rfl) (by kernel_rfl) (by kernel_rfl) (fun _ _ _ h=>h) (Or.inl ⟨by rfl,?_⟩) (by assumption) ?_
         rotate_left 1
         ·intro w hSw;(try dsimp only at hSw);go_simp <;> with_reducible rfl
         try simp only [List.getElem_toArray,List.getElem_cons_zero,List.getElem_cons_succ,Act.put,List.setIfInBounds_toArray,List.set_cons_zero,List.set_cons_succ]
         refine wpAnyH_take (i:=10) (v:=?_) rfl (by kernel_rfl) (by kernel_rfl) (by kernel_rfl) (fun _ _ _ h=>h) (Or.inl ⟨by rfl,?_⟩) (by assumption) ?_
         rotate_left 1
         ·intro w hSw;(try dsimp only at hSw);go_simp <;> with_reducible rfl
         try simp only [List.getElem_toArray,List.getElem_cons_zero,List.getElem_cons_succ,Act.put,List.setIfInBounds_toArray,List.set_cons_zero,List.set_cons_succ]
         refine wpAnyH_take (i:=11) (v:=?_) rfl (by kernel_rfl) (by kernel_rfl) (by kernel_rfl) (fun _ _ _ h=>h) (Or.inl ⟨by rfl,?_⟩) (by assumption) ?_
         rotate_left 1
         ·intro w hSw;(try dsimp only at hSw);go_simp <;> with_reducible rfl
         try simp only [List.getElem_toArray,List.getElem_cons_zero,List.getElem_cons_succ,Act.put,List.setIfInBounds_toArray,List.set_cons_zero,List.set_cons_succ]
         refine wpAnyH_take (i:=12) (v:=?_) rfl (by kernel_rfl) (by kernel_rfl) (by kernel_rfl) (fun _ _ _ h=>h) (Or.inl ⟨by rfl,?_⟩) (by assumption) ?_
         rotate_left 1
         ·intro w hSw;(try dsimp only at hSw);go_simp <;> with_reducible rfl
         try simp only [List.getElem_toArray,List.getElem_cons_zero,List.getElem_cons_succ,Act.put,List.setIfInBounds_toArray,List.set_cons_zero,List.set_cons_succ]
         refine wpAnyH_take (i:=13) (v:=?_) rfl (by kernel_rfl) (by kernel_rfl) (by kernel_rfl) (fun _ _ _ h=>h) (Or.inl ⟨by rfl,?_⟩) (by assumption) ?_
         rotate_left 1
         ·intro w hSw;(try dsimp only at hSw);go_simp <;> with_reducible rfl
         try simp only [List.getElem_toArray,List.getElem_cons_zero,List.getElem_cons_succ,Act.put,List.setIfInBounds_toArray,List.set_cons_zero,List.set_cons_succ]
         refine wpAnyH_take (i:=14) (v:=?_) rfl (by kernel_rfl) (by kernel_rfl) (by kernel_rfl) (fun _ _ _ h=>h) (Or.inl ⟨by rfl,?_⟩) (by assumption) ?_
         rotate_left 1
         ·intro w hSw;(try dsimp only at hSw);go_simp <;> with_reducible rfl
         try simp only [List.getElem_toArray,List.getElem_cons_zero,List.getElem_cons_succ,Act.put,List.setIfInBounds_toArray,List.set_cons_zero,List.set_cons_succ]
         refine wpAnyH_ready (rs:=[15]) (by kernel_rfl) (by simp) ?_
         refine AllReadyH.cons rfl (fun K hK=>?_) AllReadyH.nil
         go_simp
         go_at_call 123;((with_reducible refine (cF _).mono ?_);rintro e w5 ⟨rfl,hb5⟩;have H5:=hid ((HX.out.drewN 1).below hb5);have s1:=HS.out _ H5.out)
         refine hK.out _ _ ?_ (fun hHeld2=>?_)
         ·(try dsimp only);first | exact s0 | exact s1
         clear hK K hHeld
         have hHeld:=hHeld2
         clear hHeld2
         try simp only [List.getElem_toArray,List.getElem_cons_zero,List.getElem_cons_succ,Act.put,List.setIfInBounds_toArray,List.set_cons_zero,List.set_cons_succ]
         refine wpAnyH_take (i:=16) (v:=?_) rfl (by kernel_rfl) (by kernel_rfl) (by kernel_rfl) (fun _ _ _ h=>h) (Or.inl ⟨by rfl,?_⟩) (by assumption) ?_
         rotate_left 1
         ·intro w hSw;(try dsimp only at hSw);go_simp <;> with_reducible rfl
         try simp only [List.getElem_toArray,List.getElem_cons_zero,List.getElem_cons_succ,Act.put,List.setIfInBounds_toArray,List.set_cons_zero,List.set_cons_succ]
         refine wpAnyH_take (i:=17) (v:=?_) rfl (by kernel_rfl) (by kernel_rfl) (by kernel_rfl) (fun _ _ _ h=>h) (Or.inl ⟨by rfl,?_⟩) (by assumption) ?_
         rotate_left 1
         ·intro w hSw;(try dsimp only at hSw);go_simp <;> with_reducible rfl
         try simp only [List.getElem_toArray,List.getElem_cons_zero,List.getElem_cons_succ,Act.put,List.setIfInBounds_toArray,List.set_cons_zero,List.set_cons_succ]
         refine wpAnyH_take (i:=18) (v:=?_) rfl (by kernel_rfl) (by kernel_rfl) (by kernel_rfl) (fun _ _ _ h=>h) (Or.inl ⟨by rfl,?_⟩) (by assumption) ?_
         rotate_left 1
         ·intro w hSw;(try dsimp only at hSw);go_simp <;> with_reducible rfl
         try simp only [List.getElem_toArray,List.getElem_cons_zero,List.getElem_cons_succ,Act.put,List.setIfInBounds_toArray,List.set_cons_zero,List.set_cons_succ]
         refine wpAnyH_take (i:=19) (v:=?_) rfl (by kernel_rfl) (by kernel_rfl) (by kernel_rfl) (fun _ _ _ h=>h) (Or.inl ⟨by rfl,?_⟩) (by assumption) ?_
         rotate_left 1
         ·intro w hSw;(try dsimp only at hSw);go_simp <;> with_reducible rfl
         try simp only [List.getElem_toArray,List.getElem_cons_zero,List.getElem_cons_succ,Act.put,List.setIfInBounds_toArray,List.set_cons_zero,List.set_cons_succ]
         refine wpAnyH_take (i:=20) (v:=?_) rfl (by kernel_rfl) (by kernel_rfl) (by kernel_rfl) (fun _ _ _ h=>h) (Or.inl ⟨by rfl,?_⟩) (by assumption) ?_
         rotate_left 1
         ·intro w hSw;(try dsimp only at hSw);go_simp <;> with_reducible rfl
         try simp only [List.getElem_toArray,List.getElem_cons_zero,List.getElem_cons_succ,Act.put,List.setIfInBounds_toArray,List.set_cons_zero,List.set_cons_succ]
         refine wpAnyH_take (i:=21) (v:=?_) rfl (by kernel_rfl) (by kernel_rfl) (by kernel_rfl) (fun _ _ _ h=>h) (Or.inl ⟨by rfl,?_⟩) (by assumption) ?_
         rotate_left 1
         ·intro w hSw;(try dsimp only at hSw);go_simp <;> with_reducible rfl
         try simp only [List.getElem_toArray,List.getElem_cons_zero,List.getElem_cons_succ,Act.put,List.setIfInBounds_toArray,List.set_cons_zero,List.set_cons_succ]
         refine wpAnyH_take (i:=22) (v:=undef) rfl (by kernel_rfl) (by kernel_rfl) (by kernel_rfl) (fun _ _ _ h=>h) (Or.inr ⟨by rfl,rfl⟩) (by assumption) ?_
         try simp only [List.getElem_toArray,List.getElem_cons_zero,List.getElem_cons_succ,Act.put,List.setIfInBounds_toArray,List.set_cons_zero,List.set_cons_succ]
         refine wpAnyH_take (i:=23) (v:=undef) rfl (by kernel_rfl) (by kernel_rfl) (by kernel_rfl) (fun _ _ _ h=>h) (Or.inr ⟨by rfl,rfl⟩) (by assumption) ?_
         try simp only [List.getElem_toArray,List.getElem_cons_zero,List.getElem_cons_succ,Act.put,List.setIfInBounds_toArray,List.set_cons_zero,List.set_cons_succ]
         refine wpAnyH_take (i:=24) (v:=undef) rfl (by kernel_rfl) (by kernel_rfl) (by kernel_rfl) (fun _ _ _ h=>h) (Or.inr ⟨by rfl,rfl⟩) (by assumption) ?_
         try simp only [List.getElem_toArray,List.getElem_cons_zero,List.getElem_cons_succ,Act.put,List.setIfInBounds_toArray,List.set_cons_zero,List.set_cons_succ]
         refine wpAnyH_take (i:=25) (v:=undef) rfl (by kernel_rfl) (by kernel_rfl) (by kernel_rfl) (fun _ _ _ h=>h) (Or.inr ⟨by rfl,rfl⟩) (by assumption) ?_
         try simp only [List.getElem_toArray,List.getElem_cons_zero,List.getElem_cons_succ,Act.put,List.setIfInBounds_toArray,List.set_cons_zero,List.set_cons_succ]
         refine wpAnyH_take (i:=26) (v:=undef) rfl (by kernel_rfl) (by kernel_rfl) (by kernel_rfl) (fun _ _ _ h=>h) (Or.inr ⟨by rfl,rfl⟩) (by assumption) ?_
         try simp only [List.getElem_toArray,List.getElem_cons_zero,List.getElem_cons_succ,Act.put,List.setIfInBounds_toArray,List.set_cons_zero,List.set_cons_succ]
         refine wpAnyH_take (i:=27) (v:=undef) rfl (by kernel_rfl) (by kernel_rfl) (by kernel_rfl) (fun _ _ _ h=>h) (Or.inr ⟨by rfl,rfl⟩) (by assumption) ?_
         try simp only [List.getElem_toArray,List.getElem_cons_zero,List.getElem_cons_succ,Act.put,List.setIfInBounds_toArray,List.set_cons_zero,List.set_cons_succ]
         refine wpAnyH_take (i:=28) (v:=undef) rfl (by kernel_rfl) (by kernel_rfl) (by kernel_rfl) (fun _ _ _ h=>h) (Or.inr ⟨by rfl,rfl⟩) (by assumption) ?_
         try simp only [List.getElem_toArray,List.getElem_cons_zero,List.getElem_cons_succ,Act.put,List.setIfInBounds_toArray,List.set_cons_zero,List.set_cons_succ]
         refine wpAnyH_take (i:=29) (v:=undef) rfl (by kernel_rfl) (by kernel_rfl) (by kernel_rfl) (fun _ _ _ h=>h) (Or.inr ⟨by rfl,rfl⟩) (by assumption) ?_
         try simp only [List.getElem_toArray,List.getElem_cons_zero,List.getElem_cons_succ,Act.put,List.setIfInBounds_toArray,List.set_cons_zero,List.set_cons_succ]
         refine wpAnyH_take (i:=30) (v:=undef) rfl (by kernel_rfl) (by kernel_rfl) (by kernel_rfl) (fun _ _ _ h=>h) (Or.inr ⟨by rfl,rfl⟩) (by assumption) ?_
         try simp only [List.getElem_toArray,List.getElem_cons_zero,List.getElem_cons_succ,Act.put,List.setIfInBounds_toArray,List.set_cons_zero,List.set_cons_succ]
         refine wpAnyH_take (i:=31) (v:=undef) rfl (by kernel_rfl) (by kernel_rfl) (by kernel_rfl) (fun _ _ _ h=>h) (Or.inr ⟨by rfl,rfl⟩) (by assumption) ?_
         try simp only [List.getElem_toArray,List.getElem_cons_zero,List.getElem_cons_succ,Act.put,List.setIfInBounds_toArray,List.set_cons_zero,List.set_cons_succ]
         refine wpAnyH_take (i:=32) (v:=undef) rfl (by kernel_rfl) (by kernel_rfl) (by kernel_rfl) (fun _ _ _ h=>h) (Or.inr ⟨by rfl,rfl⟩) (by assumption) ?_
         try simp only [List.getElem_toArray,List.getElem_cons_zero,List.getElem_cons_succ,Act.put,List.setIfInBounds_toArray,List.set_cons_zero,List.set_cons_succ]
         refine wpAnyH_take (i:=33) (v:=undef) rfl (by kernel_rfl) (by kernel_rfl) (by kernel_rfl) (fun _ _ _ h=>h) (Or.inr ⟨by rfl,rfl⟩) (by assumption) ?_
         try simp only [List.getElem_toArray,List.getElem_cons_zero,List.getElem_cons_succ,Act.put,List.setIfInBounds_toArray,List.set_cons_zero,List.set_cons_succ]
         refine wpAnyH_take (i:=34) (v:=undef) rfl (by kernel_rfl) (by kernel_rfl) (by kernel_rfl) (fun _ _ _ h=>h) (Or.inr ⟨by rfl,rfl⟩) (by assumption) ?_
         try simp only [List.getElem_toArray,List.getElem_cons_zero,List.getElem_cons_succ,Act.put,List.setIfInBounds_toArray,List.set_cons_zero,List.set_cons_succ]
         refine wpAnyH_take (i:=35) (v:=undef) rfl (by kernel_rfl) (by kernel_rfl) (by kernel_rfl) (fun _ _ _ h=>h) (Or.inr ⟨by rfl,rfl⟩) (by assumption) ?_
         try simp only [List.getElem_toArray,List.getElem_cons_zero,List.getElem_cons_succ,Act.put,List.setIfInBounds_toArray,List.set_cons_zero,List.set_cons_succ]
         refine wpAnyH_take (i:=36) (v:=?_) rfl (by kernel_rfl) (by kernel_rfl) (by kernel_rfl) (fun _ _ _ h=>h) (Or.inl ⟨by rfl,?_⟩) (by assumption) ?_
         rotate_left 1
         ·intro w hSw;(try dsimp only at hSw);go_simp <;> with_reducible rfl
         try simp only [List.getElem_toArray,List.getElem_cons_zero,List.getElem_cons_succ,Act.put,List.setIfInBounds_toArray,List.set_cons_zero,List.set_cons_succ]
         refine wpAnyH_take (i:=37) (v:=?_) rfl (by kernel_rfl) (by kernel_rfl) (by kernel_rfl) (fun _ _ _ h=>h) (Or.inl ⟨by rfl,?_⟩) (by assumption) ?_
         rotate_left 1
         ·intro w hSw;(try dsimp only at hSw);go_simp <;> with_reducible rfl
         try simp only [List.getElem_toArray,List.getElem_cons_zero,List.getElem_cons_succ,Act.put,List.setIfInBounds_toArray,List.set_cons_zero,List.set_cons_succ]
         refine wpAnyH_done (by kernel_rfl) ?_ _
         go_wp2
         go_roundw
         case rel=>exact ⟨0 + 1,by omega,by go_num,Q,QV,H5.out⟩
         case measure=>simp [intOf];omega
        | succ p =>
         have hp1 : p < ws.length:=by omega
         have hgood : leB ws[p + 1].key.data.toList ws[p].key.data.toList = false→Hid (RiseP (txt (keysV ws)) (p + 1 + 1)):=fun e=>HR.out.next hk2 (by rw [keysV_get ws (p + 1) hk1];exact HZ.out) (by rw [keysV_get ws (p + 1) hk1,keysV_get ws p hp1];exact e)
         have hbad : leB ws[p + 1].key.data.toList ws[p].key.data.toList = true→Hid (formT formedB (txT (s,q) rs ws) = false):=fun e=>HK.out (.inr (.inl (rise_adj _ p hk2 (by rw [keysV_get ws (p + 1) hk1,keysV_get ws p hp1];exact e))))
         obtain ⟨b1,off1,e1,_,y0,_,_,_⟩:=HT.out.wrs.at_ (i:=p) hp1
         injection e1 with e1
         injection e1 with e1 e2
         subst e1;subst e2
         have HS2 : Hid (∀ W,Boxs w W [(w.heap.size,txV s q a n c (some ⟨b0,off,none⟩) m d,30)]→W.cell? ⟨b0,off + p * 4,none⟩ = some (.string ws[p].key)):=fun W hW=>(hW.bel.cell (p:=⟨b0,off + p * 4,none⟩) hb0).trans y0
         clear y0 HZ HR
         have y0:=HS2.out _ HX.out
         generalize ws[p + 1] = y at *
         generalize ws[p] = x at *
         obtain ⟨yk,ya,yb,yt⟩:=y
         obtain ⟨xk,xa,xb,xt⟩:=x
         have hE:=leS yk xk
         have hw : IntKind.i64.wrap (p : Int) = p:=by rw [IntKind.wrap_i64];omega
         have j1 : p < m:=by omega
         have j2 : (p : Int) < (m : Int):=by omega
         have j3 : (p : Int) + 1 < (m : Int):=by omega
         have j4 : ((p : Int) + 1).toNat = p + 1:=by omega
         have j5 : (0 : Int)≤(p : Int) + 1:=by omega
         have j6 : decide ((0 : Int) < (p : Int) + 1) = true:=decide_eq_true (by omega)
         cases hz : leB yk.data.toList xk.data.toList
         ·rw [hz] at hE
          have Q:=hgood hz
          clear hbad hgood hz
          go_upto_region 11 with (fail)
          have s0:=And.intro (HS2.out _ HX.out) (HS.out _ HX.out)
          go_region_held3 (fun w'=>w'.cell? ⟨b0,off + p * 4,none⟩ = some (.string xk)∧w'.cell? ⟨w.heap.size,3,none⟩ = some (.slice (some ⟨b0,off,none⟩) m d)∧w'.cell? ⟨b0,off + (p + 1) * 4,none⟩ = some (.string yk)∧w'.cell? ⟨b0,off + (p + 1) * 4 + 1,none⟩ = some (.int .i64 ya)∧w'.cell? ⟨b0,off + (p + 1) * 4 + 2,none⟩ = some (.int .u64 ((yb : Nat) : Int))∧w'.cell? ⟨b0,off + (p + 1) * 4 + 3,none⟩ = some (.string yt)) (first | exact s0 | exact s1)
           (first | (go_at_call 122;((with_reducible refine (cK _).mono ?_);rintro e w4 ⟨rfl,rfl⟩)) | (go_at_call 123;((with_reducible refine (cF _).mono ?_);rintro e w5 ⟨rfl,hb5⟩;have H5:=hid ((HX.out.drewN 1).below hb5);have s1:=And.intro (HS2.out _ H5.out) (HS.out _ H5.out))))
          go_wp2
          go_roundw
          case rel=>exact ⟨p + 1 + 1,by omega,by go_num,Q,QV,H5.out⟩
          case measure=>simp [intOf];omega
         ·rw [hz] at hE
          have Q:=hbad hz
          clear hbad hgood hz
          go_upto_region 11 with (fail)
          have s0:=And.intro (HS2.out _ HX.out) (HS.out _ HX.out)
          go_region_held3 (fun w'=>w'.cell? ⟨b0,off + p * 4,none⟩ = some (.string xk)∧w'.cell? ⟨w.heap.size,3,none⟩ = some (.slice (some ⟨b0,off,none⟩) m d)∧w'.cell? ⟨b0,off + (p + 1) * 4,none⟩ = some (.string yk)∧w'.cell? ⟨b0,off + (p + 1) * 4 + 1,none⟩ = some (.int .i64 ya)∧w'.cell? ⟨b0,off + (p + 1) * 4 + 2,none⟩ = some (.int .u64 ((yb : Nat) : Int))∧w'.cell? ⟨b0,off + (p + 1) * 4 + 3,none⟩ = some (.string yt)) (first | exact s0 | exact s1)
           (first | (go_at_call 122;((with_reducible refine (cK _).mono ?_);rintro e w4 ⟨rfl,rfl⟩)) | (go_at_call 123;((with_reducible refine (cF _).mono ?_);rintro e w5 ⟨rfl,hb5⟩;have H5:=hid ((HX.out.drewN 1).below hb5);have s1:=And.intro (HS2.out _ H5.out) (HS.out _ H5.out))))
          go_wp2
          go_ret
          exact ⟨by rw [Q.out];rfl,H5.out.bel⟩
     ·have Q:=hid (HR.out.done (by omega))
      have QV:=hid (all_done (fun x=>formedB (valM x)) ws k (by omega) HV.out)
      obtain ⟨x0,x1,x2,x3⟩:=(HX.out.get 0 _ _ _ rfl).four
      clear HR HV
      go_wp2
      go_ret
      exact ⟨by rw [HP.out,QR.out,Q.out,valsB,QV.out];rfl,HX.out.bel⟩
 ·clear HTEST HGO
  go_enter Tryz.func94,Tryz.ntmps94
  go_wp2_with (go_at_call 93;((with_reducible refine (cI _).mono ?_);rintro e w1 ⟨rfl,hb1⟩;have H1:=hid (H0.out.below hb1);(clear x0 x1 x2 x3);obtain ⟨x0,x1,x2,x3⟩:=(H1.out.get 0 _ _ _ rfl).four))
  go_loopw [3] (fun i wr => ∃ k : Nat,k≤n∧i = .int .i64 k∧Hid (RiseP (txt (keysM rs)) k)∧Boxs w wr [(w.heap.size,txV s q a n c b m d,30)]) (fun i _=>n - (intOf i).toNat)
  case atStart=>exact ⟨0,Nat.zero_le _,rfl,RiseP.start _,H1.out⟩
  case round =>
   obtain ⟨k,hk3,rfl,HR,hX⟩:=hrel
   have HX:=hid hX
   clear hX H1 H0 hb1 x0 x1 x2 x3
   obtain ⟨x0,x1,x2,x3⟩:=(HX.out.get 0 _ _ _ rfl).four
   by_cases hlt : k < n
   ·have hk1 : k < rs.length:=by omega
    have hk2 : k < (txt (keysM rs)).length:=by omega
    have cK:=fun W=>refKey_any rs[k].1 W (HB.out _ (List.mem_map.2 ⟨_,List.getElem_mem hk1,rfl⟩))
    have hbad : keyB rs[k].1.data.toList = false→Hid (formT formedB (txT (s,q) rs ws) = false):=fun e=>HK.out (.inl (rise_key _ k hk2 (by rw [keysM_get rs k hk1];exact e)))
    obtain ⟨b0,off,rfl,hb0,z0,z1⟩:=HT.out.rds.at_ (i:=k) hk1
    replace z0:=(HX.out.bel.cell (p:=⟨b0,off + k * 2,none⟩) hb0).trans z0
    replace z1:=(HX.out.bel.cell (p:=⟨b0,off + k * 2 + 1,none⟩) hb0).trans z1
    have i1 : (k : Int) < (n : Int):=by omega
    cases hz : keyB rs[k].1.data.toList
    ·rw [hz] at cK
     have Q:=hbad hz
     clear hbad hz HR
     generalize rs[k] = x at *
     go_upto_region 6 with (fail)
     go_quiet ((go_at_call 122;exact quiet_same (cK _)))
     go_wp2
     go_ret
     exact ⟨by rw [Q.out];rfl,(HX.out.drewN _).bel⟩
    ·rw [hz] at cK
     clear hbad
     cases k with
     | zero =>
      have Q:=hid (RiseP.first (txt (keysM rs)) hk2 (by rw [keysM_get rs 0 hk1];exact hz))
      rw [Nat.zero_mul,Nat.add_zero] at z0 z1
      clear hz HR
      have i2 : (0 : Int) < (n : Int):=by omega
      generalize rs[0] = x at *
      go_upto_region 6 with (fail)
      go_quiet ((go_at_call 122;exact quiet_same (cK _)))
      go_wp2
      go_roundw
      case rel=>exact ⟨0 + 1,by omega,by go_num,Q,HX.out.drewN _⟩
      case measure=>simp [intOf];omega
     | succ p =>
      have hp1 : p < rs.length:=by omega
      have hgood : leB rs[p + 1].1.data.toList rs[p].1.data.toList = false→Hid (RiseP (txt (keysM rs)) (p + 1 + 1)):=fun e=>HR.out.next hk2 (by rw [keysM_get rs (p + 1) hk1];exact hz) (by rw [keysM_get rs (p + 1) hk1,keysM_get rs p hp1];exact e)
      have hbad : leB rs[p + 1].1.data.toList rs[p].1.data.toList = true→Hid (formT formedB (txT (s,q) rs ws) = false):=fun e=>HK.out (.inl (rise_adj _ p hk2 (by rw [keysM_get rs (p + 1) hk1,keysM_get rs p hp1];exact e)))
      obtain ⟨b1,off1,e1,_,y0,_⟩:=HT.out.rds.at_ (i:=p) hp1
      injection e1 with e1
      injection e1 with e1 e2
      subst e1;subst e2
      replace y0:=(HX.out.bel.cell (p:=⟨b0,off + p * 2,none⟩) hb0).trans y0
      clear hz HR
      generalize rs[p + 1] = y at *
      generalize rs[p] = x at *
      obtain ⟨y,yv⟩:=y
      obtain ⟨x,xv⟩:=x
      have hE:=leS y x
      have hw : IntKind.i64.wrap (p : Int) = p:=by rw [IntKind.wrap_i64];omega
      have j1 : p < n:=by omega
      have j2 : (p : Int) < (n : Int):=by omega
      have j3 : (p : Int) + 1 < (n : Int):=by omega
      have j4 : ((p : Int) + 1).toNat = p + 1:=by omega
      have j5 : (0 : Int)≤(p : Int) + 1:=by omega
      have j6 : decide ((0 : Int) < (p : Int) + 1) = true:=decide_eq_true (by omega)
      cases hz : leB y.data.toList x.data.toList
      ·rw [hz] at hE
       have Q:=hgood hz
       clear hbad hgood hz
       go_upto_region 6 with (fail)
       go_quiet ((go_at_call 122;exact quiet_same (cK _)))
       go_wp2
       go_roundw
       case rel=>exact ⟨p + 1 + 1,by omega,by go_num,Q,HX.out.drewN _⟩
       case measure=>simp [intOf];omega
      ·rw [hz] at hE
       have Q:=hbad hz
       clear hbad hgood hz
       go_upto_region 6 with (fail)
       go_quiet ((go_at_call 122;exact quiet_same (cK _)))
       go_wp2
       go_ret
       exact ⟨by rw [Q.out];rfl,(HX.out.drewN _).bel⟩
   ·have QR:=hid (HR.out.done (by omega))
    clear HR
    go_wp2
    go_loopw [4] (fun i wr => ∃ k : Nat,k≤m∧i = .int .i64 k∧Hid (RiseP (txt (keysV ws)) k)∧Hid ((ws.take k).all (fun x=>formedB (valM x)) = true)∧Boxs w wr [(w.heap.size,txV s q a n c b m d,30)]) (fun i _=>m - (intOf i).toNat)
    case atStart=>exact ⟨0,Nat.zero_le _,rfl,RiseP.start _,rfl,HX.out⟩
    case round =>
     obtain ⟨k,hk3,rfl,HR,HV,hX⟩:=hrel
     clear HX x0 x1 x2 x3
     have HX:=hid hX
     clear hX
     by_cases hlt : k < m
     ·have hk1 : k < ws.length:=by omega
      have hk2 : k < (txt (keysV ws)).length:=by omega
      have cK:=fun W=>refKey_any ws[k].key W (HB'.out _ (List.mem_map.2 ⟨_,List.getElem_mem hk1,rfl⟩))
      have hO:=HT.out.okW _ (List.getElem_mem hk1)
      have cF:=fun W=>refFormed_any ws[k].k ws[k].b ws[k].t W hO.2.1 hO.2.2
      have hbad : keyB ws[k].key.data.toList = false→Hid (formT formedB (txT (s,q) rs ws) = false):=fun e=>HK.out (.inr (.inl (rise_key _ k hk2 (by rw [keysV_get ws k hk1];exact e))))
      have hbadV : formedB ⟨ws[k].k,ws[k].b,ws[k].t.data.toList⟩ = false→Hid (formT formedB (txT (s,q) rs ws) = false):=fun e=>HK.out (.inr (.inr (all_bad (fun x=>formedB (valM x)) ws k hk1 e)))
      have hgoodV : formedB ⟨ws[k].k,ws[k].b,ws[k].t.data.toList⟩ = true→Hid ((ws.take (k + 1)).all (fun x=>formedB (valM x)) = true):=fun e=>all_next (fun x=>formedB (valM x)) ws k hk1 HV.out e
      obtain ⟨b0,off,rfl,hb0,z0,z1,z2,z3⟩:=HT.out.wrs.at_ (i:=k) hk1
      have HS : Hid (∀ W,Boxs w W [(w.heap.size,txV s q a n c (some ⟨b0,off,none⟩) m d,30)]→W.cell? ⟨w.heap.size,3,none⟩ = some (.slice (some ⟨b0,off,none⟩) m d)∧W.cell? ⟨b0,off + k * 4,none⟩ = some (.string ws[k].key)∧W.cell? ⟨b0,off + k * 4 + 1,none⟩ = some (.int .i64 ws[k].k)∧W.cell? ⟨b0,off + k * 4 + 2,none⟩ = some (.int .u64 ((ws[k].b : Nat) : Int))∧W.cell? ⟨b0,off + k * 4 + 3,none⟩ = some (.string ws[k].t)):=fun W hW=>⟨(hW.get 0 _ _ _ rfl).cell 3 _ rfl,(hW.bel.cell (p:=⟨b0,off + k * 4,none⟩) hb0).trans z0,(hW.bel.cell (p:=⟨b0,off + k * 4 + 1,none⟩) hb0).trans z1,(hW.bel.cell (p:=⟨b0,off + k * 4 + 2,none⟩) hb0).trans z2,(hW.bel.cell (p:=⟨b0,off + k * 4 + 3,none⟩) hb0).trans z3⟩
      clear z0 z1 z2 z3 hO
      have i1 : (k : Int) < (m : Int):=by omega
      obtain ⟨x3,z0,z1,z2,z3⟩:=HS.out _ HX.out
      cases hz : keyB ws[k].key.data.toList
      ·rw [hz] at cK
       have Q:=hbad hz
       clear hbad hbadV hgoodV hz HR HV HS cF
       generalize ws[k] = x at *
       go_upto_region 11 with (fail)
       go_quiet ((go_at_call 122;exact quiet_same (cK _)))
       go_wp2
       go_ret
       exact ⟨by rw [Q.out];rfl,(HX.out.drewN _).bel⟩
      ·rw [hz] at cK
       clear hbad
       have HZ:=hid hz
       clear hz
       cases hz : formedB ⟨ws[k].k,ws[k].b,ws[k].t.data.toList⟩
       ·rw [hz] at cF
        have Q:=hbadV hz
        clear hbadV hgoodV hz HR HV HZ
        generalize ws[k] = x at *
        obtain ⟨xk,xa,xb,xt⟩:=x
        go_upto_region 11 with (fail)
        have s0:=HS.out _ HX.out
        refine wp_region_held_drew (S:=(fun w'=>w'.cell? ⟨w.heap.size,3,none⟩ = some (.slice (some ⟨b0,off,none⟩) m d)∧w'.cell? ⟨b0,off + k * 4,none⟩ = some (.string xk)∧w'.cell? ⟨b0,off + k * 4 + 1,none⟩ = some (.int .i64 xa)∧w'.cell? ⟨b0,off + k * 4 + 2,none⟩ = some (.int .u64 ((xb : Nat) : Int))∧w'.cell? ⟨b0,off + k * 4 + 3,none⟩ = some (.string xt))) (by kernel_rfl) ?_ (fun hHeld=>?_)
        ·(try dsimp only);first | exact s0 | exact s1
        refine wpAnyH_take (i:=0) (v:=?_) rfl (by kernel_rfl) (by kernel_rfl) (by kernel_rfl) (fun _ _ _ h=>h) (Or.inl ⟨by rfl,?_⟩) (by assumption) ?_
        rotate_left 1
        ·intro w hSw;(try dsimp only at hSw);go_simp <;> with_reducible rfl
        try simp only [List.getElem_toArray,List.getElem_cons_zero,Act.put,List.setIfInBounds_toArray,List.set_cons_zero,List.set_cons_succ]
        refine wpAnyH_take (i:=1) (v:=?_) rfl (by kernel_rfl) (by kernel_rfl) (by kernel_rfl) (fun _ _ _ h=>h) (Or.inl ⟨by rfl,?_⟩) (by assumption) ?_
        rotate_left 1
        ·intro w hSw;(try dsimp only at hSw);go_simp <;> with_reducible rfl
        try simp only [List.getElem_toArray,List.getElem_cons_zero,List.getElem_cons_succ,Act.put,List.setIfInBounds_toArray,List.set_cons_zero,List.set_cons_succ]
        refine wpAnyH_take (i:=2) (v:=?_) rfl (by kernel_rfl) (by kernel_rfl) (by kernel_rfl) (fun _ _ _ h=>h) (Or.inl ⟨by rfl,?_⟩) (by assumption) ?_
        rotate_left 1
        ·intro w hSw;(try dsimp only at hSw);go_simp <;> with_reducible rfl
        try simp only [List.getElem_toArray,List.getElem_cons_zero,List.getElem_cons_succ,Act.put,List.setIfInBounds_toArray,List.set_cons_zero,List.set_cons_succ]
        refine wpAnyH_take (i:=3) (v:=?_) rfl (by kernel_rfl) (by kernel_rfl) (by kernel_rfl) (fun _ _ _ h=>h) (Or.inl ⟨by rfl,?_⟩) (by assumption) ?_
        rotate_left 1
        ·intro w hSw;(try dsimp only at hSw);go_simp <;> with_reducible rfl
        try simp only [List.getElem_toArray,List.getElem_cons_zero,List.getElem_cons_succ,Act.put,List.setIfInBounds_toArray,List.set_cons_zero,List.set_cons_succ]
        refine wpAnyH_take (i:=4) (v:=?_) rfl (by kernel_rfl) (by kernel_rfl) (by kernel_rfl) (fun _ _ _ h=>h) (Or.inl ⟨by rfl,?_⟩) (by assumption) ?_
        rotate_left 1
        ·intro w hSw;(try dsimp only at hSw);go_simp <;> with_reducible rfl
        try simp only [List.getElem_toArray,List.getElem_cons_zero,List.getElem_cons_succ,Act.put,List.setIfInBounds_toArray,List.set_cons_zero,List.set_cons_succ]
        refine wpAnyH_take (i:=5) (v:=?_) rfl (by kernel_rfl) (by kernel_rfl) (by kernel_rfl) (fun _ _ _ h=>h) (Or.inl ⟨by rfl,?_⟩) (by assumption) ?_
        rotate_left 1
        ·intro w hSw;(try dsimp only at hSw);go_simp <;> with_reducible rfl
        try simp only [List.getElem_toArray,List.getElem_cons_zero,List.getElem_cons_succ,Act.put,List.setIfInBounds_toArray,List.set_cons_zero,List.set_cons_succ]
        refine wpAnyH_ready (rs:=[6]) (by kernel_rfl) (by simp) ?_
        refine AllReadyH.cons rfl (fun K hK=>?_) AllReadyH.nil
        go_simp
        go_at_call 122;((with_reducible refine (cK _).mono ?_);rintro e w4 ⟨rfl,rfl⟩)
        refine hK.out _ _ ?_ (fun hHeld2=>?_)
        ·(try dsimp only);first | exact s0 | exact s1
        clear hK K hHeld
        have hHeld:=hHeld2
        clear hHeld2
        try simp only [List.getElem_toArray,List.getElem_cons_zero,List.getElem_cons_succ,Act.put,List.setIfInBounds_toArray,List.set_cons_zero,List.set_cons_succ]
        refine wpAnyH_take (i:=7) (v:=?_) rfl (by kernel_rfl) (by kernel_rfl) (by kernel_rfl) (fun _ _ _ h=>h) (Or.inl ⟨by rfl,?_⟩) (by assumption) ?_
        rotate_left 1
        ·intro w hSw;(try dsimp only at hSw);go_simp <;> with_reducible rfl
        try simp only [List.getElem_toArray,List.getElem_cons_zero,List.getElem_cons_succ,Act.put,List.setIfInBounds_toArray,List.set_cons_zero,List.set_cons_succ]
        refine wpAnyH_take (i:=8) (v:=?_) rfl (by kernel_rfl) (by kernel_rfl) (by kernel_rfl) (fun _ _ _ h=>h) (Or.inl ⟨by rfl,?_⟩) (by assumption) ?_
        rotate_left 1
        ·intro w hSw;(try dsimp only at hSw);go_simp <;> with_reducible rfl
        try simp only [List.getElem_toArray,List.getElem_cons_zero,List.getElem_cons_succ,Act.put,List.setIfInBounds_toArray,List.set_cons_zero,List.set_cons_succ]
        refine wpAnyH_take (i:=9) (v:=?_) rfl (by kernel_rfl) (by kernel_rfl) (by kernel_rfl) (fun _ _ _ h=>h) (Or.inl ⟨by rfl,?_⟩) (by assumption) ?_
        rotate_left 1
        ·intro w hSw;(try dsimp only at hSw);go_simp <;> with_reducible rfl
        try simp only [List.getElem_toArray,List.getElem_cons_zero,List.getElem_cons_succ,Act.put,List.setIfInBounds_toArray,List.set_cons_zero,List.set_cons_succ]
        refine wpAnyH_take (i:=10) (v:=?_) rfl (by kernel_rfl) (by kernel_rfl) (by kernel_rfl) (fun _ _ _ h=>h) (Or.inl ⟨by rfl,?_⟩) (by assumption) ?_
        rotate_left 1
        ·intro w hSw;(try dsimp only at hSw);go_simp <;> with_reducible rfl
        try simp only [List.getElem_toArray,List.getElem_cons_zero,List.getElem_cons_succ,Act.put,List.setIfInBounds_toArray,List.set_cons_zero,List.set_cons_succ]
        refine wpAnyH_take (i:=11) (v:=?_) rfl (by kernel_rfl) (by kernel_rfl) (by kernel_rfl) (fun _ _ _ h=>h) (Or.inl ⟨by rfl,?_⟩) (by assumption) ?_
        rotate_left 1
        ·intro w hSw;(try dsimp only at hSw);go_simp <;> with_reducible rfl
        try simp only [List.getElem_toArray,List.getElem_cons_zero,List.getElem_cons_succ,Act.put,List.setIfInBounds_toArray,List.set_cons_zero,List.set_cons_succ]
        refine wpAnyH_take (i:=12) (v:=?_) rfl (by kernel_rfl) (by kernel_rfl) (by kernel_rfl) (fun _ _ _ h=>h) (Or.inl ⟨by rfl,?_⟩) (by assumption) ?_
        rotate_left 1
        ·intro w hSw;(try dsimp only at hSw);go_simp <;> with_reducible rfl
        try simp only [List.getElem_toArray,List.getElem_cons_zero,List.getElem_cons_succ,Act.put,List.setIfInBounds_toArray,List.set_cons_zero,List.set_cons_succ]
        refine wpAnyH_take (i:=13) (v:=?_) rfl (by kernel_rfl) (by kernel_rfl) (by kernel_rfl) (fun _ _ _ h=>h) (Or.inl ⟨by rfl,?_⟩) (by assumption) ?_
        rotate_left 1
        ·intro w hSw;(try dsimp only at hSw);go_simp <;> with_reducible rfl
        try simp only [List.getElem_toArray,List.getElem_cons_zero,List.getElem_cons_succ,Act.put,List.setIfInBounds_toArray,List.set_cons_zero,List.set_cons_succ]
        refine wpAnyH_take (i:=14) (v:=?_) rfl (by kernel_rfl) (by kernel_rfl) (by kernel_rfl) (fun _ _ _ h=>h) (Or.inl ⟨by rfl,?_⟩) (by assumption) ?_
        rotate_left 1
        ·intro w hSw;(try dsimp only at hSw);go_simp <;> with_reducible rfl
        try simp only [List.getElem_toArray,List.getElem_cons_zero,List.getElem_cons_succ,Act.put,List.setIfInBounds_toArray,List.set_cons_zero,List.set_cons_succ]
        refine wpAnyH_ready (rs:=[15]) (by kernel_rfl) (by simp) ?_
        refine AllReadyH.cons rfl (fun K hK=>?_) AllReadyH.nil
        go_simp
        go_at_call 123;((with_reducible refine (cF _).mono ?_);rintro e w5 ⟨rfl,hb5⟩;have H5:=hid ((HX.out.drewN 1).below hb5);have s1:=HS.out _ H5.out)
        refine hK.out _ _ ?_ (fun hHeld2=>?_)
        ·(try dsimp only);first | exact s0 | exact s1
        clear hK K hHeld
        have hHeld:=hHeld2
        clear hHeld2
        try simp only [List.getElem_toArray,List.getElem_cons_zero,List.getElem_cons_succ,Act.put,List.setIfInBounds_toArray,List.set_cons_zero,List.set_cons_succ]
        refine wpAnyH_take (i:=16) (v:=?_) rfl (by kernel_rfl) (by kernel_rfl) (by kernel_rfl) (fun _ _ _ h=>h) (Or.inl ⟨by rfl,?_⟩) (by assumption) ?_
        rotate_left 1
        ·intro w hSw;(try dsimp only at hSw);go_simp <;> with_reducible rfl
        try simp only [List.getElem_toArray,List.getElem_cons_zero,List.getElem_cons_succ,Act.put,List.setIfInBounds_toArray,List.set_cons_zero,List.set_cons_succ]
        refine wpAnyH_take (i:=17) (v:=?_) rfl (by kernel_rfl) (by kernel_rfl) (by kernel_rfl) (fun _ _ _ h=>h) (Or.inl ⟨by rfl,?_⟩) (by assumption) ?_
        rotate_left 1
        ·intro w hSw;(try dsimp only at hSw);go_simp <;> with_reducible rfl
        try simp only [List.getElem_toArray,List.getElem_cons_zero,List.getElem_cons_succ,Act.put,List.setIfInBounds_toArray,List.set_cons_zero,List.set_cons_succ]
        refine wpAnyH_take (i:=18) (v:=?_) rfl (by kernel_rfl) (by kernel_rfl) (by kernel_rfl) (fun _ _ _ h=>h) (Or.inl ⟨by rfl,?_⟩) (by assumption) ?_
        rotate_left 1
        ·intro w hSw;(try dsimp only at hSw);go_simp <;> with_reducible rfl
        try simp only [List.getElem_toArray,List.getElem_cons_zero,List.getElem_cons_succ,Act.put,List.setIfInBounds_toArray,List.set_cons_zero,List.set_cons_succ]
        refine wpAnyH_take (i:=19) (v:=undef) rfl (by kernel_rfl) (by kernel_rfl) (by kernel_rfl) (fun _ _ _ h=>h) (Or.inr ⟨by rfl,rfl⟩) (by assumption) ?_
        try simp only [List.getElem_toArray,List.getElem_cons_zero,List.getElem_cons_succ,Act.put,List.setIfInBounds_toArray,List.set_cons_zero,List.set_cons_succ]
        refine wpAnyH_take (i:=20) (v:=undef) rfl (by kernel_rfl) (by kernel_rfl) (by kernel_rfl) (fun _ _ _ h=>h) (Or.inr ⟨by rfl,rfl⟩) (by assumption) ?_
        try simp only [List.getElem_toArray,List.getElem_cons_zero,List.getElem_cons_succ,Act.put,List.setIfInBounds_toArray,List.set_cons_zero,List.set_cons_succ]
        refine wpAnyH_take (i:=21) (v:=undef) rfl (by kernel_rfl) (by kernel_rfl) (by kernel_rfl) (fun _ _ _ h=>h) (Or.inr ⟨by rfl,rfl⟩) (by assumption) ?_
        try simp only [List.getElem_toArray,List.getElem_cons_zero,List.getElem_cons_succ,Act.put,List.setIfInBounds_toArray,List.set_cons_zero,List.set_cons_succ]
        refine wpAnyH_take (i:=22) (v:=undef) rfl (by kernel_rfl) (by kernel_rfl) (by kernel_rfl) (fun _ _ _ h=>h) (Or.inr ⟨by rfl,rfl⟩) (by assumption) ?_
        try simp only [List.getElem_toArray,List.getElem_cons_zero,List.getElem_cons_succ,Act.put,List.setIfInBounds_toArray,List.set_cons_zero,List.set_cons_succ]
        refine wpAnyH_take (i:=23) (v:=undef) rfl (by kernel_rfl) (by kernel_rfl) (by kernel_rfl) (fun _ _ _ h=>h) (Or.inr ⟨by rfl,rfl⟩) (by assumption) ?_
        try simp only [List.getElem_toArray,List.getElem_cons_zero,List.getElem_cons_succ,Act.put,List.setIfInBounds_toArray,List.set_cons_zero,List.set_cons_succ]
        refine wpAnyH_take (i:=24) (v:=undef) rfl (by kernel_rfl) (by kernel_rfl) (by kernel_rfl) (fun _ _ _ h=>h) (Or.inr ⟨by rfl,rfl⟩) (by assumption) ?_
        try simp only [List.getElem_toArray,List.getElem_cons_zero,List.getElem_cons_succ,Act.put,List.setIfInBounds_toArray,List.set_cons_zero,List.set_cons_succ]
        refine wpAnyH_take (i:=25) (v:=undef) rfl (by kernel_rfl) (by kernel_rfl) (by kernel_rfl) (fun _ _ _ h=>h) (Or.inr ⟨by rfl,rfl⟩) (by assumption) ?_
        try simp only [List.getElem_toArray,List.getElem_cons_zero,List.getElem_cons_succ,Act.put,List.setIfInBounds_toArray,List.set_cons_zero,List.set_cons_succ]
        refine wpAnyH_take (i:=26) (v:=undef) rfl (by kernel_rfl) (by kernel_rfl) (by kernel_rfl) (fun _ _ _ h=>h) (Or.inr ⟨by rfl,rfl⟩) (by assumption) ?_
        try simp only [List.getElem_toArray,List.getElem_cons_zero,List.getElem_cons_succ,Act.put,List.setIfInBounds_toArray,List.set_cons_zero,List.set_cons_succ]
        refine wpAnyH_take (i:=27) (v:=undef) rfl (by kernel_rfl) (by kernel_rfl) (by kernel_rfl) (fun _ _ _ h=>h) (Or.inr ⟨by rfl,rfl⟩) (by assumption) ?_
        try simp only [List.getElem_toArray,List.getElem_cons_zero,List.getElem_cons_succ,Act.put,List.setIfInBounds_toArray,List.set_cons_zero,List.set_cons_succ]
        refine wpAnyH_take (i:=28) (v:=undef) rfl (by kernel_rfl) (by kernel_rfl) (by kernel_rfl) (fun _ _ _ h=>h) (Or.inr ⟨by rfl,rfl⟩) (by assumption) ?_
        try simp only [List.getElem_toArray,List.getElem_cons_zero,List.getElem_cons_succ,Act.put,List.setIfInBounds_toArray,List.set_cons_zero,List.set_cons_succ]
        refine wpAnyH_take (i:=29) (v:=undef) rfl (by kernel_rfl) (by kernel_rfl) (by kernel_rfl) (fun _ _ _ h=>h) (Or.inr ⟨by rfl,rfl⟩) (by assumption) ?_
        try simp only [List.getElem_toArray,List.getElem_cons_zero,List.getElem_cons_succ,Act.put,List.setIfInBounds_toArray,List.set_cons_zero,List.set_cons_succ]
        refine wpAnyH_take (i:=30) (v:=undef) rfl (by kernel_rfl) (by kernel_rfl) (by kernel_rfl) (fun _ _ _ h=>h) (Or.inr ⟨by rfl,rfl⟩) (by assumption) ?_
        try simp only [List.getElem_toArray,List.getElem_cons_zero,List.getElem_cons_succ,Act.put,List.setIfInBounds_toArray,List.set_cons_zero,List.set_cons_succ]
        refine wpAnyH_take (i:=31) (v:=undef) rfl (by kernel_rfl) (by kernel_rfl) (by kernel_rfl) (fun _ _ _ h=>h) (Or.inr ⟨by rfl,rfl⟩) (by assumption) ?_
        try simp only [List.getElem_toArray,List.getElem_cons_zero,List.getElem_cons_succ,Act.put,List.setIfInBounds_toArray,List.set_cons_zero,List.set_cons_succ]
        refine wpAnyH_take (i:=32) (v:=undef) rfl (by kernel_rfl) (by kernel_rfl) (by kernel_rfl) (fun _ _ _ h=>h) (Or.inr ⟨by rfl,rfl⟩) (by assumption) ?_
        try simp only [List.getElem_toArray,List.getElem_cons_zero,List.getElem_cons_succ,Act.put,List.setIfInBounds_toArray,List.set_cons_zero,List.set_cons_succ]
        refine wpAnyH_take (i:=33) (v:=undef) rfl (by kernel_rfl) (by kernel_rfl) (by kernel_rfl) (fun _ _ _ h=>h) (Or.inr ⟨by rfl,rfl⟩) (by assumption) ?_
        try simp only [List.getElem_toArray,List.getElem_cons_zero,List.getElem_cons_succ,Act.put,List.setIfInBounds_toArray,List.set_cons_zero,List.set_cons_succ]
        refine wpAnyH_take (i:=34) (v:=undef) rfl (by kernel_rfl) (by kernel_rfl) (by kernel_rfl) (fun _ _ _ h=>h) (Or.inr ⟨by rfl,rfl⟩) (by assumption) ?_
        try simp only [List.getElem_toArray,List.getElem_cons_zero,List.getElem_cons_succ,Act.put,List.setIfInBounds_toArray,List.set_cons_zero,List.set_cons_succ]
        refine wpAnyH_take (i:=35) (v:=undef) rfl (by kernel_rfl) (by kernel_rfl) (by kernel_rfl) (fun _ _ _ h=>h) (Or.inr ⟨by rfl,rfl⟩) (by assumption) ?_
        try simp only [List.getElem_toArray,List.getElem_cons_zero,List.getElem_cons_succ,Act.put,List.setIfInBounds_toArray,List.set_cons_zero,List.set_cons_succ]
        refine wpAnyH_take (i:=36) (v:=undef) rfl (by kernel_rfl) (by kernel_rfl) (by kernel_rfl) (fun _ _ _ h=>h) (Or.inr ⟨by rfl,rfl⟩) (by assumption) ?_
        try simp only [List.getElem_toArray,List.getElem_cons_zero,List.getElem_cons_succ,Act.put,List.setIfInBounds_toArray,List.set_cons_zero,List.set_cons_succ]
        refine wpAnyH_take (i:=37) (v:=?_) rfl (by kernel_rfl) (by kernel_rfl) (by kernel_rfl) (fun _ _ _ h=>h) (Or.inl ⟨by rfl,?_⟩) (by assumption) ?_
        rotate_left 1
        ·intro w hSw;(try dsimp only at hSw);go_simp <;> with_reducible rfl
        try simp only [List.getElem_toArray,List.getElem_cons_zero,List.getElem_cons_succ,Act.put,List.setIfInBounds_toArray,List.set_cons_zero,List.set_cons_succ]
        refine wpAnyH_done (by kernel_rfl) ?_ _
        go_wp2
        go_ret
        exact ⟨by rw [Q.out];rfl,H5.out.bel⟩
       ·rw [hz] at cF
        have QV:=hgoodV hz
        clear hbadV hgoodV hz HV
        cases k with
        | zero =>
         have Q:=hid (RiseP.first (txt (keysV ws)) hk2 (by rw [keysV_get ws 0 hk1];exact HZ.out))
         rw [Nat.zero_mul,Nat.add_zero] at z0 z1 z2 z3 HS
         clear HZ HR
         have i2 : (0 : Int) < (m : Int):=by omega
         generalize ws[0] = x at *
         obtain ⟨xk,xa,xb,xt⟩:=x
         go_upto_region 11 with (fail)
         have s0:=HS.out _ HX.out
         refine wp_region_held_drew (S:=(fun w'=>w'.cell? ⟨w.heap.size,3,none⟩ = some (.slice (some ⟨b0,off,none⟩) m d)∧w'.cell? ⟨b0,off,none⟩ = some (.string xk)∧w'.cell? ⟨b0,off + 1,none⟩ = some (.int .i64 xa)∧w'.cell? ⟨b0,off + 2,none⟩ = some (.int .u64 ((xb : Nat) : Int))∧w'.cell? ⟨b0,off + 3,none⟩ = some (.string xt))) (by kernel_rfl) ?_ (fun hHeld=>?_)
         ·(try dsimp only);first | exact s0 | exact s1
         refine wpAnyH_take (i:=0) (v:=?_) rfl (by kernel_rfl) (by kernel_rfl) (by kernel_rfl) (fun _ _ _ h=>h) (Or.inl ⟨by rfl,?_⟩) (by assumption) ?_
         rotate_left 1
         ·intro w hSw;(try dsimp only at hSw);go_simp <;> with_reducible rfl
         try simp only [List.getElem_toArray,List.getElem_cons_zero,Act.put,List.setIfInBounds_toArray,List.set_cons_zero,List.set_cons_succ]
         refine wpAnyH_take (i:=1) (v:=?_) rfl (by kernel_rfl) (by kernel_rfl) (by kernel_rfl) (fun _ _ _ h=>h) (Or.inl ⟨by rfl,?_⟩) (by assumption) ?_
         rotate_left 1
         ·intro w hSw;(try dsimp only at hSw);go_simp <;> with_reducible rfl
         try simp only [List.getElem_toArray,List.getElem_cons_zero,List.getElem_cons_succ,Act.put,List.setIfInBounds_toArray,List.set_cons_zero,List.set_cons_succ]
         refine wpAnyH_take (i:=2) (v:=?_) rfl (by kernel_rfl) (by kernel_rfl) (by kernel_rfl) (fun _ _ _ h=>h) (Or.inl ⟨by rfl,?_⟩) (by assumption) ?_
         rotate_left 1
         ·intro w hSw;(try dsimp only at hSw);go_simp <;> with_reducible rfl
         try simp only [List.getElem_toArray,List.getElem_cons_zero,List.getElem_cons_succ,Act.put,List.setIfInBounds_toArray,List.set_cons_zero,List.set_cons_succ]
         refine wpAnyH_take (i:=3) (v:=?_) rfl (by kernel_rfl) (by kernel_rfl) (by kernel_rfl) (fun _ _ _ h=>h) (Or.inl ⟨by rfl,?_⟩) (by assumption) ?_
         rotate_left 1
         ·intro w hSw;(try dsimp only at hSw);go_simp <;> with_reducible rfl
         try simp only [List.getElem_toArray,List.getElem_cons_zero,List.getElem_cons_succ,Act.put,List.setIfInBounds_toArray,List.set_cons_zero,List.set_cons_succ]
         refine wpAnyH_take (i:=4) (v:=?_) rfl (by kernel_rfl) (by kernel_rfl) (by kernel_rfl) (fun _ _ _ h=>h) (Or.inl ⟨by rfl,?_⟩) (by assumption) ?_
         rotate_left 1
         ·intro w hSw;(try dsimp only at hSw);go_simp <;> with_reducible rfl
         try simp only [List.getElem_toArray,List.getElem_cons_zero,List.getElem_cons_succ,Act.put,List.setIfInBounds_toArray,List.set_cons_zero,List.set_cons_succ]
         refine wpAnyH_take (i:=5) (v:=?_) rfl (by kernel_rfl) (by kernel_rfl) (by kernel_rfl) (fun _ _ _ h=>h) (Or.inl ⟨by rfl,?_⟩) (by assumption) ?_
         rotate_left 1
         ·intro w hSw;(try dsimp only at hSw);go_simp <;> with_reducible rfl
         try simp only [List.getElem_toArray,List.getElem_cons_zero,List.getElem_cons_succ,Act.put,List.setIfInBounds_toArray,List.set_cons_zero,List.set_cons_succ]
         refine wpAnyH_ready (rs:=[6]) (by kernel_rfl) (by simp) ?_
         refine AllReadyH.cons rfl (fun K hK=>?_) AllReadyH.nil
         go_simp
         go_at_call 122;((with_reducible refine (cK _).mono ?_);rintro e w4 ⟨rfl,rfl⟩)
         refine hK.out _ _ ?_ (fun hHeld2=>?_)
         ·(try dsimp only);first | exact s0 | exact s1
         clear hK K hHeld
         have hHeld:=hHeld2
         clear hHeld2
         try simp only [List.getElem_toArray,List.getElem_cons_zero,List.getElem_cons_succ,Act.put,List.setIfInBounds_toArray,List.set_cons_zero,List.set_cons_succ]
         refine wpAnyH_take (i:=7) (v:=?_) rfl (by kernel_rfl) (by kernel_rfl) (by kernel_rfl) (fun _ _ _ h=>h) (Or.inl ⟨by rfl,?_⟩) (by assumption) ?_
         rotate_left 1
         ·intro w hSw;(try dsimp only at hSw);go_simp <;> with_reducible rfl
         try simp only [List.getElem_toArray,List.getElem_cons_zero,List.getElem_cons_succ,Act.put,List.setIfInBounds_toArray,List.set_cons_zero,List.set_cons_succ]
         refine wpAnyH_take (i:=8) (v:=?_) rfl (by kernel_rfl) (by kernel_rfl) (by kernel_rfl) (fun _ _ _ h=>h) (Or.inl ⟨by rfl,?_⟩) (by assumption) ?_
         rotate_left 1
         ·intro w hSw;(try dsimp only at hSw);go_simp <;> with_reducible rfl
         try simp only [List.getElem_toArray,List.getElem_cons_zero,List.getElem_cons_succ,Act.put,List.setIfInBounds_toArray,List.set_cons_zero,List.set_cons_succ]
         refine wpAnyH_take (i:=9) (v:=?_) rfl (by kernel_rfl) (by kernel_rfl) (by kernel_rfl) (fun _ _ _ h=>h) (Or.inl ⟨by rfl,?_⟩) (by assumption) ?_
         rotate_left 1
         ·intro w hSw;(try dsimp only at hSw);go_simp <;> with_reducible rfl
         try simp only [List.getElem_toArray,List.getElem_cons_zero,List.getElem_cons_succ,Act.put,List.setIfInBounds_toArray,List.set_cons_zero,List.set_cons_succ]
         refine wpAnyH_take (i:=10) (v:=?_) rfl (by kernel_rfl) (by kernel_rfl) (by kernel_rfl) (fun _ _ _ h=>h) (Or.inl ⟨by rfl,?_⟩) (by assumption) ?_
         rotate_left 1
         ·intro w hSw;(try dsimp only at hSw);go_simp <;> with_reducible rfl
         try simp only [List.getElem_toArray,List.getElem_cons_zero,List.getElem_cons_succ,Act.put,List.setIfInBounds_toArray,List.set_cons_zero,List.set_cons_succ]
         refine wpAnyH_take (i:=11) (v:=?_) rfl (by kernel_rfl) (by kernel_rfl) (by kernel_rfl) (fun _ _ _ h=>h) (Or.inl ⟨by rfl,?_⟩) (by assumption) ?_
         rotate_left 1
         ·intro w hSw;(try dsimp only at hSw);go_simp <;> with_reducible rfl
         try simp only [List.getElem_toArray,List.getElem_cons_zero,List.getElem_cons_succ,Act.put,List.setIfInBounds_toArray,List.set_cons_zero,List.set_cons_succ]
         refine wpAnyH_take (i:=12) (v:=?_) rfl (by kernel_rfl) (by kernel_rfl) (by kernel_rfl) (fun _ _ _ h=>h) (Or.inl ⟨by rfl,?_⟩) (by assumption) ?_
         rotate_left 1
         ·intro w hSw;(try dsimp only at hSw);go_simp <;> with_reducible rfl
         try simp only [List.getElem_toArray,List.getElem_cons_zero,List.getElem_cons_succ,Act.put,List.setIfInBounds_toArray,List.set_cons_zero,List.set_cons_succ]
         refine wpAnyH_take (i:=13) (v:=?_) rfl (by kernel_rfl) (by kernel_rfl) (by kernel_rfl) (fun _ _ _ h=>h) (Or.inl ⟨by rfl,?_⟩) (by assumption) ?_
         rotate_left 1
         ·intro w hSw;(try dsimp only at hSw);go_simp <;> with_reducible rfl
         try simp only [List.getElem_toArray,List.getElem_cons_zero,List.getElem_cons_succ,Act.put,List.setIfInBounds_toArray,List.set_cons_zero,List.set_cons_succ]
         refine wpAnyH_take (i:=14) (v:=?_) rfl (by kernel_rfl) (by kernel_rfl) (by kernel_rfl) (fun _ _ _ h=>h) (Or.inl ⟨by rfl,?_⟩) (by assumption) ?_
         rotate_left 1
         ·intro w hSw;(try dsimp only at hSw);go_simp <;> with_reducible rfl
         try simp only [List.getElem_toArray,List.getElem_cons_zero,List.getElem_cons_succ,Act.put,List.setIfInBounds_toArray,List.set_cons_zero,List.set_cons_succ]
         refine wpAnyH_ready (rs:=[15]) (by kernel_rfl) (by simp) ?_
         refine AllReadyH.cons rfl (fun K hK=>?_) AllReadyH.nil
         go_simp
         go_at_call 123;((with_reducible refine (cF _).mono ?_);rintro e w5 ⟨rfl,hb5⟩;have H5:=hid ((HX.out.drewN 1).below hb5);have s1:=HS.out _ H5.out)
         refine hK.out _ _ ?_ (fun hHeld2=>?_)
         ·(try dsimp only);first | exact s0 | exact s1
         clear hK K hHeld
         have hHeld:=hHeld2
         clear hHeld2
         try simp only [List.getElem_toArray,List.getElem_cons_zero,List.getElem_cons_succ,Act.put,List.setIfInBounds_toArray,List.set_cons_zero,List.set_cons_succ]
         refine wpAnyH_take (i:=16) (v:=?_) rfl (by kernel_rfl) (by kernel_rfl) (by kernel_rfl) (fun _ _ _ h=>h) (Or.inl ⟨by rfl,?_⟩) (by assumption) ?_
         rotate_left 1
         ·intro w hSw;(try dsimp only at hSw);go_simp <;> with_reducible rfl
         try simp only [List.getElem_toArray,List.getElem_cons_zero,List.getElem_cons_succ,Act.put,List.setIfInBounds_toArray,List.set_cons_zero,List.set_cons_succ]
         refine wpAnyH_take (i:=17) (v:=?_) rfl (by kernel_rfl) (by kernel_rfl) (by kernel_rfl) (fun _ _ _ h=>h) (Or.inl ⟨by rfl,?_⟩) (by assumption) ?_
         rotate_left 1
         ·intro w hSw;(try dsimp only at hSw);go_simp <;> with_reducible rfl
         try simp only [List.getElem_toArray,List.getElem_cons_zero,List.getElem_cons_succ,Act.put,List.setIfInBounds_toArray,List.set_cons_zero,List.set_cons_succ]
         refine wpAnyH_take (i:=18) (v:=?_) rfl (by kernel_rfl) (by kernel_rfl) (by kernel_rfl) (fun _ _ _ h=>h) (Or.inl ⟨by rfl,?_⟩) (by assumption) ?_
         rotate_left 1
         ·intro w hSw;(try dsimp only at hSw);go_simp <;> with_reducible rfl
         try simp only [List.getElem_toArray,List.getElem_cons_zero,List.getElem_cons_succ,Act.put,List.setIfInBounds_toArray,List.set_cons_zero,List.set_cons_succ]
         refine wpAnyH_take (i:=19) (v:=?_) rfl (by kernel_rfl) (by kernel_rfl) (by kernel_rfl) (fun _ _ _ h=>h) (Or.inl ⟨by rfl,?_⟩) (by assumption) ?_
         rotate_left 1
         ·intro w hSw;(try dsimp only at hSw);go_simp <;> with_reducible rfl
         try simp only [List.getElem_toArray,List.getElem_cons_zero,List.getElem_cons_succ,Act.put,List.setIfInBounds_toArray,List.set_cons_zero,List.set_cons_succ]
         refine wpAnyH_take (i:=20) (v:=?_) rfl (by kernel_rfl) (by kernel_rfl) (by kernel_rfl) (fun _ _ _ h=>h) (Or.inl ⟨by rfl,?_⟩) (by assumption) ?_
         rotate_left 1
         ·intro w hSw;(try dsimp only at hSw);go_simp <;> with_reducible rfl
         try simp only [List.getElem_toArray,List.getElem_cons_zero,List.getElem_cons_succ,Act.put,List.setIfInBounds_toArray,List.set_cons_zero,List.set_cons_succ]
         refine wpAnyH_take (i:=21) (v:=?_) rfl (by kernel_rfl) (by kernel_rfl) (by kernel_rfl) (fun _ _ _ h=>h) (Or.inl ⟨by rfl,?_⟩) (by assumption) ?_
         rotate_left 1
         ·intro w hSw;(try dsimp only at hSw);go_simp <;> with_reducible rfl
         try simp only [List.getElem_toArray,List.getElem_cons_zero,List.getElem_cons_succ,Act.put,List.setIfInBounds_toArray,List.set_cons_zero,List.set_cons_succ]
         refine wpAnyH_take (i:=22) (v:=undef) rfl (by kernel_rfl) (by kernel_rfl) (by kernel_rfl) (fun _ _ _ h=>h) (Or.inr ⟨by rfl,rfl⟩) (by assumption) ?_
         try simp only [List.getElem_toArray,List.getElem_cons_zero,List.getElem_cons_succ,Act.put,List.setIfInBounds_toArray,List.set_cons_zero,List.set_cons_succ]
         refine wpAnyH_take (i:=23) (v:=undef) rfl (by kernel_rfl) (by kernel_rfl) (by kernel_rfl) (fun _ _ _ h=>h) (Or.inr ⟨by rfl,rfl⟩) (by assumption) ?_
         try simp only [List.getElem_toArray,List.getElem_cons_zero,List.getElem_cons_succ,Act.put,List.setIfInBounds_toArray,List.set_cons_zero,List.set_cons_succ]
         refine wpAnyH_take (i:=24) (v:=undef) rfl (by kernel_rfl) (by kernel_rfl) (by kernel_rfl) (fun _ _ _ h=>h) (Or.inr ⟨by rfl,rfl⟩) (by assumption) ?_
         try simp only [List.getElem_toArray,List.getElem_cons_zero,List.getElem_cons_succ,Act.put,List.setIfInBounds_toArray,List.set_cons_zero,List.set_cons_succ]
         refine wpAnyH_take (i:=25) (v:=undef) rfl (by kernel_rfl) (by kernel_rfl) (by kernel_rfl) (fun _ _ _ h=>h) (Or.inr ⟨by rfl,rfl⟩) (by assumption) ?_
         try simp only [List.getElem_toArray,List.getElem_cons_zero,List.getElem_cons_succ,Act.put,List.setIfInBounds_toArray,List.set_cons_zero,List.set_cons_succ]
         refine wpAnyH_take (i:=26) (v:=undef) rfl (by kernel_rfl) (by kernel_rfl) (by kernel_rfl) (fun _ _ _ h=>h) (Or.inr ⟨by rfl,rfl⟩) (by assumption) ?_
         try simp only [List.getElem_toArray,List.getElem_cons_zero,List.getElem_cons_succ,Act.put,List.setIfInBounds_toArray,List.set_cons_zero,List.set_cons_succ]
         refine wpAnyH_take (i:=27) (v:=undef) rfl (by kernel_rfl) (by kernel_rfl) (by kernel_rfl) (fun _ _ _ h=>h) (Or.inr ⟨by rfl,rfl⟩) (by assumption) ?_
         try simp only [List.getElem_toArray,List.getElem_cons_zero,List.getElem_cons_succ,Act.put,List.setIfInBounds_toArray,List.set_cons_zero,List.set_cons_succ]
         refine wpAnyH_take (i:=28) (v:=undef) rfl (by kernel_rfl) (by kernel_rfl) (by kernel_rfl) (fun _ _ _ h=>h) (Or.inr ⟨by rfl,rfl⟩) (by assumption) ?_
         try simp only [List.getElem_toArray,List.getElem_cons_zero,List.getElem_cons_succ,Act.put,List.setIfInBounds_toArray,List.set_cons_zero,List.set_cons_succ]
         refine wpAnyH_take (i:=29) (v:=undef) rfl (by kernel_rfl) (by kernel_rfl) (by kernel_rfl) (fun _ _ _ h=>h) (Or.inr ⟨by rfl,rfl⟩) (by assumption) ?_
         try simp only [List.getElem_toArray,List.getElem_cons_zero,List.getElem_cons_succ,Act.put,List.setIfInBounds_toArray,List.set_cons_zero,List.set_cons_succ]
         refine wpAnyH_take (i:=30) (v:=undef) rfl (by kernel_rfl) (by kernel_rfl) (by kernel_rfl) (fun _ _ _ h=>h) (Or.inr ⟨by rfl,rfl⟩) (by assumption) ?_
         try simp only [List.getElem_toArray,List.getElem_cons_zero,List.getElem_cons_succ,Act.put,List.setIfInBounds_toArray,List.set_cons_zero,List.set_cons_succ]
         refine wpAnyH_take (i:=31) (v:=undef) rfl (by kernel_rfl) (by kernel_rfl) (by kernel_rfl) (fun _ _ _ h=>h) (Or.inr ⟨by rfl,rfl⟩) (by assumption) ?_
         try simp only [List.getElem_toArray,List.getElem_cons_zero,List.getElem_cons_succ,Act.put,List.setIfInBounds_toArray,List.set_cons_zero,List.set_cons_succ]
         refine wpAnyH_take (i:=32) (v:=undef) rfl (by kernel_rfl) (by kernel_rfl) (by kernel_rfl) (fun _ _ _ h=>h) (Or.inr ⟨by rfl,rfl⟩) (by assumption) ?_
         try simp only [List.getElem_toArray,List.getElem_cons_zero,List.getElem_cons_succ,Act.put,List.setIfInBounds_toArray,List.set_cons_zero,List.set_cons_succ]
         refine wpAnyH_take (i:=33) (v:=undef) rfl (by kernel_rfl) (by kernel_rfl) (by kernel_rfl) (fun _ _ _ h=>h) (Or.inr ⟨by rfl,rfl⟩) (by assumption) ?_
         try simp only [List.getElem_toArray,List.getElem_cons_zero,List.getElem_cons_succ,Act.put,List.setIfInBounds_toArray,List.set_cons_zero,List.set_cons_succ]
         refine wpAnyH_take (i:=34) (v:=undef) rfl (by kernel_rfl) (by kernel_rfl) (by kernel_rfl) (fun _ _ _ h=>h) (Or.inr ⟨by rfl,rfl⟩) (by assumption) ?_
         try simp only [List.getElem_toArray,List.getElem_cons_zero,List.getElem_cons_succ,Act.put,List.setIfInBounds_toArray,List.set_cons_zero,List.set_cons_succ]
         refine wpAnyH_take (i:=35) (v:=undef) rfl (by kernel_rfl) (by kernel_rfl) (by kernel_rfl) (fun _ _ _ h=>h) (Or.inr ⟨by rfl,rfl⟩) (by assumption) ?_
         try simp only [List.getElem_toArray,List.getElem_cons_zero,List.getElem_cons_succ,Act.put,List.setIfInBounds_toArray,List.set_cons_zero,List.set_cons_succ]
         refine wpAnyH_take (i:=36) (v:=?_) rfl (by kernel_rfl) (by kernel_rfl) (by kernel_rfl) (fun _ _ _ h=>h) (Or.inl ⟨by rfl,?_⟩) (by assumption) ?_
         rotate_left 1
         ·intro w hSw;(try dsimp only at hSw);go_simp <;> with_reducible rfl
         try simp only [List.getElem_toArray,List.getElem_cons_zero,List.getElem_cons_succ,Act.put,List.setIfInBounds_toArray,List.set_cons_zero,List.set_cons_succ]
         refine wpAnyH_take (i:=37) (v:=?_) rfl (by kernel_rfl) (by kernel_rfl) (by kernel_rfl) (fun _ _ _ h=>h) (Or.inl ⟨by rfl,?_⟩) (by assumption) ?_
         rotate_left 1
         ·intro w hSw;(try dsimp only at hSw);go_simp <;> with_reducible rfl
         try simp only [List.getElem_toArray,List.getElem_cons_zero,List.getElem_cons_succ,Act.put,List.setIfInBounds_toArray,List.set_cons_zero,List.set_cons_succ]
         refine wpAnyH_done (by kernel_rfl) ?_ _
         go_wp2
         go_roundw
         case rel=>exact ⟨0 + 1,by omega,by go_num,Q,QV,H5.out⟩
         case measure=>simp [intOf];omega
        | succ p =>
         have hp1 : p < ws.length:=by omega
         have hgood : leB ws[p + 1].key.data.toList ws[p].key.data.toList = false→Hid (RiseP (txt (keysV ws)) (p + 1 + 1)):=fun e=>HR.out.next hk2 (by rw [keysV_get ws (p + 1) hk1];exact HZ.out) (by rw [keysV_get ws (p + 1) hk1,keysV_get ws p hp1];exact e)
         have hbad : leB ws[p + 1].key.data.toList ws[p].key.data.toList = true→Hid (formT formedB (txT (s,q) rs ws) = false):=fun e=>HK.out (.inr (.inl (rise_adj _ p hk2 (by rw [keysV_get ws (p + 1) hk1,keysV_get ws p hp1];exact e))))
         obtain ⟨b1,off1,e1,_,y0,_,_,_⟩:=HT.out.wrs.at_ (i:=p) hp1
         injection e1 with e1
         injection e1 with e1 e2
         subst e1;subst e2
         have HS2 : Hid (∀ W,Boxs w W [(w.heap.size,txV s q a n c (some ⟨b0,off,none⟩) m d,30)]→W.cell? ⟨b0,off + p * 4,none⟩ = some (.string ws[p].key)):=fun W hW=>(hW.bel.cell (p:=⟨b0,off + p * 4,none⟩) hb0).trans y0
         clear y0 HZ HR
         have y0:=HS2.out _ HX.out
         generalize ws[p + 1] = y at *
         generalize ws[p] = x at *
         obtain ⟨yk,ya,yb,yt⟩:=y
         obtain ⟨xk,xa,xb,xt⟩:=x
         have hE:=leS yk xk
         have hw : IntKind.i64.wrap (p : Int) = p:=by rw [IntKind.wrap_i64];omega
         have j1 : p < m:=by omega
         have j2 : (p : Int) < (m : Int):=by omega
         have j3 : (p : Int) + 1 < (m : Int):=by omega
         have j4 : ((p : Int) + 1).toNat = p + 1:=by omega
         have j5 : (0 : Int)≤(p : Int) + 1:=by omega
         have j6 : decide ((0 : Int) < (p : Int) + 1) = true:=decide_eq_true (by omega)
         cases hz : leB yk.data.toList xk.data.toList
         ·rw [hz] at hE
          have Q:=hgood hz
          clear hbad hgood hz
          go_upto_region 11 with (fail)
          have s0:=And.intro (HS2.out _ HX.out) (HS.out _ HX.out)
          go_region_held3 (fun w'=>w'.cell? ⟨b0,off + p * 4,none⟩ = some (.string xk)∧w'.cell? ⟨w.heap.size,3,none⟩ = some (.slice (some ⟨b0,off,none⟩) m d)∧w'.cell? ⟨b0,off + (p + 1) * 4,none⟩ = some (.string yk)∧w'.cell? ⟨b0,off + (p + 1) * 4 + 1,none⟩ = some (.int .i64 ya)∧w'.cell? ⟨b0,off + (p + 1) * 4 + 2,none⟩ = some (.int .u64 ((yb : Nat) : Int))∧w'.cell? ⟨b0,off + (p + 1) * 4 + 3,none⟩ = some (.string yt)) (first | exact s0 | exact s1)
           (first | (go_at_call 122;((with_reducible refine (cK _).mono ?_);rintro e w4 ⟨rfl,rfl⟩)) | (go_at_call 123;((with_reducible refine (cF _).mono ?_);rintro e w5 ⟨rfl,hb5⟩;have H5:=hid ((HX.out.drewN 1).below hb5);have s1:=And.intro (HS2.out _ H5.out) (HS.out _ H5.out))))
          go_wp2
          go_roundw
          case rel=>exact ⟨p + 1 + 1,by omega,by go_num,Q,QV,H5.out⟩
          case measure=>simp [intOf];omega
         ·rw [hz] at hE
          have Q:=hbad hz
          clear hbad hgood hz
          go_upto_region 11 with (fail)
          have s0:=And.intro (HS2.out _ HX.out) (HS.out _ HX.out)
          go_region_held3 (fun w'=>w'.cell? ⟨b0,off + p * 4,none⟩ = some (.string xk)∧w'.cell? ⟨w.heap.size,3,none⟩ = some (.slice (some ⟨b0,off,none⟩) m d)∧w'.cell? ⟨b0,off + (p + 1) * 4,none⟩ = some (.string yk)∧w'.cell? ⟨b0,off + (p + 1) * 4 + 1,none⟩ = some (.int .i64 ya)∧w'.cell? ⟨b0,off + (p + 1) * 4 + 2,none⟩ = some (.int .u64 ((yb : Nat) : Int))∧w'.cell? ⟨b0,off + (p + 1) * 4 + 3,none⟩ = some (.string yt)) (first | exact s0 | exact s1)
           (first | (go_at_call 122;((with_reducible refine (cK _).mono ?_);rintro e w4 ⟨rfl,rfl⟩)) | (go_at_call 123;((with_reducible refine (cF _).mono ?_);rintro e w5 ⟨rfl,hb5⟩;have H5:=hid ((HX.out.drewN 1).below hb5);have s1:=And.intro (HS2.out _ H5.out) (HS.out _ H5.out))))
          go_wp2
          go_ret
          exact ⟨by rw [Q.out];rfl,H5.out.bel⟩
     ·have Q:=hid (HR.out.done (by omega))
      have QV:=hid (all_done (fun x=>formedB (valM x)) ws k (by omega) HV.out)
      obtain ⟨x0,x1,x2,x3⟩:=(HX.out.get 0 _ _ _ rfl).four
      clear HR HV
      go_wp2
      go_ret
      exact ⟨by rw [HP.out,QR.out,Q.out,valsB,QV.out];rfl,HX.out.bel⟩
end Go.Proofs.YtcfmifongbapkaaGreatDoor
