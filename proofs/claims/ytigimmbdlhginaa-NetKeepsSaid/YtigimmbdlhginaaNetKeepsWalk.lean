/- The law's walk of NetKeeps. Condition: the bytes and the pairs lie in memory. -/
import Derived.Test.YtigimmbdlhginaaNetKeepsBag

import Derived.Test.YtigimmbdlhginaaNetOrderWalk

import Derived.Test.YtigimmbdlhginaaNetPairs

import Derived.Test.YtigimmbdlhginaaNetLinksLaw

import Derived.Deep.RegionHeld3

namespace Go.Proofs.Ytigimmbdlhginaa

open Go.RowKit

set_option linter.unusedVariables false
set_option linter.unusedSimpArgs false

theorem rem_byte (z : UInt8) (r : Nat) (hr : 0 < r) : (wrap64 (z.toNat : Int)).tmod (r : Int) = ((z.toNat % r : Nat) : Int) := by
  have h1 := z.toNat_lt
  generalize z.toNat = m at *
  have e : wrap64 (m : Int) = (m : Int) := by simp only [wrap64]; omega
  rw [e, Int.tmod_eq_emod_of_nonneg (by omega)]
  omega
theorem nodup_le : ∀ (n : Nat) (o : List Nat), o.Nodup → (∀ x ∈ o, x < n) → o.length ≤ n
  | 0, o, _, h => by
    cases o with
    | nil => simp
    | cons x o => have := h x (List.mem_cons_self ..); omega
  | n + 1, o, hd, h => by
    have h1 := nodup_le n (o.erase n) (hd.sublist (List.erase_sublist ..)) fun x hx => by
      have h2 := (hd.mem_erase_iff).1 hx
      have := h x h2.2
      have := h2.1
      omega
    have h2 : o.length ≤ (o.erase n).length + 1 := by
      by_cases hm : n ∈ o
      · rw [List.length_erase_of_mem hm]; omega
      · rw [List.erase_of_not_mem hm]; omega
    omega
theorem Lft.full {n : Nat} {o : List Nat} (h : Lft n o) (hl : o.length = n) : ∀ v, v < n → v ∈ o := by
  intro v hv
  refine Decidable.by_contra fun hno => ?_
  have h1 := nodup_le n (v :: o) (List.nodup_cons.2 ⟨hno, h.nodup⟩) fun x hx => by
    rcases List.mem_cons.1 hx with rfl | hx
    · exact hv
    · exact h.lt x hx
  simp at h1
  omega

set_option maxRecDepth 100000 in
set_option maxHeartbeats 8000000 in
theorem keeps_walk (ap : Option Addr) (np cp : Nat) (ms : List (UInt8 × UInt8)) (a : Option Addr) (n c : Nat) (l : List UInt8) (W : World) (hp : RowAt W W.heap.size ap np 2 (ms.flatMap pairC)) (hpl : ms.length = np) (hpc : np ≤ maxLen) (hl : BAt W W.heap.size a n l) (hnc : n ≤ maxLen) :
    Calls Try.prog 5 #[.slice ap np cp, .slice a n c] W (Quiet1 W (.bool true)) := by
  have HL := Lib.hid hl
  have LEN := Lib.hid hl.len
  have HNC := Lib.hid hnc
  have HP := Lib.hid hp
  have PLEN := Lib.hid hpl
  have HPC := Lib.hid hpc
  clear hl hnc hp hpl hpc
  by_cases h100 : np ≤ 100
  · by_cases h60 : n ≤ 60
    · have hd60 : decide ((n : Int) > 60) = false := decide_eq_false (by omega)
      have hd100 : decide ((np : Int) > 100) = false := decide_eq_false (by omega)
      have H6 := Lib.hid h60
      have H1 := Lib.hid h100
      clear h60 h100
      go_enter Try.func5, Try.ntmps5
      go_wp2_with (first | (go_at_call 8; ((with_reducible refine (awake11_any _).mono ?_); rintro e w1 ⟨rfl, hb1⟩; have B1 := Lib.hid hb1; clear hb1)) | (go_at_call 10; ((with_reducible refine (new_net _).mono ?_); rintro e w2 ⟨rfl, rfl⟩; have L2 := Lib.hid (LawN.madeB B1.out))))
      generalize w1.alloc (.cells #[.map none] 62) = w2 at *
      generalize w1.heap.size = g at *
      go_loopw [6] (fun v wr => ∃ (k : Nat) (bs : Bags), v = .int .i64 k ∧ k ≤ n ∧ LawN W wr g bs [] ∧ BagO n bs (List.range k)) (fun v _ => n - (intOf v).toNat)
      case atStart => exact ⟨0, [], rfl, Nat.zero_le _, L2.out, BagO.start n⟩
      case round =>
        obtain ⟨k, bs, rfl, hk, hL, hB⟩ := hrel
        have L := Lib.hid hL
        have B := Lib.hid hB
        clear hL hB L2
        by_cases hlt : k < n
        · have hd : decide ((k : Int) < (n : Int)) = true := decide_eq_true (by omega)
          have hk60 : k < 60 := by have := H6.out; omega
          have cS : Calls Try.prog 18 #[.pointer (some ⟨g, 0, none⟩), .int .i64 1, .int .i64 2, .slice (some ⟨wr.heap.size, 0, none⟩) 1 1] (wr.alloc (.cells #[.int .u8 (k : Int)] 5)) fun e w' => e = .returned (.bool true) ∧ LawN W w' g (keepB bs lk12 (getB bs lk12 ++ [pk1 k])) [] := by
            refine send_yes_law _ _ (some ⟨wr.heap.size, 0, none⟩) 1 1 (pk1 k) (L.out.later (below_alloc wr _)) (byte_row wr k _ (byte_of k (by omega))) (by omega) ?_
            rw [show getB bs (1, 2) = getB bs lk12 from rfl, B.out.len, List.length_range]
            omega
          go_wp2_with (go_at_call 18; ((with_reducible refine cS.mono ?_); rintro e w3 ⟨rfl, hL3⟩; have L3 := Lib.hid hL3; clear hL3))
          go_roundw
          case rel => exact ⟨k + 1, _, by go_num, by omega, L3.out, B.out.sent L.out.good hlt⟩
          case measure => simp [intOf]; omega
        · obtain rfl : k = n := by omega
          clear hlt hk
          have hB0 := B.out
          clear B
          have B := Lib.hid hB0
          clear hB0
          go_wp2
          go_loopw [7] (fun v wr => ∃ (j : Nat) (bs : Bags) (o : List Nat), v = .int .i64 j ∧ j ≤ np ∧ LawN W wr g bs [] ∧ BagO k bs o ∧ o.length = k) (fun v _ => np - (intOf v).toNat)
          case atStart => exact ⟨0, bs, _, rfl, Nat.zero_le _, L.out, B.out, List.length_range⟩
          case round =>
            obtain ⟨j, bs2, o, rfl, hj, hL, hB, ho⟩ := hrel
            clear L B
            have L := Lib.hid hL
            have B := Lib.hid hB
            have OL := Lib.hid ho
            clear hL hB ho
            by_cases hlt : j < np ∧ 0 < k
            · obtain ⟨hj1, hk1⟩ := hlt
              have hd1 : decide ((j : Int) < (np : Int)) = true := decide_eq_true (by omega)
              have hd2 : decide ((k : Int) > 0) = true := decide_eq_true (by omega)
              obtain ⟨b, off, rfl, hb, hc0, hc1⟩ := pairs_at HP.out (i := j) (by have := PLEN.out; omega)
              have HC0 := Lib.hid hc0
              have HC1 : Hid (W.cell? ⟨b, off + j * 2 + 1, none⟩ = some (.int .u8 ((ms[j]'(by have := PLEN.out; omega)).2.toNat : Int))) := by unfold Hid; rw [Nat.add_assoc]; exact hc1
              replace hc0 := (L.out.bel.cell (p := ⟨b, off + j * 2, none⟩) hb).trans hc0
              replace hc1 := (L.out.bel.cell (p := ⟨b, off + (j * 2 + 1), none⟩) hb).trans hc1
              generalize (ms[j]'(by have := PLEN.out; omega)).1 = x at *
              generalize (ms[j]'(by have := PLEN.out; omega)).2 = y at *
              have hin : (j : Int) < (np : Int) := by omega
              have hkn : ¬ ((k : Int) = 0) := by omega
              go_upto_region 12 with fail
              have s0 : wr.drew.cell? ⟨b, off + j * 2, none⟩ = some (.int .u8 (x.toNat : Int)) ∧ wr.drew.cell? ⟨b, off + j * 2 + 1, none⟩ = some (.int .u8 (y.toNat : Int)) := ⟨hc0, by rw [Nat.add_assoc]; exact hc1⟩
              have hx8 := x.toNat_lt
              have hy8 := y.toNat_lt
              have hk60 := H6.out
              have xm : ∀ z : UInt8, (IntKind.i64.wrap (z.toNat : Int)).tmod (k : Int) = ((z.toNat % k : Nat) : Int) := fun z => by
                have := z.toNat_lt
                have h2 : z.toNat % k < k := Nat.mod_lt _ hk1
                have e : IntKind.i64.wrap (z.toNat : Int) = (z.toNat : Int) := by rw [IntKind.wrap_i64]; omega
                rw [e, Int.tmod_eq_emod_of_nonneg (by omega)]
                omega
              have cM : Calls Try.prog 21 #[.pointer (some ⟨g, 0, none⟩), .int .i64 1, .int .i64 2, .int .i64 ((IntKind.i64.wrap (x.toNat : Int)).tmod (k : Int)), .int .i64 ((IntKind.i64.wrap (y.toNat : Int)).tmod (k : Int))] wr.drew fun e w' => e = .returned (.bool true) ∧ ∃ bs' o', LawN W w' g bs' [] ∧ BagO k bs' o' ∧ o'.length = k := by
                rw [xm, xm]
                have hlen : (getB bs2 (1, 2)).length = k := by rw [show getB bs2 (1, 2) = getB bs2 lk12 from rfl, B.out.len, OL.out]
                have hxk : x.toNat % k < (getB bs2 (1, 2)).length := by rw [hlen]; exact Nat.mod_lt _ hk1
                have hyk : y.toNat % k < (getB bs2 (1, 2)).length := by rw [hlen]; exact Nat.mod_lt _ hk1
                refine (move_yes_law 1 2 (x.toNat % k) (y.toNat % k) (L.out.later (below_drewN 1 (Below.refl _ _))) (by omega) hxk hyk).mono fun e w' ⟨he, hL⟩ => ?_
                obtain ⟨o', h1, h2⟩ := B.out.moved L.out.good (x.toNat % k) (y.toNat % k) hxk
                exact ⟨he, _, o', hL, h2, h1.trans OL.out⟩
              clear xm hx8 hy8 hk60
              have hkz : ((k : Int) == 0) = false := by simp; omega
              have hk0 : ¬ (k = 0) := by omega
              go_region_held3 (fun w' => w'.cell? ⟨b, off + j * 2, none⟩ = some (.int .u8 (x.toNat : Int)) ∧ w'.cell? ⟨b, off + j * 2 + 1, none⟩ = some (.int .u8 (y.toNat : Int))) (first | exact s0 | exact s1)
                (first | (go_at_call 21; ((with_reducible refine cM.mono ?_); rintro e w3 ⟨rfl, bs3, o3, hL3, hB3, ho3⟩; have L3 := Lib.hid hL3; have B3 := Lib.hid hB3; have O3 := Lib.hid ho3; have s1 : w3.cell? ⟨b, off + j * 2, none⟩ = some (.int .u8 (x.toNat : Int)) ∧ w3.cell? ⟨b, off + j * 2 + 1, none⟩ = some (.int .u8 (y.toNat : Int))  := ⟨(L3.out.bel.cell (p := ⟨b, off + j * 2, none⟩) hb).trans HC0.out, (L3.out.bel.cell (p := ⟨b, off + j * 2 + 1, none⟩) hb).trans HC1.out⟩; clear hL3 hB3 ho3)))
              have hb1 := H1.out
              have hj100 : j < 100 := by omega
              go_wp2
              go_roundw
              case rel => exact ⟨j + 1, _, _, by go_num, by omega, L3.out, B3.out, O3.out⟩
              case measure => simp [intOf]; omega
            · clear hj
              have eo : o.length = k := OL.out
              rcases (by omega : ¬ j < np ∨ (j < np ∧ k = 0)) with h1 | ⟨h1, h2⟩
              · have hd1 : decide ((j : Int) < (np : Int)) = false := decide_eq_false (by omega)
                clear hlt eo
                go_upto_region 15 with fail
                clear h1
                have M0 := Lib.hid (L.out.more (seenC k o) 54)
                have SE : seenC k o = #[.bool false, .bool false, .bool false, .bool false, .bool false, .bool false, .bool false, .bool false, .bool false, .bool false, .bool false, .bool false, .bool false, .bool false, .bool false, .bool false, .bool false, .bool false, .bool false, .bool false, .bool false, .bool false, .bool false, .bool false, .bool false, .bool false, .bool false, .bool false, .bool false, .bool false, .bool false, .bool false, .bool false, .bool false, .bool false, .bool false, .bool false, .bool false, .bool false, .bool false, .bool false, .bool false, .bool false, .bool false, .bool false, .bool false, .bool false, .bool false, .bool false, .bool false, .bool false, .bool false, .bool false, .bool false, .bool false, .bool false, .bool false, .bool false, .bool false, .bool false, .bool false, .bool false, .bool false, .bool false] := (seenC_start k o (B.out.left.full OL.out)).trans (by rfl)
                dsimp only at SE
                rw [← SE]
                generalize wr.heap.size = q at *
                generalize wr.alloc (.cells (seenC k o) 54) = w9 at *
                clear SE L
                go_wp2
                go_loopw [9] (fun v wr => ∃ (i : Nat) (bs : Bags) (o : List Nat), v = .int .i64 i ∧ i ≤ k ∧ LawN W wr g bs [(q, seenC k o, 54)] ∧ BagO k bs o ∧ o.length = k - i) (fun v _ => k - (intOf v).toNat)
                case atStart => exact ⟨0, _, o, rfl, Nat.zero_le _, M0.out, B.out, OL.out⟩
                case round =>
                  clear M0 B OL
                  obtain ⟨i, bs3, o3, rfl, hi, hL, hB, ho⟩ := hrel
                  have L := Lib.hid hL
                  have B := Lib.hid hB
                  have OL := Lib.hid ho
                  clear hL hB ho
                  by_cases hlt : i < k
                  · obtain ⟨b, off, rfl, hb, hc⟩ := HL.out.at_ (i := i) (by have := LEN.out; omega)
                    have hd : decide ((i : Int) < (k : Int)) = true := decide_eq_true (by omega)
                    have hin : (i : Int) < (k : Int) := by omega
                    have hc9 : wr.cell? ⟨b, off + i, none⟩ = some (.int .u8 (l[i]'(by have := LEN.out; omega)).toNat) := (L.out.bel.cell (p := ⟨b, off + i, none⟩) hb).trans hc
                    generalize (l[i]'(by have := LEN.out; omega)) = y at *
                    have HC := Lib.hid hc
                    clear hc
                    obtain ⟨r, hr⟩ : ∃ r, k - i = r := ⟨_, rfl⟩
                    have hr0 : 0 < r := by omega
                    have hsub : wrap64 ((k : Int) - (i : Int)) = (r : Int) := by have := H6.out; simp only [wrap64]; omega
                    have hr1 : ((r : Int) == 0) = false := by simp; omega
                    have hr2 : ¬ ((r : Int) = 0) := by omega
                    have hr3 : ¬ (r = 0) := by omega
                    have ha : y.toNat % r < o3.length := by rw [OL.out, hr]; exact Nat.mod_lt _ hr0
                    have HA := Lib.hid ha
                    have hlen : (getB bs3 (1, 2)).length = o3.length := B.out.len
                    have cT : Calls Try.prog 20 #[.pointer (some ⟨g, 0, none⟩), .int .i64 1, .int .i64 2, .int .i64 ((wrap64 (y.toNat : Int)).tmod (r : Int))] wr fun e w' => ∃ v, e = .returned (.tuple #[v, .bool true]) ∧ PkAt w' v (pk1 (o3[y.toNat % r]'ha)) ∧ LawN W w' g (keepB bs3 lk12 ((getB bs3 lk12).eraseIdx (y.toNat % r))) [(q, seenC k o3, 54)] := by
                      have e0 := rem_byte y r hr0
                      rw [e0]
                      refine (take_yes_law 1 2 (y.toNat % r) L.out (by have := H6.out; have := OL.out; omega) (by rw [hlen]; exact ha)).mono fun e w' ⟨v, h1, h2, h3⟩ => ⟨v, h1, ?_, h3⟩
                      have e5 : (getB bs3 (1, 2))[y.toNat % r]? = some (pk1 (o3[y.toNat % r]'ha)) := by
                        rw [show getB bs3 (1, 2) = getB bs3 lk12 from rfl, B.out.get, List.getElem?_map, List.getElem?_eq_getElem ha]; rfl
                      rw [List.getElem?_eq_getElem (by rw [hlen]; exact ha)] at e5
                      injection e5 with e5
                      rw [← e5]; exact h2
                    have XL : Hid (o3[y.toNat % r]'ha < k) := B.out.left.lt _ (List.getElem_mem ha)
                    have XM : Hid (o3[y.toNat % r]'ha ∈ o3) := List.getElem_mem ha
                    have XS := Lib.hid (seenC_set B.out.left (y.toNat % r) ha (by have := H6.out; omega))
                    have XT := Lib.hid (B.out.taken L.out.good (y.toNat % r))
                    have XE : Hid ((o3.eraseIdx (y.toNat % r)).length = k - (i + 1)) := by
                      unfold Hid
                      rw [List.length_eraseIdx, if_pos ha, OL.out]
                      omega
                    generalize (o3[y.toNat % r]'ha) = x at *
                    generalize keepB bs3 lk12 ((getB bs3 lk12).eraseIdx (y.toNat % r)) = bs4 at *
                    generalize o3.eraseIdx (y.toNat % r) = o4 at *
                    have HR := Lib.hid hr
                    clear hr ha hlen
                    go_upto_region 19 with (go_at_call 20; ((with_reducible refine cT.mono ?_); rintro e w6 ⟨v, rfl, hp6, hL6⟩; have L6 := Lib.hid hL6; obtain ⟨b6, o6, c6, rfl, y6⟩ := hp6.byte; clear hL6 hp6))
                    have hk60 := H6.out
                    have hxk := XL.out
                    rw [← byte_of x (by omega)] at y6
                    have hx64 : (x : Int) < 64 := by omega
                    have hge : decide ((x : Int) ≥ 64) = false := decide_eq_false (by omega)
                    have yl : w6.cell? ⟨q, x, none⟩ = some (.bool false) := by
                      have h := (L6.out.box 0 _ _ _ rfl).cell x _ (seenC_at k o3 x (by omega))
                      rw [decide_eq_false (fun h => h.2 XM.out)] at h
                      exact h
                    have fl := (L6.out.box 0 _ _ _ rfl).frozen x
                    clear hc9 hsub hr1 hr2 hr3 hr0 hxk hk60 cT
                    go_wp2
                    have hk60 := H6.out
                    have EW : Hid (wrap64 ((i : Int) + 1) = ((i + 1 : Nat) : Int)) := by unfold Hid wrap64; omega
                    have HI1 : Hid (i + 1 ≤ k) := by unfold Hid; omega
                    have HM1 : Hid (k - (i + 1) < k - i) := by unfold Hid; omega
                    clear hk60
                    go_roundw
                    case rel => exact ⟨i + 1, bs4, o4, by rw [EW.out], HI1.out, by
                      have h := L6.out.set (fun b hb => by cases hb) (by decide) x (.bool true)
                      rw [XS.out] at h
                      exact h, XT.out, XE.out⟩
                    case measure => exact mea k i EW.out HM1.out
                  · obtain rfl : i = k := by omega
                    have e0 : o3 = [] := List.eq_nil_of_length_eq_zero (by rw [OL.out]; omega)
                    subst e0
                    have e1 : bs3 = [] := B.out.none L.out.good
                    subst e1
                    have cT := take_no_law 1 2 0 L.out (by simp [getB]) (by simp [getB])
                    go_wp2_with (first | (go_at_call 20; ((with_reducible refine cT.mono ?_); rintro e w7 ⟨rfl, hL7⟩; have L7 := Lib.hid hL7; clear hL7)) | (go_at_call 12; ((with_reducible refine (count_law L7.out (by decide)).mono ?_); rintro e w8 ⟨rfl, hL8⟩; have L8 := Lib.hid hL8; clear hL8)) | (go_at_call 13; ((with_reducible refine (links_none L8.out).mono ?_); rintro e w10 ⟨a10, c10, rfl, hL10⟩; have L10 := Lib.hid hL10; clear hL10)))
                    go_ret
                    exact ⟨rfl, L10.out.bel⟩
              · subst h2
                have hd1 : decide ((j : Int) < (np : Int)) = true := decide_eq_true (by omega)
                have e0 : o = [] := List.eq_nil_of_length_eq_zero eo
                subst e0
                have e1 : bs2 = [] := B.out.none L.out.good
                subst e1
                have M0 := fun o => L.out.later (below_alloc wr o)
                have cT := fun o => take_no_law 1 2 0 (M0 o) (by simp [getB]) (by simp [getB])
                clear hlt eo B OL
                go_upto_region 15 with fail
                go_wp2
                refine wp_loop_rounds 1 ?_
                rw [rounds_succ]
                go_wp2_with (first | (go_at_call 20; ((with_reducible refine (cT _).mono ?_); rintro e w7 ⟨rfl, hL7⟩; have L7 := Lib.hid hL7; clear hL7)) | (go_at_call 12; ((with_reducible refine (count_law L7.out (by decide)).mono ?_); rintro e w8 ⟨rfl, hL8⟩; have L8 := Lib.hid hL8; clear hL8)) | (go_at_call 13; ((with_reducible refine (links_none L8.out).mono ?_); rintro e w10 ⟨a10, c10, rfl, hL10⟩; have L10 := Lib.hid hL10; clear hL10)))
                go_ret
                exact ⟨rfl, L10.out.bel⟩
    · have hd60 : decide ((n : Int) > 60) = true := decide_eq_true (by omega)
      have hd100 : decide ((np : Int) > 100) = false := decide_eq_false (by omega)
      go_enter Try.func5, Try.ntmps5
      go_wp2_with (first
        | (go_at_call 8; ((with_reducible refine (awake11_any _).mono ?_); rintro e w2 ⟨rfl, hb⟩; have B2 := Lib.hid (B1.out.trans (hb.mono B1.out.size)); clear hb)) | (go_at_call 8; ((with_reducible refine (awake11_any _).mono ?_); rintro e w1 ⟨rfl, hb1⟩; have B1 := Lib.hid hb1; clear hb1)))
      go_ret
      exact ⟨rfl, B2.out⟩
  · have hd100 : decide ((np : Int) > 100) = true := decide_eq_true (by omega)
    go_enter Try.func5, Try.ntmps5
    go_wp2_with (first
      | (go_at_call 8; ((with_reducible refine (awake11_any _).mono ?_); rintro e w2 ⟨rfl, hb⟩; have B2 := Lib.hid (B1.out.trans (hb.mono B1.out.size)); clear hb)) | (go_at_call 8; ((with_reducible refine (awake11_any _).mono ?_); rintro e w1 ⟨rfl, hb1⟩; have B1 := Lib.hid hb1; clear hb1)))
    go_ret
    exact ⟨rfl, B2.out⟩
end Go.Proofs.Ytigimmbdlhginaa
