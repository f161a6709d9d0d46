/- The law's walk of NetOrder. Condition: the bytes lie in memory. -/
import Derived.Test.YtigimmbdlhginaaNetOrderMath

import Derived.Deep.RegionHeld3

namespace Go.Proofs.Ytigimmbdlhginaa

open Go.RowKit

set_option linter.unusedVariables false
set_option linter.unusedSimpArgs false

/-- Four numbers in a box. -/
abbrev lasV (la : List Int) : Array Value := (la.map (Value.int .i64)).toArray
theorem lasV_set (la : List Int) (c : Nat) (x : Int) : (lasV la).setIfInBounds c (.int .i64 x) = lasV (la.set c x) := by
  apply Array.ext'
  simp [lasV, List.map_set]
theorem lasV_get (la : List Int) (c : Nat) (h : c < la.length) : (lasV la)[c]? = some (.int .i64 (la.getD c 0)) := by
  simp [lasV, List.getElem?_eq_getElem h, h]
/-- Where the third loop stands. -/
def Ord3 (l : List UInt8) (W : World) (g q n i : Nat) (V : World) (cs : Bags) : Prop := ∃ (R : Nat → List Nat) (la : List Int), LawN W V g cs [(q, lasV la, 58)] ∧ Left l n (n - i) cs R la
theorem wrap_m2 (y : Nat) (h : y < 256) : IntKind.i64.wrap ((y : Int).tmod 2) = ((y % 2 : Nat) : Int) := by
  rw [Int.tmod_eq_emod_of_nonneg (by omega)]
  simp [IntKind.wrap, IntKind.bits, IntKind.signed]; omega
theorem wrap_d2 (y : Nat) (h : y < 256) : IntKind.i64.wrap ((IntKind.u8.wrap ((y : Int) / 2)).tmod 2) = ((y / 2 % 2 : Nat) : Int) := by
  have e : IntKind.u8.wrap ((y : Int) / 2) = ((y / 2 : Nat) : Int) := by simp [IntKind.wrap, IntKind.bits, IntKind.signed]; omega
  rw [e, Int.tmod_eq_emod_of_nonneg (by omega)]
  simp [IntKind.wrap, IntKind.bits, IntKind.signed]; omega
theorem wrap_u8k (k : Nat) (h : k < 256) : IntKind.u8.wrap (k : Int) = (k : Int) := by
  simp [IntKind.wrap, IntKind.bits, IntKind.signed]; omega

theorem mea (n i : Nat) (h1 : wrap64 ((i : Int) + 1) = ((i + 1 : Nat) : Int)) (h2 : n - (i + 1) < n - i) : n - (intOf (Value.int .i64 (wrap64 ((i : Int) + 1)))).toNat < n - (intOf (Value.int .i64 ((i : Nat) : Int))).toNat := by
  rw [h1]
  exact h2

set_option maxRecDepth 100000 in
set_option maxHeartbeats 8000000 in
theorem order_walk (a : Option Addr) (n c : Nat) (l : List UInt8) (W : World) (hl : BAt W W.heap.size a n l) (hnc : n ≤ maxLen) :
    Calls Try.prog 7 #[.slice a n c] W (Quiet1 W (.bool true)) := by
  have HL := Lib.hid hl
  have LEN := Lib.hid hl.len
  have HNC := Lib.hid hnc
  clear hl hnc
  by_cases h60 : n ≤ 60
  · have hd60 : decide ((n : Int) > 60) = false := decide_eq_false (by omega)
    have H6 := Lib.hid h60
    clear h60
    go_enter Try.func7, Try.ntmps7
    go_wp2_with (first | (go_at_call 8; ((with_reducible refine (awake11_any _).mono ?_); rintro e w1 ⟨rfl, hb1⟩; have B1 := Lib.hid hb1; clear hb1)) | (go_at_call 10; ((with_reducible refine (new_net _).mono ?_); rintro e w2 ⟨rfl, rfl⟩; have L2 := Lib.hid (LawN.madeB B1.out))))
    generalize w1.alloc (.cells #[.map none] 62) = w2 at *
    generalize w1.heap.size = g at *
    go_loopw [4] (fun v wr => ∃ (k : Nat) (bs : Bags), v = .int .i64 k ∧ k ≤ n ∧ LawN W wr g bs [] ∧ Sent l k bs ∧ tot bs = k) (fun v _ => n - (intOf v).toNat)
    case atStart => exact ⟨0, [], rfl, Nat.zero_le _, L2.out, (fun c _ => rfl), rfl⟩
    case round =>
      obtain ⟨k, bs, rfl, hk, hL, hg, ht⟩ := hrel
      have L := Lib.hid hL
      have G := Lib.hid hg
      have T := Lib.hid ht
      clear hL hg ht L2
      by_cases hlt : k < n
      · obtain ⟨b, off, rfl, hb, hc⟩ := HL.out.at_ (i := k) (by have := LEN.out; omega)
        have hc0 : wr.cell? ⟨b, off + k, none⟩ = some (.int .u8 (l[k]'(by have := LEN.out; omega)).toNat) := (L.out.bel.cell (p := ⟨b, off + k, none⟩) hb).trans hc
        have HY : Hid ((l[k]'(by have := LEN.out; omega)) = l.getD k 0) := by
          unfold Hid
          rw [List.getD_eq_getElem?_getD, List.getElem?_eq_getElem (by have := LEN.out; omega)]; rfl
        generalize (l[k]'(by have := LEN.out; omega)) = y at *
        have h256 := y.toNat_lt
        have hd : decide ((k : Int) < (n : Int)) = true := decide_eq_true (by omega)
        have hin : (k : Int) < (n : Int) := by omega
        go_upto_region 7 with fail
        have s0 : wr.drew.cell? ⟨b, off + k, none⟩ = some (.int .u8 (y.toNat : Int)) := hc0
        have s1 : (wr.alloc (.cells #[.int .u8 (IntKind.u8.wrap (k : Int))] 5)).drew.cell? ⟨b, off + k, none⟩ = some (.int .u8 (y.toNat : Int)) := ((below_alloc wr (.cells #[.int .u8 (IntKind.u8.wrap (k : Int))] 5)).cell (p := ⟨b, off + k, none⟩) (block_lt hc0)).trans hc0
        have hk60 : k < 60 := by have := H6.out; omega
        have hcl : clsAt l k = y.toNat % 4 := by unfold clsAt; rw [← HY.out]
        have e0 : lkOf (clsAt l k) = (((y.toNat % 2 : Nat) : Int), ((y.toNat / 2 % 2 : Nat) : Int)) := by rw [hcl]; exact lkOf_byte y.toNat
        have cS : Calls Try.prog 18 #[.pointer (some ⟨g, 0, none⟩), .int .i64 (IntKind.i64.wrap ((y.toNat : Int).tmod 2)), .int .i64 (IntKind.i64.wrap ((IntKind.u8.wrap ((y.toNat : Int) / 2)).tmod 2)), .slice (some ⟨wr.heap.size, 0, none⟩) 1 1] ((wr.alloc (.cells #[.int .u8 (IntKind.u8.wrap (k : Int))] 5)).drew) fun e w' => e = .returned (.bool true) ∧ LawN W w' g (keepB bs (lkOf (clsAt l k)) (getB bs (lkOf (clsAt l k)) ++ [pk1 k])) [] := by
          rw [wrap_m2 y.toNat h256, wrap_d2 y.toNat h256, wrap_u8k k (by omega), e0]
          refine send_yes_law _ _ (some ⟨wr.heap.size, 0, none⟩) 1 1 (pk1 k) (L.out.later ((below_alloc wr _).trans (below_drewN 1 (Below.refl _ _)))) (byte_row wr k _ (byte_of k (by omega))) (by omega) ?_
          rw [← e0, G.out _ (clsAt_lt l k), List.length_map]
          have := cls_len l (clsAt l k) k
          omega
        clear hcl e0
        go_region_held3 (fun w' => w'.cell? ⟨b, off + k, none⟩ = some (.int .u8 (y.toNat : Int))) (first | exact s0 | exact s1 | exact s2)
          (first | (go_at_call 18; ((with_reducible refine cS.mono ?_); rintro e w3 ⟨rfl, hL3⟩; have L3 := Lib.hid hL3; have s2 : w3.cell? ⟨b, off + k, none⟩ = some (.int .u8 (y.toNat : Int)) := (L3.out.bel.cell (p := ⟨b, off + k, none⟩) hb).trans hc; clear hL3)))
        go_wp2
        have hgd := L.out.good
        go_roundw
        case rel => exact ⟨k + 1, _, by go_num, by omega, L3.out, G.out.next, by
          have h1 := tot_keep hgd (lkOf (clsAt l k)) (getB bs (lkOf (clsAt l k)) ++ [pk1 k])
          have h2 := T.out
          rw [List.length_append] at h1
          simp at h1
          omega⟩
        case measure => simp [intOf]; omega
      · have hkn : n = k := by omega
        subst hkn
        have hgd := L.out.good
        have L9 := Lib.hid (L.out.more #[.int .i64 0, .int .i64 0, .int .i64 0, .int .i64 0] 58)
        have GQ : Hid (wr.heap.size < (wr.alloc (.cells #[.int .i64 0, .int .i64 0, .int .i64 0, .int .i64 0] 58)).heap.size) := by unfold Hid; simp
        clear hlt hk
        go_upto_region 11 with fail
        generalize hW9 : wr.alloc (.cells #[.int .i64 0, .int .i64 0, .int .i64 0, .int .i64 0] 58) = w9 at *
        generalize hq : wr.heap.size = q at *
        have GB := Lib.hid (show g ≠ q from fun e => by
          obtain ⟨own, h1, h2, h3, h4⟩ := L9.out
          have h5 := h4 _ (List.mem_cons_self ..)
          obtain ⟨m, gs, hn, _, rfl⟩ := h1
          exact h5.2.2 (by rw [← e]; exact List.mem_cons_self ..))
        clear hW9 hq
        go_loopw [6] (fun v w10 => ∃ (i : Nat) (la : List Int), v = .int .i64 i ∧ i ≤ 4 ∧ LawN W w10 g bs [(q, lasV la, 58)] ∧ la.length = 4 ∧ ∀ c, c < i → la.getD c 0 = -1) (fun v _ => 4 - (intOf v).toNat)
        case atStart => exact ⟨0, [0, 0, 0, 0], rfl, by omega, L9.out, rfl, fun c hc => absurd hc (Nat.not_lt_zero _)⟩
        case round =>
          obtain ⟨i, la, rfl, hi, hL, hla, hall⟩ := hrel
          have M := Lib.hid hL
          have HA := Lib.hid hall
          have HLA := Lib.hid hla
          clear hL hall hla
          by_cases hlt : i < 4
          · have hd : decide ((i : Int) < 4) = true := decide_eq_true (by omega)
            have hin : (i : Int) < 4 := by omega
            have y0 := (M.out.box 0 _ _ _ rfl).cell i _ (lasV_get la i (by have := HLA.out; omega))
            have f0 := (M.out.box 0 _ _ _ rfl).frozen i
            go_wp2
            go_roundw
            case rel => exact ⟨i + 1, la.set i (-1), by go_num, by omega, by
              have h := M.out.set (fun b hb => by cases hb) (by decide) i (.int .i64 (-1))
              rw [lasV_set] at h
              exact h, by rw [List.length_set]; exact HLA.out, fun c hc => by
              have hl := HLA.out
              by_cases e : c = i
              · subst e
                rw [List.getD_eq_getElem?_getD, List.getElem?_set_self (by omega)]; rfl
              · rw [List.getD_eq_getElem?_getD, List.getElem?_set_ne (Ne.symm e), ← List.getD_eq_getElem?_getD]
                exact HA.out c (by omega)⟩
            case measure => simp [intOf]; omega
          · obtain rfl : i = 4 := by omega
            have ela : la = [-1, -1, -1, -1] := by
              have hl := HLA.out
              refine List.ext_getElem (by rw [hl]; rfl) fun c h1 h2 => ?_
              have h3 := HA.out c (by omega)
              rw [List.getD_eq_getElem?_getD, List.getElem?_eq_getElem h1] at h3
              have h4 : la[c] = -1 := h3
              rw [h4]
              rcases (by omega : c = 0 ∨ c = 1 ∨ c = 2 ∨ c = 3) with rfl | rfl | rfl | rfl <;> rfl
            subst ela
            have LF := Lib.hid (Left.start G.out)
            clear L9 HA HLA hi hlt
            go_upto_region 15 with fail
            go_loopw [7] (fun v w11 => ∃ (i : Nat) (cs : Bags), v = .int .i64 i ∧ i ≤ n ∧ Ord3 l W g q n i w11 cs ∧ tot cs = n - i) (fun v _ => n - (intOf v).toNat)
            case atStart => exact ⟨0, bs, rfl, Nat.zero_le _, ⟨_, _, M.out, LF.out⟩, T.out⟩
            case round =>
              obtain ⟨i, cs, rfl, hi, ⟨R, la, hL, hF⟩, ht⟩ := hrel
              have N := Lib.hid hL
              have F := Lib.hid hF
              have TT := Lib.hid ht
              clear hL hF ht M LF L G T
              by_cases hlt : i < n
              · obtain ⟨j, hj⟩ : ∃ j, n - i = j + 1 := ⟨n - i - 1, by omega⟩
                obtain ⟨b, off, rfl, hb, hc⟩ := HL.out.at_ (i := j) (by have := LEN.out; omega)
                have hd : decide ((i : Int) < (n : Int)) = true := decide_eq_true (by omega)
                have hij : wrap64 (wrap64 ((n : Int) - 1) - (i : Int)) = (j : Int) := by have := H6.out; simp only [wrap64]; omega
                have hjn : (j : Int) < (n : Int) := by omega
                have y0 : wr.cell? ⟨b, off + j, none⟩ = some (.int .u8 (l[j]'(by have := LEN.out; omega)).toNat) := (N.out.bel.cell (p := ⟨b, off + j, none⟩) hb).trans hc
                have HJ : Hid (clsAt l j = (l[j]'(by have := LEN.out; omega)).toNat % 4) := by
                  unfold Hid clsAt
                  rw [List.getD_eq_getElem?_getD, List.getElem?_eq_getElem (by have := LEN.out; omega)]; rfl
                generalize (l[j]'(by have := LEN.out; omega)) = y at *
                obtain ⟨c1, hc1⟩ : ∃ c1, y.toNat % 4 = c1 := ⟨_, rfl⟩
                rw [hc1] at HJ
                have HC4 : Hid (c1 < 4) := by unfold Hid; omega
                have ec : ((y.toNat : Int) % 4) = (c1 : Int) := by omega
                have h256 := y.toNat_lt
                clear hc hc1
                have hF1 := F.out
                rw [hj] at hF1
                have FF := Lib.hid hF1
                obtain ⟨x, r, hxr⟩ := hF1.head
                rw [HJ] at hxr
                have hmx := hF1.mem c1 HC4.out x (by rw [hxr]; exact List.mem_cons_self ..)
                have hx60 : x < 60 := by have := H6.out; omega
                have XR := Lib.hid hxr
                have hlen1 : (getB cs (lkOf c1)).length = r.length + 1 := by rw [hF1.get c1 HC4.out, hxr]; simp
                have hle : (getB cs (lkOf c1)).length ≤ 1099511627776 := by
                  rw [hF1.get c1 HC4.out, List.length_map, hF1.cnt c1 HC4.out]
                  have := cls_len l c1 (j + 1)
                  have := H6.out
                  omega
                have cT : Calls Try.prog 20 #[.pointer (some ⟨g, 0, none⟩), .int .i64 ((c1 : Int) % 2), .int .i64 ((c1 : Int) / 2), .int .i64 0] wr fun e w' => ∃ v, e = .returned (.tuple #[v, .bool true]) ∧ PkAt w' v (pk1 x) ∧ LawN W w' g (keepB cs (lkOf c1) ((getB cs (lkOf c1)).eraseIdx 0)) [(q, lasV la, 58)] := by
                  rw [show ((c1 : Int) % 2) = ((c1 % 2 : Nat) : Int) from by omega, show ((c1 : Int) / 2) = ((c1 / 2 : Nat) : Int) from by omega]
                  refine (take_yes_law ((c1 % 2 : Nat) : Int) ((c1 / 2 : Nat) : Int) 0 N.out hle (by show 0 < (getB cs (lkOf c1)).length; omega)).mono fun e w' ⟨v, h1, h2, h3⟩ => ⟨v, h1, ?_, h3⟩
                  have e5 : (getB cs (lkOf c1))[0]? = some (pk1 x) := by rw [hF1.get c1 HC4.out, hxr]; rfl
                  rw [List.getElem?_eq_getElem (by omega)] at e5
                  injection e5 with e5
                  rw [← e5]; exact h2
                have HMX := Lib.hid hmx
                have HX60 := Lib.hid hx60
                clear hF1 hxr hlen1 hle hmx
                go_upto_region 19 with (go_at_call 20; ((with_reducible refine cT.mono ?_); rintro e w6 ⟨v, rfl, hp6, hL6⟩; have L6 := Lib.hid hL6; obtain ⟨b6, o6, c6, rfl, y6⟩ := hp6.byte; rw [← byte_of x (by omega)] at y6; clear hL6 hp6))
                obtain ⟨bz, oz, ez, _, hcz⟩ := HL.out.at_ (i := x) (by have := LEN.out; have := HMX.out.1; omega)
                injection ez with ez; injection ez with ez1 ez2; subst ez1; subst ez2
                have HZ : Hid ((l[x]'(by have := LEN.out; have := HMX.out.1; omega)).toNat % 4 = c1) := by
                  have h := HMX.out.2.1
                  unfold clsAt at h
                  rw [List.getD_eq_getElem?_getD, List.getElem?_eq_getElem (by have := LEN.out; have := HMX.out.1; omega)] at h
                  exact h
                have yz : w6.cell? ⟨b, off + x, none⟩ = some (.int .u8 (l[x]'(by have := LEN.out; have := HMX.out.1; omega)).toNat) := (L6.out.bel.cell (p := ⟨b, off + x, none⟩) hb).trans hcz
                generalize (l[x]'(by have := LEN.out; have := HMX.out.1; omega)) = z at *
                have zc : ((z.toNat : Int) % 4) = (c1 : Int) := by have := HZ.out; omega
                have hz256 := z.toNat_lt
                obtain ⟨lx, hlx⟩ : ∃ lx, la.getD c1 0 = lx := ⟨_, rfl⟩
                have yl : w6.cell? ⟨q, c1, none⟩ = some (.int .i64 lx) := (L6.out.box 0 _ _ _ rfl).cell c1 _ (by rw [lasV_get la c1 (by rw [FF.out.len]; exact HC4.out), hlx])
                have fl := (L6.out.box 0 _ _ _ rfl).frozen c1
                have hlt2 : decide ((x : Int) ≤ lx) = false := decide_eq_false (by have := HMX.out.2.2; omega)
                have hc4 : (c1 : Int) < 4 := by have := HC4.out; omega
                have hxn : (x : Int) < (n : Int) := by have := HMX.out.1; omega
                have hx64 : (x : Int) % 64 = (x : Int) := by omega
                clear hcz y0
                go_quiet (fail)
                go_wp2
                have hgd := N.out.good
                have hw60 := H6.out
                have EW : Hid (wrap64 ((i : Int) + 1) = ((i + 1 : Nat) : Int)) := by unfold Hid wrap64; omega
                have HI1 : Hid (i + 1 ≤ n) := by unfold Hid; omega
                have HM1 : Hid (n - (i + 1) < n - i) := by unfold Hid; omega
                have HJ1 : Hid (n - (i + 1) = j) := by unfold Hid; omega
                have HT1 : Hid (tot (keepB cs (lkOf c1) ((getB cs (lkOf c1)).eraseIdx 0)) = n - (i + 1)) := by
                  have h1 := tot_keep hgd (lkOf c1) ((getB cs (lkOf c1)).eraseIdx 0)
                  have h2 := TT.out
                  have h3 : (getB cs (lkOf c1)).length = r.length + 1 := by
                    have h4 := FF.out.get c1 HC4.out
                    have h5 := XR.out
                    rw [h4, h5]; simp
                  rw [List.length_eraseIdx, if_pos (by omega), h3] at h1
                  unfold Hid
                  clear hij ec zc hx64 hd hjn hc4 hxn hlt2 h256 hz256 hw60
                  omega
                clear hw60 hij
                go_roundw
                case rel => exact ⟨i + 1, EW.out, HI1.out, keepB cs (lkOf c1) ((getB cs (lkOf c1)).eraseIdx 0), ⟨(fun c => if c = c1 then r else R c), la.set c1 (x : Int), by
                  have h := (L6.out.later (below_drewN nq (Below.refl _ _))).set (fun b hb => by cases hb) (by decide) c1 (.int .i64 (x : Int))
                  rw [lasV_set] at h
                  exact h, by
                  have h := FF.out.next (by rw [HJ]; exact XR.out)
                  rw [HJ] at h
                  rw [HJ1.out]
                  exact h⟩, HT1.out⟩
                case measure => exact mea n i EW.out HM1.out
              · obtain rfl : i = n := by omega
                have ht0 : tot cs = 0 := by have := TT.out; omega
                have cC := count_law N.out (by omega)
                rw [ht0] at cC
                go_wp2_with (first | (go_at_call 12; ((with_reducible refine cC.mono ?_); rintro e w7 ⟨rfl, hL7⟩; have L7 := Lib.hid hL7; clear hL7)))
                go_ret
                exact ⟨rfl, L7.out.bel⟩
  · have hd60 : decide ((n : Int) > 60) = true := decide_eq_true (by omega)
    go_enter Try.func7, Try.ntmps7
    go_wp2_with (first
      | (go_at_call 8; ((with_reducible refine (awake11_any _).mono ?_); rintro e w2 ⟨rfl, hb⟩; have B2 := Lib.hid (B1.out.trans (hb.mono B1.out.size)); clear hb)) | (go_at_call 8; ((with_reducible refine (awake11_any _).mono ?_); rintro e w1 ⟨rfl, hb1⟩; have B1 := Lib.hid hb1; clear hb1)))
    go_ret
    exact ⟨rfl, B2.out⟩
end Go.Proofs.Ytigimmbdlhginaa
