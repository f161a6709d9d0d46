/- Contracts of ballot.Most and of the document's own. Conditions: the ballots lie in memory. -/
import Derived.Test.YtcmboanepllgjaaBallotNext

import Derived.Deep.RegionHeld3

import Derived.Deep.RegionWith

namespace Go.Proofs.Ytcmboanepllgjaa

open Go.RowKit

set_option linter.unusedVariables false

/-- The cells of a ballot. -/
def balC (p : Bal) : List Value := [.int .u32 p.1, .int .i64 p.2]
theorem balC_len (p : Bal) : (balC p).length = 2 := rfl
theorem balC_one (l : List Bal) : ∀ u ∈ l.flatMap balC, u.oneCell' = true := by
  intro u hu
  obtain ⟨p, _, hp⟩ := List.mem_flatMap.1 hu
  simp only [balC, List.mem_cons, List.not_mem_nil, or_false] at hp
  rcases hp with rfl | rfl <;> rfl
/-- A slice of n ballots reads as the list l. -/
def BalsAt (w : World) (B : Nat) (a : Option Addr) (n : Nat) (l : List Bal) : Prop := l.length = n ∧ RowAt w B a n 2 (l.flatMap balC)
section

variable {w w' : World} {B n : Nat} {a : Option Addr} {l : List Bal}

theorem BalsAt.nil : BalsAt w B a 0 [] := ⟨rfl, RowAt.nil⟩
theorem BalsAt.below {C : Nat} (h : BalsAt w B a n l) (hb : Below C w w') (hC : B ≤ C) : BalsAt w' B a n l := ⟨h.1, h.2.below hb hC⟩
theorem BalsAt.drewN (h : BalsAt w B a n l) (q : Nat) : BalsAt (w.drewN q) B a n l := h
theorem BalsAt.at_ (h : BalsAt w B a n l) {i : Nat} (hi : i < l.length) : ∃ b off, a = some ⟨b, off, none⟩ ∧ b < B ∧ w.cell? ⟨b, off + i * 2, none⟩ = some (.int .u32 l[i].1) ∧ w.cell? ⟨b, off + i * 2 + 1, none⟩ = some (.int .i64 l[i].2) := by
  obtain ⟨b, off, ha, hb, hc⟩ := h.2.addr (by have := h.1; omega)
  have h0 := hc (i * 2 + 0) _ (flat_get balC 2 balC_len l i 0 hi (by omega))
  have h1 := hc (i * 2 + 1) _ (flat_get balC 2 balC_len l i 1 hi (by omega))
  exact ⟨b, off, ha, hb, h0, by rw [Nat.add_assoc]; exact h1⟩
end

/-- A ballot is answered. -/
def AnsB (w : World) (x : Bal) (e : Ending) (w' : World) : Prop := e = .returned (.agg #[.int .u32 x.1, .int .i64 x.2]) ∧ Below w.heap.size w w'

set_option maxHeartbeats 1000000 in
theorem bMost_any (a : Option Addr) (n c : Nat) (l : List Bal) (w : World) (hl : BalsAt w w.heap.size a n l) (hc : n ≤ c) (hm : c ≤ maxLen) :
    Calls Try.prog 15 #[.slice a n c] w (AnsB w (mostB l)) := by
  unfold maxLen at hm
  have hlen := hl.1
  have H0 := Lib.hid ((Boxs.start w).more #[.int .u32 0, .int .i64 0] 24)
  cases l with
  | nil =>
    obtain rfl : n = 0 := by simpa using hlen.symm
    obtain ⟨z0, z1⟩ := (H0.out.get 0 _ _ _ rfl).two
    have f0 := (H0.out.get 0 _ _ _ rfl).frozen 0
    have f1 := (H0.out.get 0 _ _ _ rfl).frozen 1
    go_enter Try.func15, Try.ntmps15
    go_wp2
    exact bodyPost_ret (v := .agg #[.int .u32 0, .int .i64 0]) (by simp [results, Try.results15, go_sem, z0, z1]) rfl ⟨rfl, H0.out.bel⟩
  | cons x r =>
    obtain ⟨b, off, rfl, hb, hx0, hx1⟩ := hl.at_ (i := 0) (by simp)
    have e0 : ((n : Int) == 0) = false := by simp; simp at hlen; omega
    have hn : 0 < n := by simp at hlen; omega
    simp only [Nat.zero_mul, Nat.add_zero, List.getElem_cons_zero] at hx0 hx1
    have H1 := Lib.hid (H0.out.more #[.int .u32 x.1, .int .i64 x.2] 24)
    have hs : (w.alloc (.cells #[.int .u32 0, .int .i64 0] 24)).heap.size = w.heap.size + 1 := by simp
    rw [hs] at H1
    clear hs H0
    by_cases hc1 : c = 1
    · subst hc1
      obtain rfl : n = 1 := by omega
      obtain rfl : r = [] := by simpa using hlen
      obtain ⟨x0, x1⟩ := (H1.out.get 0 _ _ _ rfl).two
      obtain ⟨z0, z1⟩ := (H1.out.get 1 _ _ _ rfl).two
      have f0 := (H1.out.get 1 _ _ _ rfl).frozen 0
      have f1 := (H1.out.get 1 _ _ _ rfl).frozen 1
      go_enter Try.func15, Try.ntmps15
      go_wp2
      refine wp_loop_rounds 1 ?_
      rw [rounds_succ]
      go_wp2
      exact bodyPost_ret (v := .agg #[.int .u32 x.1, .int .i64 x.2]) (by simp [results, Try.results15, go_sem]) rfl ⟨rfl, two_box _ _ _ _ _⟩
    · have hrl : r.length = n - 1 := by simp at hlen; omega
      have HB := Lib.hid hl
      clear hl hlen
      go_enter Try.func15, Try.ntmps15
      go_wp2
      go_loopw [16] (fun i wr => ∃ k : Nat, k ≤ n - 1 ∧ i = .int .i64 k ∧ Boxs w wr [(w.heap.size + 1, #[.int .u32 (mostF x (r.take k)).1, .int .i64 (mostF x (r.take k)).2], 24), (w.heap.size, #[.int .u32 0, .int .i64 0], 24)]) (fun i _ => n - 1 - (intOf i).toNat)
      case atStart => exact ⟨0, by omega, rfl, H1.out⟩
      case round =>
        obtain ⟨k, hk, rfl, hB⟩ := hrel
        have HX := Lib.hid hB
        clear hB H1
        by_cases hlt : k < n - 1
        · obtain ⟨b', off', e1, _, g0, g1⟩ := (HB.out.below HX.out.bel (Nat.le_refl _)).at_ (i := k + 1) (by simp; omega)
          injection e1 with e1
          injection e1 with e1 e2
          subst e1; subst e2
          have eo : off + (k + 1) * 2 = off + 2 + k * 2 := by omega
          rw [eo] at g0 g1
          simp only [List.getElem_cons_succ] at g0 g1
          have hTk : r.take (k + 1) = r.take k ++ [r[k]] := by rw [List.take_succ_eq_append_getElem (by omega)]
          have hM : mostF x (r.take (k + 1)) = most2 (mostF x (r.take k)) r[k] := by rw [hTk, mostF_snoc]
          generalize r[k] = y at *
          obtain ⟨y1, y2⟩ := y
          generalize mostF x (r.take k) = M at *
          obtain ⟨M1, M2⟩ := M
          obtain ⟨x0, x1⟩ := (HX.out.get 0 _ _ _ rfl).two
          have HY := Lib.hid (HX.out.more #[.int .u32 y1, .int .i64 y2] 24)
          have hz : w.heap.size + 1 < wr.heap.size := (HX.out.get 0 _ _ _ rfl).lt
          obtain ⟨p0, p1⟩ := (HY.out.get 1 _ _ _ rfl).two
          obtain ⟨q0, q1⟩ := (HY.out.get 0 _ _ _ rfl).two
          have cL := fun W => bLess_any M1 M2 y1 y2 W
          clear eo hTk
          cases hd : lessB (M1, M2) (y1, y2)
          · have HM : Hid (mostF x (r.take (k + 1)) = (M1, M2)) := by rw [hM]; unfold Hid most2; rw [hd]; rfl
            rw [hd] at cL
            clear hd hM
            go_wp2_with (go_at_call 13; ((with_reducible refine (cL _).mono ?_); rintro e w2 ⟨rfl, hb2⟩; have HZ := Lib.hid (HY.out.below hb2)))
            go_roundw
            case rel => exact ⟨k + 1, by omega, by go_num, by rw [HM.out]; exact HZ.out.tail⟩
            case measure => simp [intOf]; omega
          · have HM : Hid (mostF x (r.take (k + 1)) = (y1, y2)) := by rw [hM]; unfold Hid most2; rw [hd]; rfl
            rw [hd] at cL
            clear hd hM
            go_wp2_with (go_at_call 13; ((with_reducible refine (cL _).mono ?_); rintro e w2 ⟨rfl, hb2⟩; have HZ := Lib.hid (HY.out.below hb2); obtain ⟨u0, u1⟩ := (HZ.out.get 0 _ _ _ rfl).two; obtain ⟨v0, v1⟩ := (HZ.out.get 1 _ _ _ rfl).two; have f0 := (HZ.out.get 1 _ _ _ rfl).frozen 0; have f1 := (HZ.out.get 1 _ _ _ rfl).frozen 1))
            go_roundw
            case rel => exact ⟨k + 1, by omega, by go_num, by rw [HM.out]; exact HZ.out.tail.set2 (by omega) (by simp)⟩
            case measure => simp [intOf]; omega
        · have hkn : k = n - 1 := by omega
          have HM : Hid (r.take k = r) := List.take_of_length_le (by omega)
          rw [HM.out] at HX
          have HA : Hid (mostB (x :: r) = mostF x r) := rfl
          generalize mostF x r = M at *
          obtain ⟨M1, M2⟩ := M
          obtain ⟨x0, x1⟩ := (HX.out.get 0 _ _ _ rfl).two
          obtain ⟨z0, z1⟩ := (HX.out.get 1 _ _ _ rfl).two
          have f0 := (HX.out.get 1 _ _ _ rfl).frozen 0
          have f1 := (HX.out.get 1 _ _ _ rfl).frozen 1
          go_wp2
          exact bodyPost_ret (v := .agg #[.int .u32 M1, .int .i64 M2]) (by simp [results, Try.results15, go_sem, z0, z1]) rfl ⟨by rw [HA.out], (HX.out.bel.setCell (Nat.le_refl _) _).setCell (Nat.le_refl _) _⟩

/-- Whether x lies ahead of none of l. -/
def lastB (x : Bal) (l : List Bal) : Bool := l.all fun y => !lessB x y
theorem lastB_snoc (x : Bal) (l : List Bal) (y : Bal) : lastB x (l ++ [y]) = (lastB x l && !lessB x y) := by simp [lastB]
theorem lastB_true {x : Bal} {l : List Bal} (h : lastB x l = true) : ∀ y ∈ l, lessB x y = false := by
  intro y hy; have := List.all_eq_true.1 h y hy; simpa using this
theorem lastB_false {x : Bal} {l : List Bal} (h : lastB x l = false) : ∃ y ∈ l, lessB x y = true := by
  have := List.all_eq_false.1 h; simpa using this

set_option maxHeartbeats 400000 in
theorem rMost_any (a : Option Addr) (n c : Nat) (l : List Bal) (w : World) (hl : BalsAt w w.heap.size a n l) (hc : n ≤ c) (hm : c ≤ maxLen) :
    Calls Try.prog 16 #[.slice a n c] w (AnsB w (mostB l)) := by
  unfold maxLen at hm
  have hlen := hl.1
  have HB := Lib.hid hl
  clear hl
  have H0 := Lib.hid ((Boxs.start w).more #[.int .u32 0, .int .i64 0] 28)
  go_enter Try.func16, Try.ntmps16
  go_wp2
  go_loopw [3] (fun i wr => ∃ k : Nat, k ≤ n ∧ i = .int .i64 k ∧ Boxs w wr [(w.heap.size, #[.int .u32 0, .int .i64 0], 28)] ∧ Hid (∀ j (h : j < l.length), j < k → ∃ y ∈ l, lessB l[j] y = true)) (fun i _ => n - (intOf i).toNat)
  case atStart => exact ⟨0, by omega, rfl, H0.out, fun j _ h => by omega⟩
  case round =>
    obtain ⟨k, hk, rfl, hB, hJ⟩ := hrel
    have HX := Lib.hid hB
    clear hB H0
    by_cases hlt : k < n
    · have hEx : ∃ x : Bal, Hid (∀ h : k < l.length, l[k] = x) ∧ Hid (x ∈ l) ∧ Hid (∀ W, Below w.heap.size w W → ∃ b off, a = some ⟨b, off, none⟩ ∧ W.cell? ⟨b, off + k * 2, none⟩ = some (.int .u32 x.1) ∧ W.cell? ⟨b, off + k * 2 + 1, none⟩ = some (.int .i64 x.2)) := by
        refine ⟨l[k]'(by omega), fun _ => rfl, List.getElem_mem _, fun W hW => ?_⟩
        obtain ⟨b, off, h1, _, h2, h3⟩ := (HB.out.below hW (Nat.le_refl _)).at_ (i := k) (by omega)
        exact ⟨b, off, h1, h2, h3⟩
      obtain ⟨x, HXE, HXL, HK⟩ := hEx
      obtain ⟨x1, x2⟩ := x
      go_wp2
      go_loopw [4, 5] (fun v i wr => ∃ j : Nat, j ≤ n ∧ i = .int .i64 j ∧ v = .bool (lastB (x1, x2) (l.take j)) ∧ Boxs w wr [(w.heap.size, #[.int .u32 0, .int .i64 0], 28)]) (fun _ i _ => n - (intOf i).toNat)
      case atStart => exact ⟨0, by omega, rfl, rfl, HX.out⟩
      case round =>
        obtain ⟨j, hj, rfl, rfl, hB2⟩ := hrel
        have HX2 := Lib.hid hB2
        clear hB2 HX
        by_cases hlj : j < n
        · obtain ⟨b, off, rfl, hbB, y0, y1⟩ := (HB.out.below HX2.out.bel (Nat.le_refl _)).at_ (i := j) (by omega)
          obtain ⟨b', off', e1, k0, k1⟩ := HK.out _ HX2.out.bel
          injection e1 with e1
          injection e1 with e1 e2
          subst e1; subst e2
          have hTk : l.take (j + 1) = l.take j ++ [l[j]'(by omega)] := by rw [List.take_succ_eq_append_getElem (by omega)]
          have HL : Hid (lastB (x1, x2) (l.take (j + 1)) = (lastB (x1, x2) (l.take j) && !lessB (x1, x2) (l[j]'(by omega)))) := by rw [hTk]; exact lastB_snoc _ _ _
          clear hTk
          generalize l[j]'(by omega) = y at y0 y1 HL
          obtain ⟨y1', y2'⟩ := y
          have cL := fun W => rLess_any x1 x2 y1' y2' W
          generalize lessB (x1, x2) (y1', y2') = lb at cL HL
          cases hv : lastB (x1, x2) (l.take j)
          · rw [hv] at HL
            clear hv
            have HL' : Hid (lastB (x1, x2) (l.take (j + 1)) = false) := HL.out.trans (Bool.false_and _)
            go_upto_region 8 with (fail)
            go_quiet (fail)
            go_wp2
            go_roundw
            case rel => exact ⟨j + 1, by omega, by go_num, by rw [HL'.out], HX2.out.drewN _⟩
            case measure => simp [intOf]; omega
          · rw [hv] at HL
            clear hv
            have HL' : Hid (lastB (x1, x2) (l.take (j + 1)) = !lb) := HL.out.trans (Bool.true_and _)
            have HD := Lib.hid HX2.out.drew
            have s0 : wr.cell? ⟨b, off + k * 2, none⟩ = some (.int .u32 x1) ∧ wr.cell? ⟨b, off + k * 2 + 1, none⟩ = some (.int .i64 x2) ∧ wr.cell? ⟨b, off + j * 2, none⟩ = some (.int .u32 y1') ∧ wr.cell? ⟨b, off + j * 2 + 1, none⟩ = some (.int .i64 y2') := ⟨k0, k1, y0, y1⟩
            have HS : Hid (∀ W, Below wr.drew.heap.size wr.drew W → W.cell? ⟨b, off + k * 2, none⟩ = some (.int .u32 x1) ∧ W.cell? ⟨b, off + k * 2 + 1, none⟩ = some (.int .i64 x2) ∧ W.cell? ⟨b, off + j * 2, none⟩ = some (.int .u32 y1') ∧ W.cell? ⟨b, off + j * 2 + 1, none⟩ = some (.int .i64 y2')) := fun W hW => by
              have hb' : b < wr.drew.heap.size := Nat.lt_of_lt_of_le hbB HX2.out.bel.size
              exact ⟨(hW.cell (p := ⟨b, _, none⟩) hb').trans k0, (hW.cell (p := ⟨b, _, none⟩) hb').trans k1, (hW.cell (p := ⟨b, _, none⟩) hb').trans y0, (hW.cell (p := ⟨b, _, none⟩) hb').trans y1⟩
            clear k0 k1 y0 y1
            go_upto_region 8 with (fail)
            go_region_held3 (fun w' => w'.cell? ⟨b, off + k * 2, none⟩ = some (.int .u32 x1) ∧ w'.cell? ⟨b, off + k * 2 + 1, none⟩ = some (.int .i64 x2) ∧ w'.cell? ⟨b, off + j * 2, none⟩ = some (.int .u32 y1') ∧ w'.cell? ⟨b, off + j * 2 + 1, none⟩ = some (.int .i64 y2')) (first | exact s0 | exact s1)
              ((go_at_call 14; ((with_reducible refine (cL _).mono ?_); rintro e v1 ⟨rfl, hb1⟩; have HZ := Lib.hid (HD.out.below hb1); have s1 := HS.out _ hb1)))
            go_wp2
            go_roundw
            case rel => exact ⟨j + 1, by omega, by go_num, by rw [HL'.out], HZ.out⟩
            case measure => simp [intOf]; omega
        · have hjn : j = n := by omega
          have HT : Hid (l.take j = l) := List.take_of_length_le (by omega)
          rw [HT.out]
          obtain ⟨b, off, rfl, k0, k1⟩ := HK.out _ HX2.out.bel
          obtain ⟨z0, z1⟩ := (HX2.out.get 0 _ _ _ rfl).two
          have f0 := (HX2.out.get 0 _ _ _ rfl).frozen 0
          have f1 := (HX2.out.get 0 _ _ _ rfl).frozen 1
          cases hv : lastB (x1, x2) l
          · have HJ : Hid (∀ j (h : j < l.length), j < k + 1 → ∃ y ∈ l, lessB l[j] y = true) := fun q hq hqk => by
              by_cases e : q = k
              · subst e; rw [HXE.out hq]; exact lastB_false hv
              · exact hJ.out q hq (by omega)
            clear hv
            go_wp2
            go_roundw
            case rel => exact ⟨k + 1, by omega, by go_num, HX2.out, HJ⟩
            case measure => simp [intOf]; omega
          · have HM : Hid (mostB l = (x1, x2)) := mostB_is HXL.out (lastB_true hv)
            clear hv
            go_wp2
            exact bodyPost_ret (v := .agg #[.int .u32 x1, .int .i64 x2]) (by simp [results, Try.results16, go_sem, z0, z1]) rfl ⟨by rw [HM.out], (HX2.out.bel.setCell (Nat.le_refl _) _).setCell (Nat.le_refl _) _⟩
    · have HM : Hid (mostB l = (0, 0)) := by
        cases l with
        | nil => exact rfl
        | cons y r =>
          exfalso
          obtain ⟨q, hq, e⟩ := List.getElem_of_mem (mostB_mem (y :: r) (by simp))
          obtain ⟨z, hz, hlz⟩ := hJ.out q hq (by omega)
          rw [e, mostB_ge (y :: r) z hz] at hlz
          cases hlz
      obtain ⟨z0, z1⟩ := (HX.out.get 0 _ _ _ rfl).two
      have f0 := (HX.out.get 0 _ _ _ rfl).frozen 0
      have f1 := (HX.out.get 0 _ _ _ rfl).frozen 1
      go_wp2
      exact bodyPost_ret (v := .agg #[.int .u32 0, .int .i64 0]) (by simp [results, Try.results16, go_sem, z0, z1]) rfl ⟨by rw [HM.out], (HX.out.bel.setCell (Nat.le_refl _) _).setCell (Nat.le_refl _) _⟩
end Go.Proofs.Ytcmboanepllgjaa
