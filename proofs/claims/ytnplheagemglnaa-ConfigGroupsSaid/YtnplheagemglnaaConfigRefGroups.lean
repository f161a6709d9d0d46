/- Contract of the document's own Groups of layer config. Conditions: the configuration's lists and the keys lie in memory. -/
import Derived.Test.YtnplheagemglnaaConfigGroups

namespace Go.Proofs.Ytnplheagemglnaa

open Go.RowKit

theorem home_of {R : List Int} {L : List (List UInt8)} (h : formedC R L = true) (k : List UInt8) : homeI R L k = (homeC L k : Nat) := by unfold homeI; rw [if_pos h]

set_option maxHeartbeats 2000000 in
theorem rGroups_any (a : Option Addr) (n c : Nat) (b : Option Addr) (m d : Nat) (R : List Int) (Bs : List ByteArray) (e : Option Addr) (p f : Nat) (Ks : List ByteArray) (w : World) (h : CfgAt w a n b m R Bs) (hK : StrsAt w w.heap.size e p Ks) (hp : p ≤ maxLen) :
    Calls Try.prog 17 #[.agg #[.slice a n c, .slice b m d], .slice e p f] w (NewN w (groupsI R (txt Bs) (txt Ks))) := by
  unfold maxLen at hp
  have H0 := Lib.hid ((Boxs.start w).more #[.slice a n c, .slice b m d] 25)
  have HK := Lib.hid hK
  have hKl := hK.1
  have hR := h.lenR
  have cF := fun W (hW : Below w.heap.size w W) => rFormed_any a n c b m d R Bs W (h.later hW)
  have cH := fun q W (hW : Below w.heap.size w W) => rHome_any a n c b m d R Bs q W (h.later hW)
  clear h hK
  cases hf : formedC R (txt Bs)
  · rw [hf] at cF
    rw [groups_no hf]
    clear hf
    go_enter Try.func17, Try.ntmps17
    go_wp2
    go_loopw [5, 6] (fun v i wr => v = .slice none 0 0 ∧ i = .int .i64 0 ∧ Boxs w wr [(w.heap.size, #[.slice a n c, .slice b m d], 25)]) (fun _ _ _ => 0)
    case atStart => exact ⟨rfl, rfl, H0.out⟩
    case round =>
      obtain ⟨rfl, rfl, hX⟩ := hrel
      have HX := Lib.hid hX
      clear hX
      obtain ⟨x0, x1⟩ := (HX.out.get 0 _ _ _ rfl).two
      by_cases hn : n = 0
      · subst hn
        go_wp2
        go_ret
        exact NewN.none HX.out.bel
      · have d1 : decide ((0 : Int) < (n : Int)) = true := decide_eq_true (by omega)
        go_wp2_with (go_at_call 14; ((with_reducible refine (cF _ HX.out.bel).mono ?_); rintro e w1 ⟨rfl, hb1⟩; have HY := Lib.hid (HX.out.below hb1)))
        go_ret
        exact NewN.none HY.out.bel
  · rw [hf] at cF
    have HF := Lib.hid (formed_yes hf)
    have hn4 : n ≤ 4 := by have h1 := HF.out.hi; omega
    have HG : Hid (groupsI R (txt Bs) (txt Ks) = groupsC n (homesL (txt Bs) Ks)) := by unfold Hid; rw [groups_yes hf, hR]
    have cH' : ∀ q W, Below w.heap.size w W → Calls Try.prog 12 #[.agg #[.slice a n c, .slice b m d], .string q] W (SaysI W (homeC (txt Bs) q.data.toList : Nat)) := fun q W hW => by
      have h1 := cH q W hW; rwa [home_of hf] at h1
    clear hf cH
    have HS := Lib.hid (fun j => groupsC_snoc j (homesL (txt Bs) Ks))
    have HL := Lib.hid (fun j => groupsC_len j (homesL (txt Bs) Ks))
    obtain ⟨i0, hi, hz0, hz1, hz2⟩ := info_parts Try.qInfo3
    go_enter Try.func17, Try.ntmps17
    go_wp2
    generalize hW0 : w.alloc (.cells #[.slice a n c, .slice b m d] 25) = W0 at *
    have hs0 : W0.heap.size = w.heap.size + 1 := by rw [← hW0]; simp
    clear hW0
    go_loopw [5, 6] (fun v i wr => ∃ (j : Nat) (x : Value), j ≤ n ∧ i = .int .i64 j ∧ x = v ∧ MadeN W0 wr x (groupsC j (homesL (txt Bs) Ks))) (fun _ i _ => n - (intOf i).toNat)
    case atStart => exact ⟨0, _, Nat.zero_le _, rfl, rfl, MadeN.start W0⟩
    case round =>
      obtain ⟨j, v, hj, rfl, rfl, hM⟩ := hrel
      have HM := Lib.hid hM
      clear hM
      obtain ⟨x0, x1⟩ := ((H0.out.below HM.out.bel).get 0 _ _ _ rfl).two
      by_cases hlt : j < n
      · have hll : (groupsC j (homesL (txt Bs) Ks)).length ≤ 4 := by have h1 := HL.out j; omega
        have HJ := Lib.hid (HS.out j)
        generalize groupsC j (homesL (txt Bs) Ks) = l at *
        go_upto_region 7 with (go_at_call 14; ((with_reducible refine (cF _ (H0.out.below HM.out.bel).bel).mono ?_); rintro e w1 ⟨rfl, hb1⟩; have HM1 := Lib.hid (HM.out.later hb1)))
        clear x0 x1
        go_loopw [7, 8] (fun t i wr => ∃ k : Nat, k ≤ p ∧ i = .int .i64 k ∧ t = .bool (decide (j ∈ homesL (txt Bs) (Ks.take k))) ∧ MadeN W0 wr v l) (fun _ i _ => p - (intOf i).toNat)
        case atStart => exact ⟨0, Nat.zero_le _, rfl, by simp [homesL, txt], HM1.out⟩
        case round =>
          obtain ⟨k, hk, rfl, rfl, hM⟩ := hrel
          have HN := Lib.hid hM
          clear hM HM1 HM
          have HX := Lib.hid (H0.out.below HN.out.bel)
          by_cases hlk : k < p
          · have hl : k < Ks.length := by omega
            have HQ := Lib.hid (homes_snoc (txt Bs) Ks k hl)
            obtain ⟨b0, off, rfl, hb0, hc0⟩ := HK.out.at_ hl
            have cN := cH' Ks[k]
            generalize Ks[k] = z at *
            generalize homeC (txt Bs) z.data.toList = q at *
            by_cases hmem : j ∈ homesL (txt Bs) (Ks.take k)
            · have e1 : decide (j ∈ homesL (txt Bs) (Ks.take k)) = true := decide_eq_true hmem
              have e2 : Hid (decide (j ∈ homesL (txt Bs) (Ks.take (k + 1))) = true) := decide_eq_true (by rw [HQ.out]; simp [hmem])
              rw [e1]
              clear hmem e1
              go_upto_region 9 with (fail)
              go_quiet (fail)
              go_wp2
              go_roundw
              case rel => exact ⟨k + 1, by omega, by go_num, by rw [e2.out], HN.out.drewN _⟩
              case measure => simp [intOf]; omega
            · have e1 : decide (j ∈ homesL (txt Bs) (Ks.take k)) = false := decide_eq_false hmem
              have e2 : Hid (decide (j ∈ homesL (txt Bs) (Ks.take (k + 1))) = ((q : Int) == (j : Int))) := by
                unfold Hid
                rw [HQ.out, Bool.eq_iff_iff]
                simp [hmem]; omega
              rw [e1]
              clear hmem e1
              have HT : Hid (∀ W, Boxs w W [(w.heap.size, #[.slice a n c, .slice b m d], 25)] → W.cell? ⟨w.heap.size, 0, none⟩ = some (.slice a n c) ∧ W.cell? ⟨w.heap.size, 1, none⟩ = some (.slice b m d) ∧ W.cell? ⟨b0, off + k, none⟩ = some (.string z)) := fun W hW =>
                ⟨(hW.get 0 _ _ _ rfl).two.1, (hW.get 0 _ _ _ rfl).two.2, (hW.bel.cell (p := ⟨b0, off + k, none⟩) hb0).trans hc0⟩
              have s0 := HT.out _ HX.out
              have HD := Lib.hid HX.out.drew
              have HND := Lib.hid (HN.out.drewN 1)
              go_upto_region 9 with (fail)
              go_region_held3 (fun w' => w'.cell? ⟨w.heap.size, 0, none⟩ = some (.slice a n c) ∧ w'.cell? ⟨w.heap.size, 1, none⟩ = some (.slice b m d) ∧ w'.cell? ⟨b0, off + k, none⟩ = some (.string z)) (first | exact s0 | exact s1)
                ((go_at_call 12; ((with_reducible refine (cN _ HD.out.bel).mono ?_); rintro e v1 ⟨rfl, hb1⟩; have HZ := Lib.hid (HND.out.later hb1); have s1 := HT.out _ (HD.out.below hb1))))
              go_wp2
              go_roundw
              case rel => exact ⟨k + 1, by omega, by go_num, by rw [e2.out], HZ.out⟩
              case measure => simp [intOf]; omega
          · have hT1 : Ks.take k = Ks := List.take_of_length_le (by omega)
            rw [hT1]
            have hown := HN.out.own
            have hsz := HN.out.bel.size
            by_cases hmem : j ∈ homesL (txt Bs) Ks
            · rw [if_pos hmem] at HJ
              rw [decide_eq_true hmem]
              clear hmem
              go_wp2_with (at_builtin; refine wpList_append_own _ rfl _ _ 22 rfl W0.heap.size 3 i0 (.int .i64 0) 1 8 Try.underlying22 hi hz0 hz1 hz2 rfl (by decide) _ _ _ rfl (hown.alloc _) ⟨wr.heap.size, 0, none⟩ 1 1 [.int .i64 j] rfl rfl (cell_one_new _ _ _) (by intro u hu; simp at hu; subst hu; rfl) (by unfold maxLen; omega) (by omega) (by simp; omega) ?_; intro v' w1 hown' hgrow _; have R := Lib.hid (HN.out.next hown' hgrow); clear hown' hgrow)
              go_roundw
              case rel => exact ⟨j + 1, _, by omega, by go_num, rfl, by rw [HJ.out]; exact R.out⟩
              case measure => simp [intOf]; omega
            · rw [if_neg hmem, List.append_nil] at HJ
              rw [decide_eq_false hmem]
              clear hmem
              go_wp2
              go_roundw
              case rel => exact ⟨j + 1, _, by omega, by go_num, rfl, by rw [HJ.out]; exact HN.out⟩
              case measure => simp [intOf]; omega
      · obtain rfl : j = n := by omega
        obtain ⟨a1, cap, rfl, hN⟩ := HM.out.lies
        have HW := Lib.hid (H0.out.below HM.out.bel).bel
        clear HM
        go_wp2
        go_ret
        rw [HG.out]
        exact ⟨a1, cap, rfl, hN, HW.out⟩
end Go.Proofs.Ytnplheagemglnaa
