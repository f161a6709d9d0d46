/- Contracts of config.Groups and of the document's own. Conditions: the configuration's lists and the keys lie in memory. -/
import Derived.Test.YtlkgpajpblhkeaaDoorGH
import Derived.Test.YtlkgpajpblhkeaaDoorQuorumList
import Derived.Deep.RegionHeld3
namespace Go.Proofs.YtlkgpajpblhkeaaDoor

open Go.RowKit

/-- Which of four groups are among hs, as the array holds it. -/
def arrB (hs : List Nat) : Array Value := #[.bool (decide (0 ∈ hs)), .bool (decide (1 ∈ hs)), .bool (decide (2 ∈ hs)), .bool (decide (3 ∈ hs))]
theorem arr_set (hs : List Nat) (q : Nat) (hq : q < 4) : (arrB hs).setIfInBounds q (.bool true) = arrB (hs ++ [q]) := by
  have : q = 0 ∨ q = 1 ∨ q = 2 ∨ q = 3 := by omega
  rcases this with rfl | rfl | rfl | rfl <;> simp [arrB, Array.setIfInBounds]
theorem arr_get (hs : List Nat) (q : Nat) (hq : q < 4) : (arrB hs)[q]? = some (.bool (decide (q ∈ hs))) := by
  have : q = 0 ∨ q = 1 ∨ q = 2 ∨ q = 3 := by omega
  rcases this with rfl | rfl | rfl | rfl <;> rfl
theorem arr_ix0 (y0 y1 y2 y3 : Bool) (w : World) : (Instr.index 96 (.agg #[.bool y0, .bool y1, .bool y2, .bool y3]) (.int .i64 ((0 : Nat) : Int))).run Tryd.prog w = .ok (.bool y0) w := by kernel_rfl
theorem arr_ix1 (y0 y1 y2 y3 : Bool) (w : World) : (Instr.index 96 (.agg #[.bool y0, .bool y1, .bool y2, .bool y3]) (.int .i64 ((1 : Nat) : Int))).run Tryd.prog w = .ok (.bool y1) w := by kernel_rfl
theorem arr_ix2 (y0 y1 y2 y3 : Bool) (w : World) : (Instr.index 96 (.agg #[.bool y0, .bool y1, .bool y2, .bool y3]) (.int .i64 ((2 : Nat) : Int))).run Tryd.prog w = .ok (.bool y2) w := by kernel_rfl
theorem arr_ix3 (y0 y1 y2 y3 : Bool) (w : World) : (Instr.index 96 (.agg #[.bool y0, .bool y1, .bool y2, .bool y3]) (.int .i64 ((3 : Nat) : Int))).run Tryd.prog w = .ok (.bool y3) w := by kernel_rfl
theorem arr_index (hs : List Nat) (j : Nat) (hj : j < 4) (w : World) : (Instr.index 96 (.agg #[.bool (decide (0 ∈ hs)), .bool (decide (1 ∈ hs)), .bool (decide (2 ∈ hs)), .bool (decide (3 ∈ hs))]) (.int .i64 (j : Int))).run Tryd.prog w = .ok (.bool (decide (j ∈ hs))) w := by
  have : j = 0 ∨ j = 1 ∨ j = 2 ∨ j = 3 := by omega
  rcases this with rfl | rfl | rfl | rfl
  · exact arr_ix0 _ _ _ _ w
  · exact arr_ix1 _ _ _ _ w
  · exact arr_ix2 _ _ _ _ w
  · exact arr_ix3 _ _ _ _ w
/-- A box is filled anew at one cell. -/
theorem Boxs.set1 {w W : World} {g : Nat} {cs : Array Value} {t : TypeId} {l : List (Nat × Array Value × TypeId)} (h : Boxs w W ((g, cs, t) :: l)) (i : Nat) (u : Value) (hg : w.heap.size ≤ g) (hl : ∀ b ∈ l, b.1 ≠ g) : Boxs w (W.setCell ⟨g, i, none⟩ u) ((g, cs.setIfInBounds i u, t) :: l) := by
  refine ⟨h.1.setCell hg _, fun b hb => ?_⟩
  rcases List.mem_cons.1 hb with rfl | hb
  · exact (h.get 0 _ _ _ rfl).set i u
  · exact (h.2 b (List.mem_cons_of_mem _ hb)).far i u (hl b hb)
theorem MadeN.later {w wr w1 : World} {v : Value} {l : List Nat} (h : MadeN w wr v l) (hb : Below wr.heap.size wr w1) : MadeN w w1 v l := ⟨ownk_below h.1 hb, h.2.trans (hb.mono h.2.size)⟩
theorem MadeN.drewN {w wr : World} {v : Value} {l : List Nat} (h : MadeN w wr v l) (q : Nat) : MadeN w (wr.drewN q) v l := h.later (below_drewN q (Below.refl _ _))
/-- The groups of the first keys. -/
def homesL (L : List (List UInt8)) (Ks : List ByteArray) : List Nat := (txt Ks).map (homeC L)
theorem homes_len (L : List (List UInt8)) (Ks : List ByteArray) : (homesL L Ks).length = Ks.length := by simp [homesL, txt]
theorem homes_snoc (L : List (List UInt8)) (Ks : List ByteArray) (k : Nat) (h : k < Ks.length) : homesL L (Ks.take (k + 1)) = homesL L (Ks.take k) ++ [homeC L Ks[k].data.toList] := by
  unfold homesL; rw [txt_snoc Ks k h, List.map_append]; rfl
theorem groups_yes {R : List Int} {L : List (List UInt8)} (h : formedC R L = true) (Ks : List ByteArray) : groupsI R L (txt Ks) = groupsC R.length (homesL L Ks) := by unfold groupsI homesL; rw [if_pos h]
theorem groups_no {R : List Int} {L : List (List UInt8)} (h : formedC R L = false) (Ks : List ByteArray) : groupsI R L (txt Ks) = [] := by unfold groupsI; rw [h]; rfl
theorem NewN.none {w w' : World} (hb : Below w.heap.size w w') : NewN w [] (.returned (.slice none 0 0)) w' := ⟨Option.none, 0, rfl, .inl rfl, hb⟩

set_option maxRecDepth 100000 in
set_option maxHeartbeats 2000000 in
theorem cGroups_any (a : Option Addr) (n c : Nat) (b : Option Addr) (m d : Nat) (R : List Int) (Bs : List ByteArray) (e : Option Addr) (p f : Nat) (Ks : List ByteArray) (w : World) (h : CfgAt w a n b m R Bs) (hK : StrsAt w w.heap.size e p Ks) (hp : p ≤ maxLen) :
    Calls Tryd.prog 52 #[.agg #[.slice a n c, .slice b m d], .slice e p f] w (NewN w (groupsI R (txt Bs) (txt Ks))) := by
  unfold maxLen at hp
  have H0 := Lib.hid ((Boxs.start w).more #[.slice a n c, .slice b m d] 36)
  have HC := Lib.hid h
  have HK := Lib.hid hK
  have hKl := hK.1
  have cF := cFormed_any a n c b m d R Bs _ (h.later H0.out.bel)
  have hR := h.lenR
  have hT := h.lenT
  clear h hK
  cases hf : formedC R (txt Bs)
  · rw [hf] at cF
    rw [groups_no hf]
    clear hf
    go_enter Tryd.func52, Tryd.ntmps52
    go_wp2_with (go_at_call 74; ((with_reducible refine cF.mono ?_); rintro e w1 ⟨rfl, hb1⟩))
    go_ret
    exact NewN.none (H0.out.below hb1).bel
  · rw [hf] at cF
    have HF := Lib.hid (formed_yes hf)
    have hm4 : m ≤ 3 := by have h1 := HF.out.hi; have h2 := HF.out.len; omega
    have HG : Hid (groupsI R (txt Bs) (txt Ks) = groupsC 4 (homesL (txt Bs) Ks)) := by unfold Hid; rw [groups_yes hf]; exact (groups_four R (txt Bs) (txt Ks) HF.out).symm
    clear hf
    obtain ⟨i0, hi, hz0, hz1, hz2⟩ := info_parts Tryd.qInfo3
    go_enter Tryd.func52, Tryd.ntmps52
    go_upto_region 5 with (go_at_call 74; ((with_reducible refine cF.mono ?_); rintro e w1 ⟨rfl, hb1⟩; have H1 := Lib.hid (H0.out.below hb1)))
    have hg1 : w.heap.size < w1.heap.size := (H1.out.get 0 _ _ _ rfl).lt
    have H2 : Hid (Boxs w (w1.alloc (.cells (arrB []) 96)) [(w1.heap.size, arrB [], 96), (w.heap.size, #[.slice a n c, .slice b m d], 36)]) := H1.out.more (arrB []) 96
    generalize w1.heap.size = g1 at *
    go_loopw [16] (fun i wr => ∃ k : Nat, k ≤ p ∧ i = .int .i64 k ∧ Boxs w wr [(g1, arrB (homesL (txt Bs) (Ks.take k)), 96), (w.heap.size, #[.slice a n c, .slice b m d], 36)]) (fun i _ => p - (intOf i).toNat)
    case atStart => exact ⟨0, Nat.zero_le _, rfl, H2.out⟩
    case round =>
      obtain ⟨k, hk, rfl, hX⟩ := hrel
      have HX := Lib.hid hX
      clear hX
      by_cases hlt : k < p
      · have hl : k < Ks.length := by omega
        have HQ := Lib.hid (homes_snoc (txt Bs) Ks k hl)
        obtain ⟨b0, off, rfl, hb0, hc0⟩ := HK.out.at_ hl
        have hc1 := (HX.out.bel.cell (p := ⟨b0, off + k, none⟩) hb0).trans hc0
        have cN := cCount_any b m d _ Bs Ks[k] wr (HC.out.later HX.out.bel).strs (by omega)
        generalize Ks[k] = z at *
        have hq := homeC_le (txt Bs) z.data.toList
        generalize homeC (txt Bs) z.data.toList = q at *
        have hcell := (HX.out.get 0 _ _ _ rfl).cell q _ (arr_get _ q (by omega))
        have hfr := (HX.out.get 0 _ _ _ rfl).frozen q
        obtain ⟨x0, x1⟩ := (HX.out.get 1 _ _ _ rfl).two
        have q4 : (q : Int) < 4 := by omega
        have R1 := Lib.hid (HX.out.set1 q (.bool true) (by omega) (by simp; omega))
        rw [arr_set _ q (by omega), ← HQ.out] at R1
        go_wp2_with (go_at_call 75; ((with_reducible refine cN.mono ?_); rintro e w2 ⟨rfl, rfl⟩))
        go_roundw
        case rel => exact ⟨k + 1, by omega, by go_num, R1.out⟩
        case measure => simp [intOf]; omega
      · have hT1 : Ks.take k = Ks := List.take_of_length_le (by omega)
        rw [hT1] at HX
        have HB := Lib.hid HX.out.bel
        have c0 := (HX.out.get 0 _ _ _ rfl).cell 0 _ (arr_get _ 0 (by omega))
        have c1 := (HX.out.get 0 _ _ _ rfl).cell 1 _ (arr_get _ 1 (by omega))
        have c2 := (HX.out.get 0 _ _ _ rfl).cell 2 _ (arr_get _ 2 (by omega))
        have c3 := (HX.out.get 0 _ _ _ rfl).cell 3 _ (arr_get _ 3 (by omega))
        clear HX hT1
        have HS := Lib.hid (fun j => groupsC_snoc j (homesL (txt Bs) Ks))
        have HL := Lib.hid (fun j => groupsC_len j (homesL (txt Bs) Ks))
        generalize homesL (txt Bs) Ks = hs at *
        go_upto_region 11 with (fail)
        clear c0 c1 c2 c3
        go_loopw [8, 27] (fun v i wr => ∃ (j : Nat), j ≤ 4 ∧ i = .int .i64 j ∧ MadeN w wr v (groupsC j hs)) (fun _ i _ => 4 - (intOf i).toNat)
        case atStart => exact ⟨0, by omega, rfl, World.ownsRow_nil _ _ _ _, HB.out⟩
        case round =>
          obtain ⟨j, hj, rfl, hM⟩ := hrel
          by_cases hlt : j < 4
          · have hll : (groupsC j hs).length ≤ 4 := by have h1 := HL.out j; omega
            have HJ := Lib.hid (HS.out j)
            have hown := hM.own
            have hsz := hM.bel.size
            generalize groupsC j hs = l at *
            have HI := arr_index hs j hlt
            clear HS HL HG
            by_cases hmem : j ∈ hs
            · rw [if_pos hmem] at HJ
              rw [decide_eq_true hmem] at HI
              clear hmem
              go_wp2_with (at_builtin; refine wpList_append_own _ rfl _ _ 33 rfl w.heap.size 3 i0 (.int .i64 0) 1 8 Tryd.underlying33 hi hz0 hz1 hz2 rfl (by decide) _ _ _ rfl (hown.alloc _) ⟨wr.heap.size, 0, none⟩ 1 1 [.int .i64 j] rfl rfl (cell_one_new _ _ _) (by intro u hu; simp at hu; subst hu; rfl) (by unfold maxLen; omega) (by omega) (by simp; omega) ?_; intro v' w1 hown' hgrow _; have R := Lib.hid (hM.next hown' hgrow); clear hown' hgrow)
              go_roundw
              case rel => exact ⟨j + 1, by omega, by go_num, by rw [HJ.out]; exact R.out⟩
              case measure => simp [intOf]; omega
            · rw [if_neg hmem, List.append_nil] at HJ
              rw [decide_eq_false hmem] at HI
              clear hmem
              go_wp2
              go_roundw
              case rel => exact ⟨j + 1, by omega, by go_num, by rw [HJ.out]; exact hM⟩
              case measure => simp [intOf]; omega
          · obtain rfl : j = 4 := by omega
            obtain ⟨a1, cap, rfl, hN⟩ := hM.lies
            have HW := Lib.hid hM.bel
            clear hM
            go_wp2
            go_ret
            rw [HG.out]
            exact ⟨a1, cap, rfl, hN, HW.out⟩
end Go.Proofs.YtlkgpajpblhkeaaDoor
