/- Contracts of the document's own Few, Formed and Home of layer config, and of the statements' few. Conditions: the lists lie in memory. -/
import Derived.Test.YtnplheagemglnaaConfigCalls

namespace Go.Proofs.Ytnplheagemglnaa

open Go.RowKit

/-- Sizes that are looked at. -/
def shortB (s : ByteArray) : Bool := decide (s.size ≤ 1000)
def fewC (n : Nat) (Bs : List ByteArray) : Bool := (Bs.take 20).all shortB && (decide (n ≤ 20) && decide (Bs.length ≤ 20))
def fewK (Ks : List ByteArray) : Bool := (Ks.take 60).all shortB && decide (Ks.length ≤ 50)
theorem look_bad {α : Type} (p : α → Bool) (l : List α) (N k : Nat) (hN : k < N) (h : k < l.length) (hp : p l[k] = false) : (l.take N).all p = false :=
  all_bad p (l.take N) k (by simp; omega) (by rw [List.getElem_take]; exact hp)
theorem look_done {α : Type} (p : α → Bool) (l : List α) (N k : Nat) (hN : k ≤ N) (h : k = N ∨ l.length ≤ k) (ht : (l.take k).all p = true) : (l.take N).all p = true := by
  rcases h with rfl | h
  · exact ht
  · rw [List.take_of_length_le h] at ht
    rw [List.take_of_length_le (by omega)]; exact ht
theorem fewC_yes {n : Nat} {Bs : List ByteArray} (h : fewC n Bs = true) : n ≤ 20 ∧ Bs.length ≤ 20 := by
  unfold fewC at h
  simp only [Bool.and_eq_true, decide_eq_true_eq] at h
  exact h.2
theorem fewK_yes {Ks : List ByteArray} (h : fewK Ks = true) : Ks.length ≤ 50 := by
  unfold fewK at h
  simp only [Bool.and_eq_true, decide_eq_true_eq] at h
  exact h.2

set_option maxHeartbeats 1000000 in
theorem rFew_any (a : Option Addr) (n c : Nat) (b : Option Addr) (m d : Nat) (R : List Int) (Bs : List ByteArray) (w : World) (h : CfgAt w a n b m R Bs) :
    Calls Try.prog 9 #[.agg #[.slice a n c, .slice b m d]] w (Says w (fewC n Bs)) := by
  have hO := one_box w #[.slice a n c, .slice b m d] 25
  have HC := Lib.hid (h.later hO)
  have hB := h.lenB
  have HU : Hid (fewC n Bs = ((Bs.take 20).all shortB && (decide (n ≤ 20) && decide (Bs.length ≤ 20)))) := rfl
  clear h
  go_enter Try.func9, Try.ntmps9
  go_wp2
  go_loop [3] (fun i => ∃ k : Nat, k ≤ 20 ∧ k ≤ m ∧ i = .int .i64 k ∧ Hid ((Bs.take k).all shortB = true)) (fun i => 20 - (intOf i).toNat)
  case atStart => exact ⟨0, by omega, by omega, rfl, rfl⟩
  case round =>
    obtain ⟨k, hk, hkm, rfl, HT⟩ := hrel
    by_cases hgo : k < m ∧ k < 20
    · obtain ⟨hlt, h20⟩ := hgo
      have hl : k < Bs.length := by omega
      have hbad := fun h => Lib.hid (look_bad shortB Bs 20 k h20 hl h)
      have hgood := fun h => Lib.hid (all_next shortB Bs k hl HT.out h)
      obtain ⟨b0, off, rfl, _, hc⟩ := HC.out.strs.at_ hl
      generalize Bs[k] = z at *
      by_cases hz : (1000 : Int) < (z.size : Int)
      · have Q := hbad (decide_eq_false (by omega))
        clear hbad hgood
        go_wp2
        go_ret
        exact ⟨by rw [HU.out, Q.out]; rfl, hO⟩
      · have Q := hgood (decide_eq_true (by omega))
        clear hbad hgood
        go_wp2
        go_round
        case rel => exact ⟨k + 1, by omega, by omega, by go_num, Q⟩
        case measure => simp [intOf]; omega
    · have Q := Lib.hid (look_done shortB Bs 20 k hk (by omega) HT.out)
      have e1 : decide ((n : Int) ≤ 20) = decide (n ≤ 20) := decide_eq_decide.2 (by omega)
      have e2 : decide ((m : Int) ≤ 20) = decide (Bs.length ≤ 20) := decide_eq_decide.2 (by omega)
      generalize decide (n ≤ 20) = y1 at *
      generalize decide (Bs.length ≤ 20) = y2 at *
      clear HT
      by_cases hlt : k < m
      · have d1 : decide ((k : Int) < 20) = false := by simp; omega
        cases y1
        · go_wp2
          go_ret
          exact ⟨by rw [HU.out, Q.out]; rfl, hO⟩
        · go_wp2
          go_ret
          exact ⟨by rw [HU.out, Q.out]; rfl, hO⟩
      · cases y1
        · go_wp2
          go_ret
          exact ⟨by rw [HU.out, Q.out]; rfl, hO⟩
        · go_wp2
          go_ret
          exact ⟨by rw [HU.out, Q.out]; rfl, hO⟩

set_option maxHeartbeats 1000000 in
theorem few7_any (b : Option Addr) (m d B : Nat) (Ks : List ByteArray) (w : World) (h : StrsAt w B b m Ks) :
    Calls Try.prog 10 #[.slice b m d] w fun e w' => e = .returned (.bool (fewK Ks)) ∧ w = w' := by
  have HC := Lib.hid h
  have hB := h.1
  have HU : Hid (fewK Ks = ((Ks.take 60).all shortB && decide (Ks.length ≤ 50))) := rfl
  clear h
  go_enter Try.func10, Try.ntmps10
  go_wp2
  go_loop [3] (fun i => ∃ k : Nat, k ≤ 60 ∧ k ≤ m ∧ i = .int .i64 k ∧ Hid ((Ks.take k).all shortB = true)) (fun i => 60 - (intOf i).toNat)
  case atStart => exact ⟨0, by omega, by omega, rfl, rfl⟩
  case round =>
    obtain ⟨k, hk, hkm, rfl, HT⟩ := hrel
    by_cases hgo : k < m ∧ k < 60
    · obtain ⟨hlt, h20⟩ := hgo
      have hl : k < Ks.length := by omega
      have hbad := fun h => Lib.hid (look_bad shortB Ks 60 k h20 hl h)
      have hgood := fun h => Lib.hid (all_next shortB Ks k hl HT.out h)
      obtain ⟨b0, off, rfl, _, hc⟩ := HC.out.at_ hl
      generalize Ks[k] = z at *
      by_cases hz : (1000 : Int) < (z.size : Int)
      · have Q := hbad (decide_eq_false (by omega))
        clear hbad hgood
        go_wp2
        go_ret
        exact ⟨by rw [HU.out, Q.out]; rfl, rfl⟩
      · have Q := hgood (decide_eq_true (by omega))
        clear hbad hgood
        go_wp2
        go_round
        case rel => exact ⟨k + 1, by omega, by omega, by go_num, Q⟩
        case measure => simp [intOf]; omega
    · have Q := Lib.hid (look_done shortB Ks 60 k hk (by omega) HT.out)
      have e2 : decide ((m : Int) ≤ 50) = decide (Ks.length ≤ 50) := decide_eq_decide.2 (by omega)
      generalize decide (Ks.length ≤ 50) = y2 at *
      clear HT
      by_cases hlt : k < m
      · have d1 : decide ((k : Int) < 60) = false := by simp; omega
        go_wp2
        go_ret
        exact ⟨by rw [HU.out, Q.out]; rfl, rfl⟩
      · go_wp2
        go_ret
        exact ⟨by rw [HU.out, Q.out]; rfl, rfl⟩

set_option maxHeartbeats 2000000 in
theorem rFormed_any (a : Option Addr) (n c : Nat) (b : Option Addr) (m d : Nat) (R : List Int) (Bs : List ByteArray) (w : World) (h : CfgAt w a n b m R Bs) :
    Calls Try.prog 14 #[.agg #[.slice a n c, .slice b m d]] w (Says w (formedC R (txt Bs))) := by
  have hO := one_box w #[.slice a n c, .slice b m d] 25
  have hR := h.lenR
  have hT := h.lenT
  have hB := h.lenB
  have HC := Lib.hid (h.later hO)
  have HC0 := Lib.hid h
  have H0 := Lib.hid ((Boxs.start w).more #[.slice a n c, .slice b m d] 25)
  clear h
  by_cases h1 : n < 1
  · rw [formed_len (.inl (by omega))]
    go_enter Try.func14, Try.ntmps14
    go_wp2
    go_ret
    exact ⟨rfl, hO⟩
  by_cases h4 : 4 < n
  · rw [formed_len (.inr (.inl (by omega)))]
    go_enter Try.func14, Try.ntmps14
    go_wp2
    go_ret
    exact ⟨rfl, hO⟩
  have d1 : decide ((n : Int) < 1) = false := by simp; omega
  have d4 : decide ((4 : Int) < (n : Int)) = false := by simp; omega
  by_cases hm : m + 1 = n
  · have q' : ((m : Int) != (n : Int) - 1) = false := by simp; omega
    have HP := Lib.hid (formed_parts (R := R) (L := txt Bs) (by omega) (by omega) (by omega))
    go_enter Try.func14, Try.ntmps14
    go_wp2
    go_loop [4] (fun i => ∃ k : Nat, k ≤ n ∧ i = .int .i64 k ∧ Hid ((R.take k).all sizeB = true)) (fun i => n - (intOf i).toNat)
    case atStart => exact ⟨0, Nat.zero_le _, rfl, rfl⟩
    case round =>
      obtain ⟨k, hk, rfl, HT⟩ := hrel
      by_cases hlt : k < n
      · have hl : k < R.length := by omega
        have hbad := fun h => Lib.hid (all_bad sizeB R k hl h)
        have hgood := fun h => Lib.hid (all_next sizeB R k hl HT.out h)
        obtain ⟨b0, off, rfl, _, hc⟩ := HC.out.ints.at_ hl
        generalize R[k] = z at *
        by_cases h1 : z = 1
        · subst h1
          have Q := hgood rfl
          clear hbad hgood
          go_wp2
          go_round
          case rel => exact ⟨k + 1, by omega, by go_num, Q⟩
          case measure => simp [intOf]; omega
        · by_cases h3 : z = 3
          · subst h3
            have Q := hgood rfl
            clear hbad hgood
            go_wp2
            go_round
            case rel => exact ⟨k + 1, by omega, by go_num, Q⟩
            case measure => simp [intOf]; omega
          · by_cases h5 : z = 5
            · subst h5
              have Q := hgood rfl
              clear hbad hgood
              go_wp2
              go_round
              case rel => exact ⟨k + 1, by omega, by go_num, Q⟩
              case measure => simp [intOf]; omega
            · have Q := hbad (by simp [sizeB, h1, h3, h5])
              have q1 : (z == 1) = false := by simpa using h1
              have q3 : (z == 3) = false := by simpa using h3
              have q5 : (z == 5) = false := by simpa using h5
              have p1 : (z != 1) = true := by simpa using h1
              have p3 : (z != 3) = true := by simpa using h3
              have p5 : (z != 5) = true := by simpa using h5
              clear hbad hgood
              go_wp2
              go_ret
              exact ⟨by rw [HP.out, Q.out]; rfl, hO⟩
      · have Q := Lib.hid (all_done sizeB R k (by omega) HT.out)
        clear HT
        go_wp2
        go_loopw [5] (fun i wr => ∃ k : Nat, k ≤ m ∧ i = .int .i64 k ∧ Boxs w wr [(w.heap.size, #[.slice a n c, .slice b m d], 25)] ∧ Hid (((txt Bs).take k).all keyB = true) ∧ Hid (∀ j (hj : j + 1 < (txt Bs).length), j + 1 < k → leB (txt Bs)[j + 1] (txt Bs)[j] = false)) (fun i _ => n - (intOf i).toNat)
        case atStart => exact ⟨0, Nat.zero_le _, rfl, H0.out, rfl, fun j _ h => by omega⟩
        case round =>
          obtain ⟨k, hk, rfl, hX, HT, HA⟩ := hrel
          have HX := Lib.hid hX
          clear hX
          obtain ⟨x0, x1⟩ := (HX.out.get 0 _ _ _ rfl).two
          by_cases hlt : k < m
          · have hl : k < Bs.length := by omega
            have hl' : k < (txt Bs).length := by omega
            have hbad := fun h => Lib.hid (all_bad keyB (txt Bs) k hl' h)
            have hgood := fun h => Lib.hid (all_next keyB (txt Bs) k hl' HT.out h)
            rw [txt_get Bs k hl] at hbad hgood
            obtain ⟨b0, off, rfl, _, hc⟩ := (HC0.out.later HX.out.bel).strs.at_ hl
            have cK := fun W => refKey_any Bs[k] W (HC.out.sz _ (List.getElem_mem hl))
            cases hz : keyB Bs[k].data.toList
            · rw [hz] at cK
              have Q2 := hbad hz
              clear hbad hgood hz
              generalize Bs[k] = z at *
              go_upto_region 12 with (fail)
              go_quiet ((go_at_call 28; exact quiet_same (cK _)))
              go_wp2
              go_ret
              exact ⟨by rw [HP.out, Q2.out]; simp, (HX.out.drewN _).bel⟩
            · rw [hz] at cK
              have Q2 := hgood hz
              clear hbad hgood hz
              by_cases hk0 : k = 0
              · subst hk0
                rw [Nat.add_zero] at hc
                generalize Bs[0] = z at *
                have i2 : (0 : Int) < (m : Int) := by omega
                have HA' : Hid (∀ j (hj : j + 1 < (txt Bs).length), j + 1 < 0 + 1 → leB (txt Bs)[j + 1] (txt Bs)[j] = false) := fun j _ h => by omega
                go_upto_region 12 with (fail)
                go_quiet ((go_at_call 28; exact quiet_same (cK _)))
                go_wp2
                go_roundw
                case rel => exact ⟨0 + 1, by omega, by go_num, HX.out.drewN _, Q2, HA'⟩
                case measure => simp [intOf]; omega
              · obtain ⟨p, rfl⟩ : ∃ p, k = p + 1 := ⟨k - 1, by omega⟩
                have hbad := fun h => Lib.hid (adj_bad (txt Bs) p hl' h)
                have hgood : leB (txt Bs)[p + 1] (txt Bs)[p] = false → Hid (∀ j (hj : j + 1 < (txt Bs).length), j + 1 < p + 1 + 1 → leB (txt Bs)[j + 1] (txt Bs)[j] = false) := fun h j hj hjk => by
                  by_cases e : j = p
                  · subst e; exact h
                  · exact HA.out j hj (by omega)
                rw [txt_get Bs p (by omega), txt_get Bs (p + 1) (by omega)] at hbad hgood
                obtain ⟨b1, off1, e1, _, hc'⟩ := (HC0.out.later HX.out.bel).strs.at_ (i := p) (by omega)
                injection e1 with e1
                injection e1 with e1 e2
                subst e1; subst e2
                generalize Bs[p]'(by omega) = x at *
                generalize Bs[p + 1]'(by omega) = y at *
                have hE := leS y x
                have hw : IntKind.i64.wrap (p : Int) = p := by rw [IntKind.wrap_i64]; omega
                have i1 : p < m := by omega
                have i2 : (p : Int) < (m : Int) := by omega
                have i3 : (p : Int) + 1 < (m : Int) := by omega
                have i4 : ((p : Int) + 1).toNat = p + 1 := by omega
                have i5 : (0 : Int) ≤ (p : Int) + 1 := by omega
                have i6 : decide ((0 : Int) < (p : Int) + 1) = true := decide_eq_true (by omega)
                cases hz : leB y.data.toList x.data.toList
                · rw [hz] at hE
                  have Q3 := hgood hz
                  clear hbad hgood hz
                  go_upto_region 12 with (fail)
                  go_quiet ((go_at_call 28; exact quiet_same (cK _)))
                  go_wp2
                  go_roundw
                  case rel => exact ⟨p + 1 + 1, by omega, by go_num, HX.out.drewN _, Q2, Q3⟩
                  case measure => simp [intOf]; omega
                · rw [hz] at hE
                  have Q3 := hbad hz
                  clear hbad hgood hz
                  go_upto_region 12 with (fail)
                  go_quiet ((go_at_call 28; exact quiet_same (cK _)))
                  go_wp2
                  go_ret
                  exact ⟨by rw [HP.out, Q3.out]; simp, (HX.out.drewN _).bel⟩
          · have Q2 := Lib.hid (all_done keyB (txt Bs) k (by omega) HT.out)
            have Q3 : Hid (adjB (txt Bs) = true) := adj_all _ fun j hj => HA.out j hj (by omega)
            go_wp2
            go_ret
            exact ⟨by rw [HP.out, Q.out, Q2.out, Q3.out]; rfl, HX.out.bel⟩
  · rw [formed_len (.inr (.inr (by omega)))]
    have q' : ((m : Int) != (n : Int) - 1) = true := by simp; omega
    go_enter Try.func14, Try.ntmps14
    go_wp2
    go_ret
    exact ⟨rfl, hO⟩

set_option maxHeartbeats 1000000 in
theorem rHome_any (a : Option Addr) (n c : Nat) (b : Option Addr) (m d : Nat) (R : List Int) (Bs : List ByteArray) (s : ByteArray) (w : World) (h : CfgAt w a n b m R Bs) :
    Calls Try.prog 12 #[.agg #[.slice a n c, .slice b m d], .string s] w (SaysI w (homeI R (txt Bs) s.data.toList)) := by
  have H0 := Lib.hid ((Boxs.start w).more #[.slice a n c, .slice b m d] 25)
  have HC := Lib.hid h
  have cF := rFormed_any a n c b m d R Bs _ (h.later H0.out.bel)
  have hR := h.lenR
  have hB := h.lenB
  have hT := h.lenT
  clear h
  unfold homeI
  cases hf : formedC R (txt Bs)
  · rw [hf] at cF
    go_enter Try.func12, Try.ntmps12
    go_wp2_with (go_at_call 14; ((with_reducible refine cF.mono ?_); rintro e w1 ⟨rfl, hb1⟩))
    go_ret
    exact ⟨rfl, (H0.out.below hb1).bel⟩
  · rw [hf] at cF
    have hm4 : m ≤ 4 := by have h1 := (formed_yes hf).hi; have h2 := (formed_yes hf).len; omega
    clear hf
    go_enter Try.func12, Try.ntmps12
    go_upto_region 5 with (go_at_call 14; ((with_reducible refine cF.mono ?_); rintro e w1 ⟨rfl, hb1⟩; have H1 := Lib.hid (H0.out.below hb1); obtain ⟨x0, x1⟩ := (H1.out.get 0 _ _ _ rfl).two))
    go_loop [5, 6] (fun v i => ∃ k : Nat, k ≤ m ∧ i = .int .i64 k ∧ v = .int .i64 (homeC (txt (Bs.take k)) s.data.toList : Nat)) (fun _ i => m - (intOf i).toNat)
    case atStart => exact ⟨0, Nat.zero_le _, rfl, rfl⟩
    case round =>
      obtain ⟨k, hk, rfl, rfl⟩ := hrel
      have hle := homeC_le (txt (Bs.take k)) s.data.toList
      rw [txt_len, List.length_take] at hle
      by_cases hlt : k < m
      · have hl : k < Bs.length := by omega
        have HQ := Lib.hid (homeC_snoc (txt (Bs.take k)) Bs[k].data.toList s.data.toList)
        rw [← txt_snoc Bs k hl] at HQ
        obtain ⟨b0, off, rfl, _, hc⟩ := (HC.out.later H1.out.bel).strs.at_ hl
        generalize Bs[k] = z at *
        have hE := leS z s
        generalize homeC (txt (Bs.take k)) s.data.toList = q at *
        cases hz : leB z.data.toList s.data.toList
        · rw [hz] at hE HQ
          go_wp2
          go_round
          case rel => exact ⟨k + 1, by omega, by go_num, by rw [HQ.out]; rfl⟩
          case measure => simp [intOf]; omega
        · rw [hz] at hE HQ
          go_wp2
          go_round
          case rel => exact ⟨k + 1, by omega, by go_num, by rw [HQ.out]; go_num⟩
          case measure => simp [intOf]; omega
      · have HQ : Hid (Bs.take k = Bs) := List.take_of_length_le (by omega)
        rw [HQ.out]
        go_wp2
        go_ret
        exact ⟨rfl, H1.out.bel⟩
end Go.Proofs.Ytnplheagemglnaa
