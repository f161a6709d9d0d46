/- Contracts of config's own small functions: sizes, keys, order, counts and sums. Conditions: the lists lie in memory. Contracts of config.Formed, Home, Total, Place and At, and of the statements' awake. Conditions: the configuration's lists lie in memory. Contracts of the document's own Few, Formed and Home of layer config, and of the statements' few. Conditions: the lists lie in memory. -/
import Derived.Test.YtlkgpajpblhkeaaDoorGC
import Derived.Test.YtlkgpajpblhkeaaDoorGD
import Derived.Tactics2
import Derived.Deep.DeepCutAuto
import Derived.Deep.QuietTactic
import Derived.BigQuiet
import Derived.WalkLawsBesides
/- ConfigProg -/
namespace Go.Proofs.YtlkgpajpblhkeaaDoor

open Go.RowKit
set_option maxHeartbeats 1000000 in
theorem cSizes_any (a : Option Addr) (n c B : Nat) (R : List Int) (w : World) (h : IntsAt w B a n R) (hn : n ≤ 4) :
    Calls Tryd.prog 90 #[.slice a n c] w fun e w' => e = .returned (.bool (R.all sizeB)) ∧ w = w' := by
  have hlen := h.1
  have HB := Lib.hid h
  clear h
  go_enter Tryd.func90, Tryd.ntmps90
  go_wp2
  go_loop [7] (fun i => ∃ k : Nat, k ≤ n ∧ i = .int .i64 k ∧ (R.take k).all sizeB = true) (fun i => n - (intOf i).toNat)
  case atStart => exact ⟨0, Nat.zero_le _, rfl, rfl⟩
  case round =>
    obtain ⟨k, hk, rfl, ht⟩ := hrel
    have HT := Lib.hid ht
    clear ht
    by_cases hlt : k < n
    · have hl : k < R.length := by omega
      have hbad := fun h => Lib.hid (all_bad sizeB R k hl h)
      have hgood := fun h => Lib.hid (all_next sizeB R k hl HT.out h)
      obtain ⟨b, off, rfl, _, hc⟩ := HB.out.at_ hl
      generalize R[k] = z at *
      by_cases h1 : z = 1
      · subst h1
        have Q := hgood rfl
        clear hbad hgood
        go_wp2
        go_round
        case rel => exact ⟨k + 1, by omega, by go_num, Q.out⟩
        case measure => simp [intOf]; omega
      · by_cases h3 : z = 3
        · subst h3
          have Q := hgood rfl
          clear hbad hgood
          go_wp2
          go_round
          case rel => exact ⟨k + 1, by omega, by go_num, Q.out⟩
          case measure => simp [intOf]; omega
        · by_cases h5 : z = 5
          · subst h5
            have Q := hgood rfl
            clear hbad hgood
            go_wp2
            go_round
            case rel => exact ⟨k + 1, by omega, by go_num, Q.out⟩
            case measure => simp [intOf]; omega
          · have Q := hbad (by simp [sizeB, h1, h3, h5])
            have q1 : (z == 1) = false := by simpa using h1
            have q3 : (z == 3) = false := by simpa using h3
            have q5 : (z == 5) = false := by simpa using h5
            clear hbad hgood
            go_wp2
            go_ret
            exact ⟨by rw [Q.out]; rfl, rfl⟩
    · have Q := Lib.hid (all_done sizeB R k (by omega) HT.out)
      go_wp2
      go_ret
      exact ⟨by rw [Q.out]; rfl, rfl⟩

set_option maxHeartbeats 1000000 in
theorem cKeys_any (a : Option Addr) (n c B : Nat) (Bs : List ByteArray) (w : World) (h : StrsAt w B a n Bs) (hs : ∀ z ∈ Bs, z.size ≤ maxLen) (hn : n ≤ 4) :
    Calls Tryd.prog 91 #[.slice a n c] w fun e w' => e = .returned (.bool ((txt Bs).all keyB)) ∧ w = w' := by
  have hlen := h.1
  have HB := Lib.hid h
  have HS := Lib.hid hs
  clear h hs
  go_enter Tryd.func91, Tryd.ntmps91
  go_wp2
  go_loop [7] (fun i => ∃ k : Nat, k ≤ n ∧ i = .int .i64 k ∧ ((txt Bs).take k).all keyB = true) (fun i => n - (intOf i).toNat)
  case atStart => exact ⟨0, Nat.zero_le _, rfl, rfl⟩
  case round =>
    obtain ⟨k, hk, rfl, ht⟩ := hrel
    have HT := Lib.hid ht
    clear ht
    by_cases hlt : k < n
    · have hl : k < Bs.length := by omega
      have hl' : k < (txt Bs).length := by rw [txt_len]; exact hl
      have hbad := fun h => Lib.hid (all_bad keyB (txt Bs) k hl' h)
      have hgood := fun h => Lib.hid (all_next keyB (txt Bs) k hl' HT.out h)
      rw [txt_get Bs k hl] at hbad hgood
      obtain ⟨b, off, rfl, _, hc⟩ := HB.out.at_ hl
      have cK := fun W => key_same Bs[k] W (HS.out _ (List.getElem_mem hl))
      generalize Bs[k] = z at *
      cases hz : keyB z.data.toList
      · rw [hz] at cK
        have Q := hbad hz
        clear hbad hgood hz
        go_wp2_with (go_at_call 70; ((with_reducible refine (cK _).mono ?_); rintro e w' ⟨rfl, rfl⟩))
        go_ret
        exact ⟨by rw [Q.out]; rfl, rfl⟩
      · rw [hz] at cK
        have Q := hgood hz
        clear hbad hgood hz
        go_wp2_with (go_at_call 70; ((with_reducible refine (cK _).mono ?_); rintro e w' ⟨rfl, rfl⟩))
        go_round
        case rel => exact ⟨k + 1, by omega, by go_num, Q.out⟩
        case measure => simp [intOf]; omega
    · have Q := Lib.hid (all_done keyB (txt Bs) k (by rw [txt_len]; omega) HT.out)
      go_wp2
      go_ret
      exact ⟨by rw [Q.out]; rfl, rfl⟩

set_option maxHeartbeats 1000000 in
theorem cCount_any (a : Option Addr) (n c B : Nat) (Bs : List ByteArray) (s : ByteArray) (w : World) (h : StrsAt w B a n Bs) (hn : n ≤ 4) :
    Calls Tryd.prog 75 #[.slice a n c, .string s] w fun e w' => e = .returned (.int .i64 (homeC (txt Bs) s.data.toList : Nat)) ∧ w = w' := by
  have hlen := h.1
  have HB := Lib.hid h
  clear h
  go_enter Tryd.func75, Tryd.ntmps75
  go_wp2
  go_loop [5, 10] (fun v i => ∃ k : Nat, k ≤ n ∧ i = .int .i64 k ∧ v = .int .i64 (homeC (txt (Bs.take k)) s.data.toList : Nat)) (fun _ i => n - (intOf i).toNat)
  case atStart => exact ⟨0, Nat.zero_le _, rfl, rfl⟩
  case round =>
    obtain ⟨k, hk, rfl, rfl⟩ := hrel
    have hle := homeC_le (txt (Bs.take k)) s.data.toList
    rw [txt_len, List.length_take] at hle
    by_cases hlt : k < n
    · have hl : k < Bs.length := by omega
      have HQ := Lib.hid (homeC_snoc (txt (Bs.take k)) Bs[k].data.toList s.data.toList)
      rw [← txt_snoc Bs k hl] at HQ
      obtain ⟨b, off, rfl, _, hc⟩ := HB.out.at_ hl
      generalize Bs[k] = z at *
      have hE := leS z s
      generalize homeC (txt (Bs.take k)) s.data.toList = q at *
      cases hz : leB z.data.toList s.data.toList
      · rw [hz] at hE HQ
        go_wp2
        go_round
        case rel => exact ⟨k + 1, by omega, by go_num, by rw [HQ.out]; rfl⟩
        case measure => simp [intOf]; omega
      · rw [hz] at hE HQ
        go_wp2
        go_round
        case rel => exact ⟨k + 1, by omega, by go_num, by rw [HQ.out]; go_num⟩
        case measure => simp [intOf]; omega
    · have HQ : Hid (Bs.take k = Bs) := List.take_of_length_le (by omega)
      rw [HQ.out]
      go_wp2
      go_ret
      exact ⟨rfl, rfl⟩

theorem sum_snoc (R : List Int) (k : Nat) (h : k < R.length) : (R.take (k + 1)).sum = (R.take k).sum + R[k] := by
  rw [List.take_succ_eq_append_getElem h, List.sum_append]; simp
theorem sum_le (R : List Int) (h : ∀ z ∈ R, 0 ≤ z ∧ z ≤ 5) (k : Nat) : 0 ≤ (R.take k).sum ∧ (R.take k).sum ≤ 5 * (k : Int) := by
  induction k with
  | zero => simp
  | succ k ih =>
    by_cases hk : k < R.length
    · have := h _ (List.getElem_mem hk)
      rw [sum_snoc R k hk]; omega
    · rw [List.take_of_length_le (by omega)] at ih ⊢; omega

set_option maxHeartbeats 1000000 in
theorem cRising_any (a : Option Addr) (n c B : Nat) (Bs : List ByteArray) (w : World) (h : StrsAt w B a n Bs) (hn : n ≤ 4) :
    Calls Tryd.prog 92 #[.slice a n c] w (Says w (adjB (txt Bs))) := by
  have hlen := h.1
  have hsl := txt_len Bs
  have HB := Lib.hid h
  clear h
  go_enter Tryd.func92, Tryd.ntmps92
  go_wp2
  go_loopw [3] (fun i wr => ∃ k q : Nat, k ≤ n ∧ i = .int .i64 ((k + 1 : Nat) : Int) ∧ wr = w.drewN q ∧ ∀ j (hj : j + 1 < (txt Bs).length), j < k → leB (txt Bs)[j + 1] (txt Bs)[j] = false) (fun i _ => n + 1 - (intOf i).toNat)
  case atStart => exact ⟨0, 0, Nat.zero_le _, rfl, rfl, fun j _ h => by omega⟩
  case round =>
    obtain ⟨k, q, hk, rfl, rfl, ht⟩ := hrel
    have HT := Lib.hid ht
    clear ht
    by_cases hlt : k + 1 < n
    · have hl : k + 1 < (txt Bs).length := by omega
      have hbad := fun h => Lib.hid (adj_bad (txt Bs) k hl h)
      have hgood : leB (txt Bs)[k + 1] (txt Bs)[k] = false → Hid (∀ j (hj : j + 1 < (txt Bs).length), j < k + 1 → leB (txt Bs)[j + 1] (txt Bs)[j] = false) := fun h j hj hjk => by
        by_cases e : j = k
        · subst e; exact h
        · exact HT.out j hj (by omega)
      rw [txt_get Bs k (by omega), txt_get Bs (k + 1) (by omega)] at hbad hgood
      obtain ⟨b, off, rfl, _, hc⟩ := HB.out.at_ (i := k) (by omega)
      obtain ⟨b', off', e1, _, hc'⟩ := HB.out.at_ (i := k + 1) (by omega)
      injection e1 with e1
      injection e1 with e1 e2
      subst e1; subst e2
      generalize Bs[k]'(by omega) = x at *
      generalize Bs[k + 1]'(by omega) = y at *
      have hE := ltS x y
      have hw : IntKind.i64.wrap (k : Int) = k := by rw [IntKind.wrap_i64]; omega
      have i1 : k < n := by omega
      have i2 : (k : Int) < (n : Int) := by omega
      have i3 : (k : Int) + 1 < (n : Int) := by omega
      have i4 : ((k : Int) + 1).toNat = k + 1 := by omega
      have i5 : (0 : Int) ≤ (k : Int) + 1 := by omega
      cases hz : leB y.data.toList x.data.toList
      · rw [hz] at hE
        have Q := hgood hz
        clear hbad hgood hz
        go_upto_region 4 with (fail)
        go_quiet (fail)
        go_wp2
        go_roundw
        case rel => exact ⟨k + 1, _, by omega, by go_num, rfl, Q.out⟩
        case measure => simp [intOf]; omega
      · rw [hz] at hE
        have Q := hbad hz
        clear hbad hgood hz
        go_upto_region 4 with (fail)
        go_quiet (fail)
        go_wp2
        go_ret
        exact ⟨by rw [Q.out]; rfl, below_drewN _ (Below.refl _ _)⟩
    · have Q : Hid (adjB (txt Bs) = true) := adj_all _ fun j hj => HT.out j hj (by omega)
      go_wp2
      go_ret
      exact ⟨by rw [Q.out]; rfl, below_drewN _ (Below.refl _ _)⟩
end Go.Proofs.YtlkgpajpblhkeaaDoor

/- ConfigCalls -/
namespace Go.Proofs.YtlkgpajpblhkeaaDoor

open Go.RowKit

/-- A configuration's lists lie in memory. -/
def CfgAt (w : World) (a : Option Addr) (n : Nat) (b : Option Addr) (m : Nat) (R : List Int) (Bs : List ByteArray) : Prop :=
  IntsAt w w.heap.size a n R ∧ StrsAt w w.heap.size b m Bs ∧ ∀ z ∈ Bs, z.size ≤ maxLen
section

variable {w w' : World} {a b : Option Addr} {n m : Nat} {R : List Int} {Bs : List ByteArray}

theorem CfgAt.later (h : CfgAt w a n b m R Bs) (hb : Below w.heap.size w w') : CfgAt w' a n b m R Bs :=
  ⟨(h.1.below hb (Nat.le_refl _)).more hb.size, (h.2.1.below hb (Nat.le_refl _)).more hb.size, h.2.2⟩
theorem CfgAt.lenR (h : CfgAt w a n b m R Bs) : R.length = n := h.1.1
theorem CfgAt.lenB (h : CfgAt w a n b m R Bs) : Bs.length = m := h.2.1.1
theorem CfgAt.lenT (h : CfgAt w a n b m R Bs) : (txt Bs).length = m := (txt_len Bs).trans h.2.1.1
theorem CfgAt.sz (h : CfgAt w a n b m R Bs) : ∀ z ∈ Bs, z.size ≤ maxLen := h.2.2
theorem CfgAt.ints (h : CfgAt w a n b m R Bs) : IntsAt w w.heap.size a n R := h.1
theorem CfgAt.strs (h : CfgAt w a n b m R Bs) : StrsAt w w.heap.size b m Bs := h.2.1
end

/-- A number is answered; a pair of numbers. -/
def SaysI (w : World) (z : Int) (e : Ending) (w' : World) : Prop := e = .returned (.int .i64 z) ∧ Below w.heap.size w w'
def SaysP (w : World) (z : Int × Int) (e : Ending) (w' : World) : Prop := e = .returned (.tuple #[.int .i64 z.1, .int .i64 z.2]) ∧ Below w.heap.size w w'

set_option maxHeartbeats 1000000 in
theorem cFormed_any (a : Option Addr) (n c : Nat) (b : Option Addr) (m d : Nat) (R : List Int) (Bs : List ByteArray) (w : World) (h : CfgAt w a n b m R Bs) :
    Calls Tryd.prog 74 #[.agg #[.slice a n c, .slice b m d]] w (Says w (formedC R (txt Bs))) := by
  have hO := one_box w #[.slice a n c, .slice b m d] 36
  have hR := h.lenR
  have hT := h.lenT
  have HC := Lib.hid (h.later hO)
  by_cases h1 : n < 1
  · rw [formed_len (.inl (by omega))]
    clear h
    go_enter Tryd.func74, Tryd.ntmps74
    go_wp2
    go_ret
    exact ⟨rfl, hO⟩
  by_cases h4 : 4 < n
  · rw [formed_len (.inr (.inl (by omega)))]
    clear h
    go_enter Tryd.func74, Tryd.ntmps74
    go_wp2
    go_ret
    exact ⟨rfl, hO⟩
  by_cases hm : m + 1 = n
  · rw [formed_parts (by omega) (by omega) (by omega)]
    have q' : ((m : Int) != (n : Int) - 1) = false := by simp; omega
    have d1 : decide ((n : Int) < 1) = false := by simp; omega
    have d4 : decide ((4 : Int) < (n : Int)) = false := by simp; omega
    have cS := cSizes_any a n c _ R _ HC.out.ints (by omega)
    have cK := cKeys_any b m d _ Bs _ HC.out.strs HC.out.sz (by omega)
    have cA := cRising_any b m d _ Bs _ HC.out.strs (by omega)
    clear h
    generalize adjB (txt Bs) = x3 at cA ⊢
    cases h1 : R.all sizeB
    · rw [h1] at cS
      clear h1
      go_enter Tryd.func74, Tryd.ntmps74
      go_wp2_with (go_at_call 90; ((with_reducible refine cS.mono ?_); rintro e w1 ⟨rfl, rfl⟩))
      go_ret
      exact ⟨rfl, hO⟩
    · rw [h1] at cS
      clear h1
      cases h2 : (txt Bs).all keyB
      · rw [h2] at cK
        clear h2
        go_enter Tryd.func74, Tryd.ntmps74
        go_wp2_with (first | (go_at_call 90; ((with_reducible refine cS.mono ?_); rintro e w1 ⟨rfl, rfl⟩)) | (go_at_call 91; ((with_reducible refine cK.mono ?_); rintro e w1 ⟨rfl, rfl⟩)))
        go_ret
        exact ⟨rfl, hO⟩
      · rw [h2] at cK
        clear h2
        go_enter Tryd.func74, Tryd.ntmps74
        go_wp2_with (first | (go_at_call 90; ((with_reducible refine cS.mono ?_); rintro e w1 ⟨rfl, rfl⟩)) | (go_at_call 91; ((with_reducible refine cK.mono ?_); rintro e w1 ⟨rfl, rfl⟩)) | (go_at_call 92; ((with_reducible refine cA.mono ?_); rintro e w1 ⟨rfl, hb1⟩)))
        go_ret
        exact ⟨rfl, hO.trans (hb1.mono hO.size)⟩
  · rw [formed_len (.inr (.inr (by omega)))]
    have q' : ((m : Int) != (n : Int) - 1) = true := by simp; omega
    have d1 : decide ((n : Int) < 1) = false := by simp; omega
    have d4 : decide ((4 : Int) < (n : Int)) = false := by simp; omega
    clear h
    go_enter Tryd.func74, Tryd.ntmps74
    go_wp2
    go_ret
    exact ⟨rfl, hO⟩

set_option maxHeartbeats 1000000 in
theorem cHome_any (a : Option Addr) (n c : Nat) (b : Option Addr) (m d : Nat) (R : List Int) (Bs : List ByteArray) (s : ByteArray) (w : World) (h : CfgAt w a n b m R Bs) :
    Calls Tryd.prog 50 #[.agg #[.slice a n c, .slice b m d], .string s] w (SaysI w (homeI R (txt Bs) s.data.toList)) := by
  have H0 := Lib.hid ((Boxs.start w).more #[.slice a n c, .slice b m d] 36)
  have HC := Lib.hid h
  have cF := cFormed_any a n c b m d R Bs _ (h.later H0.out.bel)
  have hR := h.lenR
  have hT := h.lenT
  clear h
  unfold homeI
  cases hf : formedC R (txt Bs)
  · rw [hf] at cF
    go_enter Tryd.func50, Tryd.ntmps50
    go_wp2_with (go_at_call 74; ((with_reducible refine cF.mono ?_); rintro e w1 ⟨rfl, hb1⟩))
    go_ret
    exact ⟨rfl, (H0.out.below hb1).bel⟩
  · rw [hf] at cF
    have hm4 : m ≤ 4 := by have h1 := (formed_yes hf).hi; have h2 := (formed_yes hf).len; omega
    clear hf
    go_enter Tryd.func50, Tryd.ntmps50
    go_wp2_with (first | (go_at_call 74; ((with_reducible refine cF.mono ?_); rintro e w1 ⟨rfl, hb1⟩; have H1 := Lib.hid (H0.out.below hb1); have cK := cCount_any b m d _ Bs s w1 (HC.out.later H1.out.bel).strs hm4; obtain ⟨x0, x1⟩ := (H1.out.get 0 _ _ _ rfl).two)) | (go_at_call 75; ((with_reducible refine cK.mono ?_); rintro e w2 ⟨rfl, rfl⟩)))
    go_ret
    exact ⟨rfl, H1.out.bel⟩

end Go.Proofs.YtlkgpajpblhkeaaDoor

/- ConfigRef -/
namespace Go.Proofs.YtlkgpajpblhkeaaDoor

open Go.RowKit

/-- Sizes that are looked at. -/
def shortB (s : ByteArray) : Bool := decide (s.size ≤ 1000)
def fewC (n : Nat) (Bs : List ByteArray) : Bool := (Bs.take 20).all shortB && (decide (n ≤ 20) && decide (Bs.length ≤ 20))
def fewK (Ks : List ByteArray) : Bool := (Ks.take 60).all shortB && decide (Ks.length ≤ 50)
theorem look_bad {α : Type} (p : α → Bool) (l : List α) (N k : Nat) (hN : k < N) (h : k < l.length) (hp : p l[k] = false) : (l.take N).all p = false :=
  all_bad p (l.take N) k (by simp; omega) (by rw [List.getElem_take]; exact hp)
theorem look_done {α : Type} (p : α → Bool) (l : List α) (N k : Nat) (hN : k ≤ N) (h : k = N ∨ l.length ≤ k) (ht : (l.take k).all p = true) : (l.take N).all p = true := by
  rcases h with rfl | h
  · exact ht
  · rw [List.take_of_length_le h] at ht
    rw [List.take_of_length_le (by omega)]; exact ht
theorem fewC_yes {n : Nat} {Bs : List ByteArray} (h : fewC n Bs = true) : n ≤ 20 ∧ Bs.length ≤ 20 := by
  unfold fewC at h
  simp only [Bool.and_eq_true, decide_eq_true_eq] at h
  exact h.2
theorem fewK_yes {Ks : List ByteArray} (h : fewK Ks = true) : Ks.length ≤ 50 := by
  unfold fewK at h
  simp only [Bool.and_eq_true, decide_eq_true_eq] at h
  exact h.2

set_option maxHeartbeats 1000000 in
theorem rFew_any (a : Option Addr) (n c : Nat) (b : Option Addr) (m d : Nat) (R : List Int) (Bs : List ByteArray) (w : World) (h : CfgAt w a n b m R Bs) :
    Calls Tryd.prog 18 #[.agg #[.slice a n c, .slice b m d]] w (Says w (fewC n Bs)) := by
  have hO := one_box w #[.slice a n c, .slice b m d] 36
  have HC := Lib.hid (h.later hO)
  have hB := h.lenB
  have HU : Hid (fewC n Bs = ((Bs.take 20).all shortB && (decide (n ≤ 20) && decide (Bs.length ≤ 20)))) := rfl
  clear h
  go_enter Tryd.func18, Tryd.ntmps18
  go_wp2
  go_loop [3] (fun i => ∃ k : Nat, k ≤ 20 ∧ k ≤ m ∧ i = .int .i64 k ∧ Hid ((Bs.take k).all shortB = true)) (fun i => 20 - (intOf i).toNat)
  case atStart => exact ⟨0, by omega, by omega, rfl, rfl⟩
  case round =>
    obtain ⟨k, hk, hkm, rfl, HT⟩ := hrel
    by_cases hgo : k < m ∧ k < 20
    · obtain ⟨hlt, h20⟩ := hgo
      have hl : k < Bs.length := by omega
      have hbad := fun h => Lib.hid (look_bad shortB Bs 20 k h20 hl h)
      have hgood := fun h => Lib.hid (all_next shortB Bs k hl HT.out h)
      obtain ⟨b0, off, rfl, _, hc⟩ := HC.out.strs.at_ hl
      generalize Bs[k] = z at *
      by_cases hz : (1000 : Int) < (z.size : Int)
      · have Q := hbad (decide_eq_false (by omega))
        clear hbad hgood
        go_wp2
        go_ret
        exact ⟨by rw [HU.out, Q.out]; rfl, hO⟩
      · have Q := hgood (decide_eq_true (by omega))
        clear hbad hgood
        go_wp2
        go_round
        case rel => exact ⟨k + 1, by omega, by omega, by go_num, Q⟩
        case measure => simp [intOf]; omega
    · have Q := Lib.hid (look_done shortB Bs 20 k hk (by omega) HT.out)
      have e1 : decide ((n : Int) ≤ 20) = decide (n ≤ 20) := decide_eq_decide.2 (by omega)
      have e2 : decide ((m : Int) ≤ 20) = decide (Bs.length ≤ 20) := decide_eq_decide.2 (by omega)
      generalize decide (n ≤ 20) = y1 at *
      generalize decide (Bs.length ≤ 20) = y2 at *
      clear HT
      by_cases hlt : k < m
      · have d1 : decide ((k : Int) < 20) = false := by simp; omega
        cases y1
        · go_wp2
          go_ret
          exact ⟨by rw [HU.out, Q.out]; rfl, hO⟩
        · go_wp2
          go_ret
          exact ⟨by rw [HU.out, Q.out]; rfl, hO⟩
      · cases y1
        · go_wp2
          go_ret
          exact ⟨by rw [HU.out, Q.out]; rfl, hO⟩
        · go_wp2
          go_ret
          exact ⟨by rw [HU.out, Q.out]; rfl, hO⟩

set_option maxHeartbeats 2000000 in
theorem rConf_any (a : Option Addr) (n c : Nat) (b : Option Addr) (m d : Nat) (R : List Int) (Bs : List ByteArray) (w : World) (h : CfgAt w a n b m R Bs) :
    Calls Tryd.prog 40 #[.agg #[.slice a n c, .slice b m d]] w (Says w (formedC R (txt Bs))) := by
  have hO := one_box w #[.slice a n c, .slice b m d] 36
  have hR := h.lenR
  have hT := h.lenT
  have hB := h.lenB
  have HC := Lib.hid (h.later hO)
  have HC0 := Lib.hid h
  have H0 := Lib.hid ((Boxs.start w).more #[.slice a n c, .slice b m d] 36)
  clear h
  by_cases h1 : n < 1
  · rw [formed_len (.inl (by omega))]
    go_enter Tryd.func40, Tryd.ntmps40
    go_wp2
    go_ret
    exact ⟨rfl, hO⟩
  by_cases h4 : 4 < n
  · rw [formed_len (.inr (.inl (by omega)))]
    go_enter Tryd.func40, Tryd.ntmps40
    go_wp2
    go_ret
    exact ⟨rfl, hO⟩
  have d1 : decide ((n : Int) < 1) = false := by simp; omega
  have d4 : decide ((4 : Int) < (n : Int)) = false := by simp; omega
  by_cases hm : m + 1 = n
  · have q' : ((m : Int) != (n : Int) - 1) = false := by simp; omega
    have HP := Lib.hid (formed_parts (R := R) (L := txt Bs) (by omega) (by omega) (by omega))
    go_enter Tryd.func40, Tryd.ntmps40
    go_wp2
    go_loop [4] (fun i => ∃ k : Nat, k ≤ n ∧ i = .int .i64 k ∧ Hid ((R.take k).all sizeB = true)) (fun i => n - (intOf i).toNat)
    case atStart => exact ⟨0, Nat.zero_le _, rfl, rfl⟩
    case round =>
      obtain ⟨k, hk, rfl, HT⟩ := hrel
      by_cases hlt : k < n
      · have hl : k < R.length := by omega
        have hbad := fun h => Lib.hid (all_bad sizeB R k hl h)
        have hgood := fun h => Lib.hid (all_next sizeB R k hl HT.out h)
        obtain ⟨b0, off, rfl, _, hc⟩ := HC.out.ints.at_ hl
        generalize R[k] = z at *
        by_cases h1 : z = 1
        · subst h1
          have Q := hgood rfl
          clear hbad hgood
          go_wp2
          go_round
          case rel => exact ⟨k + 1, by omega, by go_num, Q⟩
          case measure => simp [intOf]; omega
        · by_cases h3 : z = 3
          · subst h3
            have Q := hgood rfl
            clear hbad hgood
            go_wp2
            go_round
            case rel => exact ⟨k + 1, by omega, by go_num, Q⟩
            case measure => simp [intOf]; omega
          · by_cases h5 : z = 5
            · subst h5
              have Q := hgood rfl
              clear hbad hgood
              go_wp2
              go_round
              case rel => exact ⟨k + 1, by omega, by go_num, Q⟩
              case measure => simp [intOf]; omega
            · have Q := hbad (by simp [sizeB, h1, h3, h5])
              have q1 : (z == 1) = false := by simpa using h1
              have q3 : (z == 3) = false := by simpa using h3
              have q5 : (z == 5) = false := by simpa using h5
              have p1 : (z != 1) = true := by simpa using h1
              have p3 : (z != 3) = true := by simpa using h3
              have p5 : (z != 5) = true := by simpa using h5
              clear hbad hgood
              go_wp2
              go_ret
              exact ⟨by rw [HP.out, Q.out]; rfl, hO⟩
      · have Q := Lib.hid (all_done sizeB R k (by omega) HT.out)
        clear HT
        go_wp2
        go_loopw [5] (fun i wr => ∃ k : Nat, k ≤ m ∧ i = .int .i64 k ∧ Boxs w wr [(w.heap.size, #[.slice a n c, .slice b m d], 36)] ∧ Hid (((txt Bs).take k).all keyB = true) ∧ Hid (∀ j (hj : j + 1 < (txt Bs).length), j + 1 < k → leB (txt Bs)[j + 1] (txt Bs)[j] = false)) (fun i _ => n - (intOf i).toNat)
        case atStart => exact ⟨0, Nat.zero_le _, rfl, H0.out, rfl, fun j _ h => by omega⟩
        case round =>
          obtain ⟨k, hk, rfl, hX, HT, HA⟩ := hrel
          have HX := Lib.hid hX
          clear hX
          obtain ⟨x0, x1⟩ := (HX.out.get 0 _ _ _ rfl).two
          by_cases hlt : k < m
          · have hl : k < Bs.length := by omega
            have hl' : k < (txt Bs).length := by omega
            have hbad := fun h => Lib.hid (all_bad keyB (txt Bs) k hl' h)
            have hgood := fun h => Lib.hid (all_next keyB (txt Bs) k hl' HT.out h)
            rw [txt_get Bs k hl] at hbad hgood
            obtain ⟨b0, off, rfl, _, hc⟩ := (HC0.out.later HX.out.bel).strs.at_ hl
            have cK := fun W => refKey_any Bs[k] W (HC.out.sz _ (List.getElem_mem hl))
            cases hz : keyB Bs[k].data.toList
            · rw [hz] at cK
              have Q2 := hbad hz
              clear hbad hgood hz
              generalize Bs[k] = z at *
              go_upto_region 12 with (fail)
              go_quiet ((go_at_call 45; exact quiet_same (cK _)))
              go_wp2
              go_ret
              exact ⟨by rw [HP.out, Q2.out]; simp, (HX.out.drewN _).bel⟩
            · rw [hz] at cK
              have Q2 := hgood hz
              clear hbad hgood hz
              by_cases hk0 : k = 0
              · subst hk0
                rw [Nat.add_zero] at hc
                generalize Bs[0] = z at *
                have i2 : (0 : Int) < (m : Int) := by omega
                have HA' : Hid (∀ j (hj : j + 1 < (txt Bs).length), j + 1 < 0 + 1 → leB (txt Bs)[j + 1] (txt Bs)[j] = false) := fun j _ h => by omega
                go_upto_region 12 with (fail)
                go_quiet ((go_at_call 45; exact quiet_same (cK _)))
                go_wp2
                go_roundw
                case rel => exact ⟨0 + 1, by omega, by go_num, HX.out.drewN _, Q2, HA'⟩
                case measure => simp [intOf]; omega
              · obtain ⟨p, rfl⟩ : ∃ p, k = p + 1 := ⟨k - 1, by omega⟩
                have hbad := fun h => Lib.hid (adj_bad (txt Bs) p hl' h)
                have hgood : leB (txt Bs)[p + 1] (txt Bs)[p] = false → Hid (∀ j (hj : j + 1 < (txt Bs).length), j + 1 < p + 1 + 1 → leB (txt Bs)[j + 1] (txt Bs)[j] = false) := fun h j hj hjk => by
                  by_cases e : j = p
                  · subst e; exact h
                  · exact HA.out j hj (by omega)
                rw [txt_get Bs p (by omega), txt_get Bs (p + 1) (by omega)] at hbad hgood
                obtain ⟨b1, off1, e1, _, hc'⟩ := (HC0.out.later HX.out.bel).strs.at_ (i := p) (by omega)
                injection e1 with e1
                injection e1 with e1 e2
                subst e1; subst e2
                generalize Bs[p]'(by omega) = x at *
                generalize Bs[p + 1]'(by omega) = y at *
                have hE := leS y x
                have hw : IntKind.i64.wrap (p : Int) = p := by rw [IntKind.wrap_i64]; omega
                have i1 : p < m := by omega
                have i2 : (p : Int) < (m : Int) := by omega
                have i3 : (p : Int) + 1 < (m : Int) := by omega
                have i4 : ((p : Int) + 1).toNat = p + 1 := by omega
                have i5 : (0 : Int) ≤ (p : Int) + 1 := by omega
                have i6 : decide ((0 : Int) < (p : Int) + 1) = true := decide_eq_true (by omega)
                cases hz : leB y.data.toList x.data.toList
                · rw [hz] at hE
                  have Q3 := hgood hz
                  clear hbad hgood hz
                  go_upto_region 12 with (fail)
                  go_quiet ((go_at_call 45; exact quiet_same (cK _)))
                  go_wp2
                  go_roundw
                  case rel => exact ⟨p + 1 + 1, by omega, by go_num, HX.out.drewN _, Q2, Q3⟩
                  case measure => simp [intOf]; omega
                · rw [hz] at hE
                  have Q3 := hbad hz
                  clear hbad hgood hz
                  go_upto_region 12 with (fail)
                  go_quiet ((go_at_call 45; exact quiet_same (cK _)))
                  go_wp2
                  go_ret
                  exact ⟨by rw [HP.out, Q3.out]; simp, (HX.out.drewN _).bel⟩
          · have Q2 := Lib.hid (all_done keyB (txt Bs) k (by omega) HT.out)
            have Q3 : Hid (adjB (txt Bs) = true) := adj_all _ fun j hj => HA.out j hj (by omega)
            go_wp2
            go_ret
            exact ⟨by rw [HP.out, Q.out, Q2.out, Q3.out]; rfl, HX.out.bel⟩
  · rw [formed_len (.inr (.inr (by omega)))]
    have q' : ((m : Int) != (n : Int) - 1) = true := by simp; omega
    go_enter Tryd.func40, Tryd.ntmps40
    go_wp2
    go_ret
    exact ⟨rfl, hO⟩

set_option maxHeartbeats 1000000 in
theorem rHome_any (a : Option Addr) (n c : Nat) (b : Option Addr) (m d : Nat) (R : List Int) (Bs : List ByteArray) (s : ByteArray) (w : World) (h : CfgAt w a n b m R Bs) :
    Calls Tryd.prog 51 #[.agg #[.slice a n c, .slice b m d], .string s] w (SaysI w (homeI R (txt Bs) s.data.toList)) := by
  have H0 := Lib.hid ((Boxs.start w).more #[.slice a n c, .slice b m d] 36)
  have HC := Lib.hid h
  have cF := rConf_any a n c b m d R Bs _ (h.later H0.out.bel)
  have hR := h.lenR
  have hB := h.lenB
  have hT := h.lenT
  clear h
  unfold homeI
  cases hf : formedC R (txt Bs)
  · rw [hf] at cF
    go_enter Tryd.func51, Tryd.ntmps51
    go_wp2_with (go_at_call 40; ((with_reducible refine cF.mono ?_); rintro e w1 ⟨rfl, hb1⟩))
    go_ret
    exact ⟨rfl, (H0.out.below hb1).bel⟩
  · rw [hf] at cF
    have hm4 : m ≤ 4 := by have h1 := (formed_yes hf).hi; have h2 := (formed_yes hf).len; omega
    clear hf
    go_enter Tryd.func51, Tryd.ntmps51
    go_upto_region 5 with (go_at_call 40; ((with_reducible refine cF.mono ?_); rintro e w1 ⟨rfl, hb1⟩; have H1 := Lib.hid (H0.out.below hb1); obtain ⟨x0, x1⟩ := (H1.out.get 0 _ _ _ rfl).two))
    go_loop [5, 6] (fun v i => ∃ k : Nat, k ≤ m ∧ i = .int .i64 k ∧ v = .int .i64 (homeC (txt (Bs.take k)) s.data.toList : Nat)) (fun _ i => m - (intOf i).toNat)
    case atStart => exact ⟨0, Nat.zero_le _, rfl, rfl⟩
    case round =>
      obtain ⟨k, hk, rfl, rfl⟩ := hrel
      have hle := homeC_le (txt (Bs.take k)) s.data.toList
      rw [txt_len, List.length_take] at hle
      by_cases hlt : k < m
      · have hl : k < Bs.length := by omega
        have HQ := Lib.hid (homeC_snoc (txt (Bs.take k)) Bs[k].data.toList s.data.toList)
        rw [← txt_snoc Bs k hl] at HQ
        obtain ⟨b0, off, rfl, _, hc⟩ := (HC.out.later H1.out.bel).strs.at_ hl
        generalize Bs[k] = z at *
        have hE := leS z s
        generalize homeC (txt (Bs.take k)) s.data.toList = q at *
        cases hz : leB z.data.toList s.data.toList
        · rw [hz] at hE HQ
          go_wp2
          go_round
          case rel => exact ⟨k + 1, by omega, by go_num, by rw [HQ.out]; rfl⟩
          case measure => simp [intOf]; omega
        · rw [hz] at hE HQ
          go_wp2
          go_round
          case rel => exact ⟨k + 1, by omega, by go_num, by rw [HQ.out]; go_num⟩
          case measure => simp [intOf]; omega
      · have HQ : Hid (Bs.take k = Bs) := List.take_of_length_le (by omega)
        rw [HQ.out]
        go_wp2
        go_ret
        exact ⟨rfl, H1.out.bel⟩
end Go.Proofs.YtlkgpajpblhkeaaDoor
