/- Contracts of config.Formed, Home, Total, Place and At, and of the statements' awake. Conditions: the configuration's lists lie in memory. -/
import Derived.Test.YtnplheagemglnaaConfigProg

namespace Go.Proofs.Ytnplheagemglnaa

open Go.RowKit

/-- A configuration's lists lie in memory. -/
def CfgAt (w : World) (a : Option Addr) (n : Nat) (b : Option Addr) (m : Nat) (R : List Int) (Bs : List ByteArray) : Prop :=
  IntsAt w w.heap.size a n R ∧ StrsAt w w.heap.size b m Bs ∧ ∀ z ∈ Bs, z.size ≤ maxLen
section

variable {w w' : World} {a b : Option Addr} {n m : Nat} {R : List Int} {Bs : List ByteArray}

theorem CfgAt.later (h : CfgAt w a n b m R Bs) (hb : Below w.heap.size w w') : CfgAt w' a n b m R Bs :=
  ⟨(h.1.below hb (Nat.le_refl _)).more hb.size, (h.2.1.below hb (Nat.le_refl _)).more hb.size, h.2.2⟩
theorem CfgAt.lenR (h : CfgAt w a n b m R Bs) : R.length = n := h.1.1
theorem CfgAt.lenB (h : CfgAt w a n b m R Bs) : Bs.length = m := h.2.1.1
theorem CfgAt.lenT (h : CfgAt w a n b m R Bs) : (txt Bs).length = m := (txt_len Bs).trans h.2.1.1
theorem CfgAt.sz (h : CfgAt w a n b m R Bs) : ∀ z ∈ Bs, z.size ≤ maxLen := h.2.2
theorem CfgAt.ints (h : CfgAt w a n b m R Bs) : IntsAt w w.heap.size a n R := h.1
theorem CfgAt.strs (h : CfgAt w a n b m R Bs) : StrsAt w w.heap.size b m Bs := h.2.1
end

/-- A number is answered; a pair of numbers. -/
def SaysI (w : World) (z : Int) (e : Ending) (w' : World) : Prop := e = .returned (.int .i64 z) ∧ Below w.heap.size w w'
def SaysP (w : World) (z : Int × Int) (e : Ending) (w' : World) : Prop := e = .returned (.tuple #[.int .i64 z.1, .int .i64 z.2]) ∧ Below w.heap.size w w'

set_option maxHeartbeats 1000000 in
theorem cFormed_any (a : Option Addr) (n c : Nat) (b : Option Addr) (m d : Nat) (R : List Int) (Bs : List ByteArray) (w : World) (h : CfgAt w a n b m R Bs) :
    Calls Try.prog 13 #[.agg #[.slice a n c, .slice b m d]] w (Says w (formedC R (txt Bs))) := by
  have hO := one_box w #[.slice a n c, .slice b m d] 25
  have hR := h.lenR
  have hT := h.lenT
  have HC := Lib.hid (h.later hO)
  by_cases h1 : n < 1
  · rw [formed_len (.inl (by omega))]
    clear h
    go_enter Try.func13, Try.ntmps13
    go_wp2
    go_ret
    exact ⟨rfl, hO⟩
  by_cases h4 : 4 < n
  · rw [formed_len (.inr (.inl (by omega)))]
    clear h
    go_enter Try.func13, Try.ntmps13
    go_wp2
    go_ret
    exact ⟨rfl, hO⟩
  by_cases hm : m + 1 = n
  · rw [formed_parts (by omega) (by omega) (by omega)]
    have q' : ((m : Int) != (n : Int) - 1) = false := by simp; omega
    have d1 : decide ((n : Int) < 1) = false := by simp; omega
    have d4 : decide ((4 : Int) < (n : Int)) = false := by simp; omega
    have cS := cSizes_any a n c _ R _ HC.out.ints (by omega)
    have cK := cKeys_any b m d _ Bs _ HC.out.strs HC.out.sz (by omega)
    have cA := cRising_any b m d _ Bs _ HC.out.strs (by omega)
    clear h
    generalize adjB (txt Bs) = x3 at cA ⊢
    cases h1 : R.all sizeB
    · rw [h1] at cS
      clear h1
      go_enter Try.func13, Try.ntmps13
      go_wp2_with (go_at_call 25; ((with_reducible refine cS.mono ?_); rintro e w1 ⟨rfl, rfl⟩))
      go_ret
      exact ⟨rfl, hO⟩
    · rw [h1] at cS
      clear h1
      cases h2 : (txt Bs).all keyB
      · rw [h2] at cK
        clear h2
        go_enter Try.func13, Try.ntmps13
        go_wp2_with (first | (go_at_call 25; ((with_reducible refine cS.mono ?_); rintro e w1 ⟨rfl, rfl⟩)) | (go_at_call 26; ((with_reducible refine cK.mono ?_); rintro e w1 ⟨rfl, rfl⟩)))
        go_ret
        exact ⟨rfl, hO⟩
      · rw [h2] at cK
        clear h2
        go_enter Try.func13, Try.ntmps13
        go_wp2_with (first | (go_at_call 25; ((with_reducible refine cS.mono ?_); rintro e w1 ⟨rfl, rfl⟩)) | (go_at_call 26; ((with_reducible refine cK.mono ?_); rintro e w1 ⟨rfl, rfl⟩)) | (go_at_call 27; ((with_reducible refine cA.mono ?_); rintro e w1 ⟨rfl, hb1⟩)))
        go_ret
        exact ⟨rfl, hO.trans (hb1.mono hO.size)⟩
  · rw [formed_len (.inr (.inr (by omega)))]
    have q' : ((m : Int) != (n : Int) - 1) = true := by simp; omega
    have d1 : decide ((n : Int) < 1) = false := by simp; omega
    have d4 : decide ((4 : Int) < (n : Int)) = false := by simp; omega
    clear h
    go_enter Try.func13, Try.ntmps13
    go_wp2
    go_ret
    exact ⟨rfl, hO⟩

set_option maxHeartbeats 1000000 in
theorem cHome_any (a : Option Addr) (n c : Nat) (b : Option Addr) (m d : Nat) (R : List Int) (Bs : List ByteArray) (s : ByteArray) (w : World) (h : CfgAt w a n b m R Bs) :
    Calls Try.prog 11 #[.agg #[.slice a n c, .slice b m d], .string s] w (SaysI w (homeI R (txt Bs) s.data.toList)) := by
  have H0 := Lib.hid ((Boxs.start w).more #[.slice a n c, .slice b m d] 25)
  have HC := Lib.hid h
  have cF := cFormed_any a n c b m d R Bs _ (h.later H0.out.bel)
  have hR := h.lenR
  have hT := h.lenT
  clear h
  unfold homeI
  cases hf : formedC R (txt Bs)
  · rw [hf] at cF
    go_enter Try.func11, Try.ntmps11
    go_wp2_with (go_at_call 13; ((with_reducible refine cF.mono ?_); rintro e w1 ⟨rfl, hb1⟩))
    go_ret
    exact ⟨rfl, (H0.out.below hb1).bel⟩
  · rw [hf] at cF
    have hm4 : m ≤ 4 := by have h1 := (formed_yes hf).hi; have h2 := (formed_yes hf).len; omega
    clear hf
    go_enter Try.func11, Try.ntmps11
    go_wp2_with (first | (go_at_call 13; ((with_reducible refine cF.mono ?_); rintro e w1 ⟨rfl, hb1⟩; have H1 := Lib.hid (H0.out.below hb1); have cK := cCount_any b m d _ Bs s w1 (HC.out.later H1.out.bel).strs hm4; obtain ⟨x0, x1⟩ := (H1.out.get 0 _ _ _ rfl).two)) | (go_at_call 24; ((with_reducible refine cK.mono ?_); rintro e w2 ⟨rfl, rfl⟩)))
    go_ret
    exact ⟨rfl, H1.out.bel⟩

set_option maxHeartbeats 1000000 in
theorem cTotal_any (a : Option Addr) (n c : Nat) (b : Option Addr) (m d : Nat) (R : List Int) (Bs : List ByteArray) (w : World) (h : CfgAt w a n b m R Bs) :
    Calls Try.prog 20 #[.agg #[.slice a n c, .slice b m d]] w (SaysI w (totalI R (txt Bs) : Nat)) := by
  have H0 := Lib.hid ((Boxs.start w).more #[.slice a n c, .slice b m d] 25)
  have HC := Lib.hid h
  have cF := cFormed_any a n c b m d R Bs _ (h.later H0.out.bel)
  have hR := h.lenR
  clear h
  unfold totalI
  cases hf : formedC R (txt Bs)
  · rw [hf] at cF
    go_enter Try.func20, Try.ntmps20
    go_wp2_with (go_at_call 13; ((with_reducible refine cF.mono ?_); rintro e w1 ⟨rfl, hb1⟩))
    go_ret
    exact ⟨rfl, (H0.out.below hb1).bel⟩
  · rw [hf] at cF
    have HF := Lib.hid (formed_yes hf)
    have HS := Lib.hid (natR_sum R HF.out.small)
    have hn4 : n ≤ 4 := by have h1 := HF.out.hi; omega
    clear hf
    go_enter Try.func20, Try.ntmps20
    go_wp2_with (first | (go_at_call 13; ((with_reducible refine cF.mono ?_); rintro e w1 ⟨rfl, hb1⟩; have H1 := Lib.hid (H0.out.below hb1); have cK := cSum_any a n c _ R w1 (HC.out.later H1.out.bel).ints hn4 HF.out.small; obtain ⟨x0, x1⟩ := (H1.out.get 0 _ _ _ rfl).two)) | (go_at_call 30; ((with_reducible refine cK.mono ?_); rintro e w2 ⟨rfl, rfl⟩)))
    go_ret
    exact ⟨by rw [HS.out]; rfl, H1.out.bel⟩

set_option maxHeartbeats 1000000 in
theorem awake7_any (w : World) : Calls Try.prog 8 #[] w (Says w true) := by
  have hC : Hid (CfgAt (w.alloc (.cells #[.int .i64 3] 3)) (some ⟨w.heap.size, 0, none⟩) 1 none 0 [3] []) :=
    ⟨⟨rfl, RowAt.made w #[.int .i64 3] 3 1 1 rfl⟩, ⟨rfl, RowAt.nil⟩, fun z hz => by cases hz⟩
  have cT := cTotal_any (some ⟨w.heap.size, 0, none⟩) 1 1 none 0 0 [3] [] _ hC.out
  have e : totalI [3] (txt []) = 3 := by decide
  rw [e] at cT
  have hO := one_box w #[.int .i64 3] 3
  go_enter Try.func8, Try.ntmps8
  go_wp2_with (go_at_call 20; ((with_reducible refine cT.mono ?_); rintro e w1 ⟨rfl, hb1⟩))
  go_ret
  exact ⟨rfl, hO.trans (hb1.mono hO.size)⟩
end Go.Proofs.Ytnplheagemglnaa
