/- Contract of wal.Compact. Conditions: the records lie in memory; the tables of utf8 lie there. -/
import Derived.Test.YtcfmifongbapkaaGreatDoorQZK
import Derived.Test.YtcfmifongbapkaaGreatDoorQZL
/- WalCompact -/
namespace Go.Proofs.YtcfmifongbapkaaGreatDoor

open Go.RowKit

set_option linter.unusedVariables false
set_option linter.unusedSimpArgs false

/-- The first so many frames have so many bytes. -/
theorem cat_most {W : World} {a : Option Addr} {n : Nat} {L : List RE} (h : RcsAt W a n L) (hF : ∀ z ∈ L, formR (rcT z.1 z.2) = true) (i : Nat) (hi : i ≤ n) : (catR ((rcS L).take i)).length ≤ i * 60008 := by
  have hg : Good (rcS L) := h.good hF
  induction i with
  | zero => simp [catR]
  | succ i ih =>
    have hl : i < (rcS L).length := by rw [rcS_len, h.len]; omega
    rw [catR_next _ _ hl, List.length_append]
    have h1 := ih (by omega)
    have h2 := (rcB_max (hg _ (List.getElem_mem hl)).1).2
    rw [frameB_len]; omega
section

variable {g n c : Nat} {a : Option Addr} {L : List RE}

set_option maxRecDepth 100000 in
set_option maxHeartbeats 4000000 in
theorem compact_yes {Q : World → Prop} (E : Int) (V : World) (h : RcsAt V a n L) (hF : ∀ z ∈ L, formR (rcT z.1 z.2) = true) (hn : n ≤ 1000) (hnc : n ≤ c) (hcm : c ≤ maxLen) (hU : Tabs V)
    (cR : ∀ W a m c, Below V.heap.size V W → BAt W W.heap.size a m (catR (rcS L)) → m ≤ 1099511627776 → Calls Tryz.prog 71 #[.pointer (some ⟨g, 0, none⟩), .slice a m c] W fun e w' => e = .returned (.int .i64 E) ∧ Q w') :
    Calls Tryz.prog 32 #[.pointer (some ⟨g, 0, none⟩), .slice a n c] V fun e w' => e = .returned (.int .i64 E) ∧ Q w' := by
  obtain ⟨i0, hi, hz0, hz1, hz2⟩ := info_parts Tryz.info5
  have hln := h.len
  have HL := Lib.hid h
  have FF := Lib.hid hF
  have TU : Hid (∀ W, Below V.heap.size V W → Tabs W) := fun W hW => hU.below hW
  have hcm' := hcm
  unfold maxLen at hcm'
  clear h hF hU
  go_enter Tryz.func32, Tryz.ntmps32
  go_wp2_with (fail)
  go_loopw [5, 12] (fun v y wr => ∃ (i m : Nat), y = .int .i64 i ∧ i ≤ n ∧ m ≤ i * 60008 ∧ PutIn V wr v m (catR ((rcS L).take i))) (fun _ y _ => n - (intOf y).toNat)
  case atStart => exact ⟨0, 0, rfl, Nat.zero_le _, Nat.zero_le _, ⟨World.ownsRow_nil _ _ _ _, Below.refl _ _⟩⟩
  case round =>
    obtain ⟨i, m, rfl, hi0, hm, hP⟩ := hrel
    have PI := Lib.hid hP
    obtain ⟨a0, c0, rfl⟩ := hP.form
    clear hP
    by_cases h1 : i < n
    · have i1 : ((i : Nat) : Int) < (n : Int) := by omega
      have hiL : i < L.length := by omega
      obtain ⟨b0, off, rfl, hb0, LD0⟩ := HL.out.raw.at_ hiL
      have ld := (LD0 _ PI.out.bel).1
      have hZ := HL.out.all _ (List.getElem_mem hiL)
      have eG := rcS_get L i hiL
      have eN := catR_next (rcS L) i (by rw [rcS_len]; exact hiL)
      rw [eG] at eN
      have hf : formR (rcT L[i].1 L[i].2) = true := FF.out _ (List.getElem_mem hiL)
      have hmx := (rcB_max ((formR_iff _).1 hf)).2
      have hfl := frameB_len (rcB (rcT L[i].1 L[i].2))
      have cW := fun W (hW : Below V.heap.size V W) => wFramed_yes L[i].1 L[i].2 W (hZ.1.later hW) hZ.2 (TU.out W hW) hf
      have EN : Hid (catR ((rcS L).take (i + 1)) = catR ((rcS L).take i) ++ frameB (rcB (rcT L[i].1 L[i].2))) := eN
      clear eG eN hZ hf LD0
      generalize L[i] = z at *
      generalize rcB (rcT z.1 z.2) = B at *
      generalize frameB B = F at *
      generalize catR ((rcS L).take i) = C0 at *
      have HM := Lib.hid (made_k wr z.1)
      go_upto_region 5 with (refine wpList_store_k rfl _ _ rfl wr.heap.size z.1 rfl rfl zeroR HM.out.1 ?_)
      have ldX := HM.out.2.2.ldK
      have PJ := Lib.hid (PI.out.below HM.out.2.1)
      clear HM PI ld
      generalize (wr.alloc (.cells zeroRV 36)).setRow wr.heap.size (rcV z.1) = W3 at *
      go_wp2_with (first | (go_at_call 68; ((with_reducible refine (cW _ PJ.out.bel).mono ?_); rintro e w1 ⟨a1, n1, c1, rfl, ho1, hb1⟩; have P1 := Lib.hid (PJ.out.below hb1); have hn1 := own_len ho1; have L1 := Lib.hid (BAt.of_own ho1); clear ho1 hb1)) | (at_builtin; (refine wpList_append_bytes _ rfl _ _ 34 rfl V.heap.size 5 i0 Tryz.underlying34 hi hz0 hz1 hz2 _ m C0 rfl P1.out.own w1.heap.size a1 n1 F c1 rfl L1.out (by omega) P1.out.bel.size ?_; intro v2 w2 ho2 hg2; have R := Lib.hid (P1.out.next0 ho2 hg2); clear ho2 hg2)))
      go_roundw
      case rel => exact ⟨i + 1, m + n1, by go_num, h1, by omega, R.out.cast EN.out.symm⟩
      case measure => simp [intOf]; omega
    · have i1 : ¬ ((i : Nat) : Int) < (n : Int) := by omega
      obtain rfl : i = n := by omega
      have eT : (rcS L).take i = rcS L := List.take_of_length_le (by rw [rcS_len]; omega)
      have cR2 := cR _ a0 m c0 PI.out.bel (by have := PI.out.bat; rw [eT] at this; exact this) (by omega)
      clear eT
      go_wp2_with (go_at_call 71; ((with_reducible refine cR2.mono ?_); rintro e w3 ⟨rfl, h3⟩; have Q3 := Lib.hid h3; clear h3))
      go_ret
      exact ⟨rfl, Q3.out⟩
end

end Go.Proofs.YtcfmifongbapkaaGreatDoor
