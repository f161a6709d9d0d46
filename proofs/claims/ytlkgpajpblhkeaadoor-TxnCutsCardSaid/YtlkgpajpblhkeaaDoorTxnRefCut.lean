/- Contracts of the document's Reads and Writes of a group. Conditions: the configuration's and the transaction's lists lie in memory. -/
import Derived.Test.YtlkgpajpblhkeaaDoorGK
import Derived.Test.YtlkgpajpblhkeaaDoorTxnRefFormed
import Derived.Test.YtlkgpajpblhkeaaDoorGH
namespace Go.Proofs.YtlkgpajpblhkeaaDoor

open Go.RowKit

set_option linter.unusedVariables false

theorem MadeL.drew {α : Type} {f : α → List Value} {k : Nat} {e : TypeId} {w wr : World} {v : Value} {l : List α} {L : List (Nat × Array Value × TypeId)} (h : MadeL f k e w wr v l L) : MadeL f k e w wr.drew v l L := h.drewN 1
theorem both_no {R : List Int} {Bs : List ByteArray} {t : Tx Val} (h : bothB R Bs t = false) : formT formedB t = false ∨ (formT formedB t = true ∧ formedC R (txt Bs) = false) := by
  unfold bothB at h
  cases hf : formT formedB t
  · exact .inl rfl
  · rw [hf, Bool.and_true] at h; exact .inr ⟨rfl, h⟩
theorem both_yes {R : List Int} {Bs : List ByteArray} {t : Tx Val} (h : bothB R Bs t = true) : formT formedB t = true ∧ formedC R (txt Bs) = true := by
  unfold bothB at h; rw [Bool.and_eq_true] at h; exact ⟨h.2, h.1⟩

set_option maxRecDepth 100000 in
set_option maxHeartbeats 4000000 in
theorem rReads_any (ca : Option Addr) (cn cc : Nat) (cb : Option Addr) (cm cd : Nat) (R : List Int) (Bs : List ByteArray) (s q : Int) (a : Option Addr) (n c : Nat) (b : Option Addr) (m d : Nat) (rs : List RdM) (ws : List WrM) (g : Int) (w : World) (hC : CfgAt w ca cn cb cm R Bs) (hX : TxAt w a n b m rs ws) :
    Calls Tryd.prog 21 #[.agg #[.slice ca cn cc, .slice cb cm cd], .agg (txV s q a n c b m d), .int .i64 g] w (NewL readC 2 w (readsM R Bs (s, q) rs ws g)) := by
  obtain ⟨iR, hi, hz0, hz1, hz2⟩ := info_parts Tryd.rInfo63
  have H0 := Lib.hid (((Boxs.start w).more #[.slice ca cn cc, .slice cb cm cd] 36).more (txV s q a n c b m d) 27)
  have hs : (w.alloc (.cells #[.slice ca cn cc, .slice cb cm cd] 36)).heap.size = w.heap.size + 1 := by simp
  rw [hs] at H0
  have HX := Lib.hid hX
  have hl := hX.lenR
  have cF := fun W (hW : Below w.heap.size w W) => rFormedT_any s q a n c b m d rs ws W (hX.later hW)
  have cC := fun W (hW : Below w.heap.size w W) => rConf_any ca cn cc cb cm cd R Bs W (hC.later hW)
  have cH0 := fun z W (hW : Below w.heap.size w W) => rHome_any ca cn cc cb cm cd R Bs z W (hC.later hW)
  obtain ⟨x0, x1, x2, x3⟩ := (H0.out.get 0 _ _ _ rfl).four
  obtain ⟨y0, y1⟩ := (H0.out.get 1 _ _ _ rfl).two
  clear hX hs hC
  unfold readsM
  cases hB : bothB R Bs (txT (s, q) rs ws)
  · rw [if_neg (by decide)]
    rcases both_no hB with hf | ⟨hf, hc⟩
    · rw [hf] at cF
      clear hf hB cH0 cC
      go_enter Tryd.func21, Tryd.ntmps21
      go_wp2
      go_loopw [7, 8] (fun v i wr => v = .slice none 0 0 ∧ i = .int .i64 0 ∧ Boxs w wr [(w.heap.size + 1, txV s q a n c b m d, 27), (w.heap.size, #[.slice ca cn cc, .slice cb cm cd], 36)]) (fun _ _ _ => 0)
      case atStart => exact ⟨rfl, rfl, H0.out⟩
      case round =>
        obtain ⟨rfl, rfl, hY⟩ := hrel
        have HY := Lib.hid hY
        clear hY H0 x0 x1 x2 x3 y0 y1
        obtain ⟨x0, x1, x2, x3⟩ := (HY.out.get 0 _ _ _ rfl).four
        obtain ⟨y0, y1⟩ := (HY.out.get 1 _ _ _ rfl).two
        by_cases h0 : n = 0
        · subst h0
          go_wp2
          go_ret
          exact NewL.none HY.out.bel
        · have q0 : decide ((0 : Int) < (n : Int)) = true := by simp; omega
          go_wp2_with (first | (go_at_call 11; ((with_reducible refine (cF _ HY.out.bel).mono ?_); rintro e w1 ⟨rfl, hb1⟩; have M1 := Lib.hid (HY.out.below hb1); (clear x0 x1 x2 x3 y0 y1); obtain ⟨y0, y1⟩ := (M1.out.get 1 _ _ _ rfl).two; obtain ⟨x0, x1, x2, x3⟩ := (M1.out.get 0 _ _ _ rfl).four)))
          go_ret
          exact NewL.none M1.out.bel
    · rw [hf] at cF
      rw [hc] at cC
      clear hf hc hB cH0
      go_enter Tryd.func21, Tryd.ntmps21
      go_wp2
      go_loopw [7, 8] (fun v i wr => v = .slice none 0 0 ∧ i = .int .i64 0 ∧ Boxs w wr [(w.heap.size + 1, txV s q a n c b m d, 27), (w.heap.size, #[.slice ca cn cc, .slice cb cm cd], 36)]) (fun _ _ _ => 0)
      case atStart => exact ⟨rfl, rfl, H0.out⟩
      case round =>
        obtain ⟨rfl, rfl, hY⟩ := hrel
        have HY := Lib.hid hY
        clear hY H0 x0 x1 x2 x3 y0 y1
        obtain ⟨x0, x1, x2, x3⟩ := (HY.out.get 0 _ _ _ rfl).four
        obtain ⟨y0, y1⟩ := (HY.out.get 1 _ _ _ rfl).two
        by_cases h0 : n = 0
        · subst h0
          go_wp2
          go_ret
          exact NewL.none HY.out.bel
        · have q0 : decide ((0 : Int) < (n : Int)) = true := by simp; omega
          go_wp2_with (first | (go_at_call 11; ((with_reducible refine (cF _ HY.out.bel).mono ?_); rintro e w1 ⟨rfl, hb1⟩; have M1 := Lib.hid (HY.out.below hb1); (clear x0 x1 x2 x3 y0 y1); obtain ⟨y0, y1⟩ := (M1.out.get 1 _ _ _ rfl).two; obtain ⟨x0, x1, x2, x3⟩ := (M1.out.get 0 _ _ _ rfl).four)) | (go_at_call 40; ((with_reducible refine (cC _ M1.out.bel).mono ?_); rintro e w2 ⟨rfl, hb2⟩; have M2 := Lib.hid (M1.out.below hb2))))
          go_ret
          exact NewL.none M2.out.bel
  · rw [if_pos rfl]
    obtain ⟨hf, hc⟩ := both_yes hB
    rw [hf] at cF
    rw [hc] at cC
    have h6 : n ≤ 6 := by
      have := ((formT_iff _ _).1 hf).rlen
      simp only [txT, txR, List.length_map] at this; omega
    have HH : Hid (∀ z : ByteArray, homeI R (txt Bs) z.data.toList = (homeC (txt Bs) z.data.toList : Nat)) := fun z => home_of hc _
    clear hB hf hc
    go_enter Tryd.func21, Tryd.ntmps21
    go_wp2
    go_loopw [7, 8] (fun v i wr => ∃ k : Nat, k ≤ n ∧ i = .int .i64 k ∧ MadeL readC 2 63 w wr v (cutM (fun x : RdM => x.1) (txt Bs) g (rs.take k)) [(w.heap.size + 1, txV s q a n c b m d, 27), (w.heap.size, #[.slice ca cn cc, .slice cb cm cd], 36)]) (fun _ i _ => n - (intOf i).toNat)
    case atStart => exact ⟨0, Nat.zero_le _, rfl, MadeL.start H0.out⟩
    case round =>
      obtain ⟨k, hk, rfl, hM⟩ := hrel
      have MM := Lib.hid hM
      clear hM H0 x0 x1 x2 x3 y0 y1
      obtain ⟨x0, x1, x2, x3⟩ := (MM.out.boxs.get 0 _ _ _ rfl).four
      obtain ⟨y0, y1⟩ := (MM.out.boxs.get 1 _ _ _ rfl).two
      by_cases hlt : k < n
      · have hk1 : k < rs.length := by omega
        have HYs : ((homeC (txt Bs) ((fun x : RdM => x.1) rs[k]).data.toList : Nat) : Int) = g → Hid _ := fun e => Lib.hid (cutM_yes (fun x : RdM => x.1) (txt Bs) g rs k hk1 e)
        have HNo : ¬ ((homeC (txt Bs) ((fun x : RdM => x.1) rs[k]).data.toList : Nat) : Int) = g → Hid _ := fun e => Lib.hid (cutM_no (fun x : RdM => x.1) (txt Bs) g rs k hk1 e)
        have hll : (cutM (fun x : RdM => x.1) (txt Bs) g (rs.take k)).length ≤ 6 := by have h1 := cutM_len (fun x : RdM => x.1) (txt Bs) g (rs.take k); rw [List.length_take] at h1; omega
        obtain ⟨b0, off, rfl, hb0, z0, z1⟩ := HX.out.rds.at_ (i := k) hk1
        have HS : Hid (∀ W, Boxs w W [(w.heap.size + 1, txV s q (some ⟨b0, off, none⟩) n c b m d, 27), (w.heap.size, #[.slice ca cn cc, .slice cb cm cd], 36)] → W.cell? ⟨w.heap.size, 0, none⟩ = some (.slice ca cn cc) ∧ W.cell? ⟨w.heap.size, 1, none⟩ = some (.slice cb cm cd) ∧ W.cell? ⟨w.heap.size + 1, 2, none⟩ = some (.slice (some ⟨b0, off, none⟩) n c) ∧ W.cell? ⟨b0, off + k * 2, none⟩ = some (.string rs[k].1) ∧ W.cell? ⟨b0, off + k * 2 + 1, none⟩ = some (.int .u64 ((rs[k].2 : Nat) : Int))) := fun W hW => ⟨(hW.get 1 _ _ _ rfl).cell 0 _ rfl, (hW.get 1 _ _ _ rfl).cell 1 _ rfl, (hW.get 0 _ _ _ rfl).cell 2 _ rfl, (hW.bel.cell (p := ⟨b0, off + k * 2, none⟩) hb0).trans z0, (hW.bel.cell (p := ⟨b0, off + k * 2 + 1, none⟩) hb0).trans z1⟩
        clear z0 z1
        generalize rs[k] = x at *
        generalize cutM (fun x : RdM => x.1) (txt Bs) g (rs.take k) = l at *
        obtain ⟨xk, xv⟩ := x
        have cH := cH0 xk
        rw [HH.out xk] at cH
        have i1 : (k : Int) < (n : Int) := by omega
        by_cases hg : ((homeC (txt Bs) xk.data.toList : Nat) : Int) = g
        · have Q := HYs hg
          have p1 : (((homeC (txt Bs) xk.data.toList : Nat) : Int) == g) = true := by simpa using hg
          clear HYs HNo hg cH0
          go_upto_region 5 with (first | (go_at_call 11; ((with_reducible refine (cF _ MM.out.bel).mono ?_); rintro e w1 ⟨rfl, hb1⟩; have M1 := Lib.hid (MM.out.below hb1); (clear x0 x1 x2 x3 y0 y1); obtain ⟨y0, y1⟩ := (M1.out.boxs.get 1 _ _ _ rfl).two; obtain ⟨x0, x1, x2, x3⟩ := (M1.out.boxs.get 0 _ _ _ rfl).four)) | (go_at_call 40; ((with_reducible refine (cC _ M1.out.bel).mono ?_); rintro e w2 ⟨rfl, hb2⟩; have M2 := Lib.hid (M1.out.below hb2))))
          have X0 := Lib.hid M2.out.drew
          have s0 := HS.out _ X0.out.boxs
          (clear x0 x1 x2 x3 y0 y1)
          go_region_held3 (fun W => W.cell? ⟨w.heap.size, 0, none⟩ = some (.slice ca cn cc) ∧ W.cell? ⟨w.heap.size, 1, none⟩ = some (.slice cb cm cd) ∧ W.cell? ⟨w.heap.size + 1, 2, none⟩ = some (.slice (some ⟨b0, off, none⟩) n c) ∧ W.cell? ⟨b0, off + k * 2, none⟩ = some (.string xk) ∧ W.cell? ⟨b0, off + k * 2 + 1, none⟩ = some (.int .u64 ((xv : Nat) : Int))) (first | exact s0 | exact s1)
            ((go_at_call 51; ((with_reducible refine (cH _ X0.out.bel).mono ?_); rintro e w5 ⟨rfl, hb5⟩; have M5 := Lib.hid (X0.out.below hb5); have s1 := HS.out _ M5.out.boxs)))
          obtain ⟨y0, y1, x2, e0, e1⟩ := s1
          go_wp2_with ((at_builtin; (refine wpList_append_rowk _ rfl _ _ 24 rfl w.heap.size 63 iR _ 2 24 Tryd.underlying24 hi hz0 hz1 hz2 rfl (by omega) _ l.length (l.flatMap readC) rfl (M5.out.own.alloc _) (w5.heap.size + 1) (some ⟨w5.heap.size, 0, none⟩) 1 1 (readC (xk, xv)) rfl (RowAt.oneR w5 (xk, xv) _) (readC_cells _) (by unfold maxLen; omega) (by omega) (by have := M5.out.bel.size; simp; omega) ?_; intro v6 w6 ho6 hg6 hat6; have M6 := Lib.hid (M5.out.push ho6 hg6 hat6); clear ho6 hg6 hat6)))
          go_roundw
          case rel => exact ⟨k + 1, by omega, by go_num, by rw [Q.out]; exact M6.out⟩
          case measure => simp [intOf]; omega
        · have Q := HNo hg
          have p1 : (((homeC (txt Bs) xk.data.toList : Nat) : Int) == g) = false := by simpa using hg
          clear HYs HNo hg cH0
          go_upto_region 5 with (first | (go_at_call 11; ((with_reducible refine (cF _ MM.out.bel).mono ?_); rintro e w1 ⟨rfl, hb1⟩; have M1 := Lib.hid (MM.out.below hb1); (clear x0 x1 x2 x3 y0 y1); obtain ⟨y0, y1⟩ := (M1.out.boxs.get 1 _ _ _ rfl).two; obtain ⟨x0, x1, x2, x3⟩ := (M1.out.boxs.get 0 _ _ _ rfl).four)) | (go_at_call 40; ((with_reducible refine (cC _ M1.out.bel).mono ?_); rintro e w2 ⟨rfl, hb2⟩; have M2 := Lib.hid (M1.out.below hb2))))
          have X0 := Lib.hid M2.out.drew
          have s0 := HS.out _ X0.out.boxs
          (clear x0 x1 x2 x3 y0 y1)
          go_region_held3 (fun W => W.cell? ⟨w.heap.size, 0, none⟩ = some (.slice ca cn cc) ∧ W.cell? ⟨w.heap.size, 1, none⟩ = some (.slice cb cm cd) ∧ W.cell? ⟨w.heap.size + 1, 2, none⟩ = some (.slice (some ⟨b0, off, none⟩) n c) ∧ W.cell? ⟨b0, off + k * 2, none⟩ = some (.string xk) ∧ W.cell? ⟨b0, off + k * 2 + 1, none⟩ = some (.int .u64 ((xv : Nat) : Int))) (first | exact s0 | exact s1)
            ((go_at_call 51; ((with_reducible refine (cH _ X0.out.bel).mono ?_); rintro e w5 ⟨rfl, hb5⟩; have M5 := Lib.hid (X0.out.below hb5); have s1 := HS.out _ M5.out.boxs)))
          go_wp2
          go_roundw
          case rel => exact ⟨k + 1, by omega, by go_num, by rw [Q.out]; exact M5.out⟩
          case measure => simp [intOf]; omega
      · have HQ : Hid (rs.take k = rs) := List.take_of_length_le (by omega)
        rw [HQ.out] at MM
        have hN := Lib.hid (NewL.of MM.out)
        obtain ⟨a1, c1, rfl, _⟩ := MM.out.lies
        clear MM
        go_wp2
        go_ret
        exact hN.out

set_option maxRecDepth 100000 in
set_option maxHeartbeats 4000000 in
theorem rWrites_any (ca : Option Addr) (cn cc : Nat) (cb : Option Addr) (cm cd : Nat) (R : List Int) (Bs : List ByteArray) (s q : Int) (a : Option Addr) (n c : Nat) (b : Option Addr) (m d : Nat) (rs : List RdM) (ws : List WrM) (g : Int) (w : World) (hC : CfgAt w ca cn cb cm R Bs) (hX : TxAt w a n b m rs ws) :
    Calls Tryd.prog 22 #[.agg #[.slice ca cn cc, .slice cb cm cd], .agg (txV s q a n c b m d), .int .i64 g] w (NewL writeC 4 w (writesM R Bs (s, q) rs ws g)) := by
  obtain ⟨iR, hi, hz0, hz1, hz2⟩ := info_parts Tryd.rInfo67
  have H0 := Lib.hid (((Boxs.start w).more #[.slice ca cn cc, .slice cb cm cd] 36).more (txV s q a n c b m d) 27)
  have hs : (w.alloc (.cells #[.slice ca cn cc, .slice cb cm cd] 36)).heap.size = w.heap.size + 1 := by simp
  rw [hs] at H0
  have HX := Lib.hid hX
  have hl := hX.lenW
  have cF := fun W (hW : Below w.heap.size w W) => rFormedT_any s q a n c b m d rs ws W (hX.later hW)
  have cC := fun W (hW : Below w.heap.size w W) => rConf_any ca cn cc cb cm cd R Bs W (hC.later hW)
  have cH0 := fun z W (hW : Below w.heap.size w W) => rHome_any ca cn cc cb cm cd R Bs z W (hC.later hW)
  obtain ⟨x0, x1, x2, x3⟩ := (H0.out.get 0 _ _ _ rfl).four
  obtain ⟨y0, y1⟩ := (H0.out.get 1 _ _ _ rfl).two
  clear hX hs hC
  unfold writesM
  cases hB : bothB R Bs (txT (s, q) rs ws)
  · rw [if_neg (by decide)]
    rcases both_no hB with hf | ⟨hf, hc⟩
    · rw [hf] at cF
      clear hf hB cH0 cC
      go_enter Tryd.func22, Tryd.ntmps22
      go_wp2
      go_loopw [7, 8] (fun v i wr => v = .slice none 0 0 ∧ i = .int .i64 0 ∧ Boxs w wr [(w.heap.size + 1, txV s q a n c b m d, 27), (w.heap.size, #[.slice ca cn cc, .slice cb cm cd], 36)]) (fun _ _ _ => 0)
      case atStart => exact ⟨rfl, rfl, H0.out⟩
      case round =>
        obtain ⟨rfl, rfl, hY⟩ := hrel
        have HY := Lib.hid hY
        clear hY H0 x0 x1 x2 x3 y0 y1
        obtain ⟨x0, x1, x2, x3⟩ := (HY.out.get 0 _ _ _ rfl).four
        obtain ⟨y0, y1⟩ := (HY.out.get 1 _ _ _ rfl).two
        by_cases h0 : m = 0
        · subst h0
          go_wp2
          go_ret
          exact NewL.none HY.out.bel
        · have q0 : decide ((0 : Int) < (m : Int)) = true := by simp; omega
          go_wp2_with (first | (go_at_call 11; ((with_reducible refine (cF _ HY.out.bel).mono ?_); rintro e w1 ⟨rfl, hb1⟩; have M1 := Lib.hid (HY.out.below hb1); (clear x0 x1 x2 x3 y0 y1); obtain ⟨y0, y1⟩ := (M1.out.get 1 _ _ _ rfl).two; obtain ⟨x0, x1, x2, x3⟩ := (M1.out.get 0 _ _ _ rfl).four)))
          go_ret
          exact NewL.none M1.out.bel
    · rw [hf] at cF
      rw [hc] at cC
      clear hf hc hB cH0
      go_enter Tryd.func22, Tryd.ntmps22
      go_wp2
      go_loopw [7, 8] (fun v i wr => v = .slice none 0 0 ∧ i = .int .i64 0 ∧ Boxs w wr [(w.heap.size + 1, txV s q a n c b m d, 27), (w.heap.size, #[.slice ca cn cc, .slice cb cm cd], 36)]) (fun _ _ _ => 0)
      case atStart => exact ⟨rfl, rfl, H0.out⟩
      case round =>
        obtain ⟨rfl, rfl, hY⟩ := hrel
        have HY := Lib.hid hY
        clear hY H0 x0 x1 x2 x3 y0 y1
        obtain ⟨x0, x1, x2, x3⟩ := (HY.out.get 0 _ _ _ rfl).four
        obtain ⟨y0, y1⟩ := (HY.out.get 1 _ _ _ rfl).two
        by_cases h0 : m = 0
        · subst h0
          go_wp2
          go_ret
          exact NewL.none HY.out.bel
        · have q0 : decide ((0 : Int) < (m : Int)) = true := by simp; omega
          go_wp2_with (first | (go_at_call 11; ((with_reducible refine (cF _ HY.out.bel).mono ?_); rintro e w1 ⟨rfl, hb1⟩; have M1 := Lib.hid (HY.out.below hb1); (clear x0 x1 x2 x3 y0 y1); obtain ⟨y0, y1⟩ := (M1.out.get 1 _ _ _ rfl).two; obtain ⟨x0, x1, x2, x3⟩ := (M1.out.get 0 _ _ _ rfl).four)) | (go_at_call 40; ((with_reducible refine (cC _ M1.out.bel).mono ?_); rintro e w2 ⟨rfl, hb2⟩; have M2 := Lib.hid (M1.out.below hb2))))
          go_ret
          exact NewL.none M2.out.bel
  · rw [if_pos rfl]
    obtain ⟨hf, hc⟩ := both_yes hB
    rw [hf] at cF
    rw [hc] at cC
    have h6 : m ≤ 6 := by
      have := ((formT_iff _ _).1 hf).wlen
      simp only [txT, txW, List.length_map] at this; omega
    have HH : Hid (∀ z : ByteArray, homeI R (txt Bs) z.data.toList = (homeC (txt Bs) z.data.toList : Nat)) := fun z => home_of hc _
    clear hB hf hc
    go_enter Tryd.func22, Tryd.ntmps22
    go_wp2
    go_loopw [7, 8] (fun v i wr => ∃ k : Nat, k ≤ m ∧ i = .int .i64 k ∧ MadeL writeC 4 67 w wr v (cutM (fun x : WrM => x.key) (txt Bs) g (ws.take k)) [(w.heap.size + 1, txV s q a n c b m d, 27), (w.heap.size, #[.slice ca cn cc, .slice cb cm cd], 36)]) (fun _ i _ => m - (intOf i).toNat)
    case atStart => exact ⟨0, Nat.zero_le _, rfl, MadeL.start H0.out⟩
    case round =>
      obtain ⟨k, hk, rfl, hM⟩ := hrel
      have MM := Lib.hid hM
      clear hM H0 x0 x1 x2 x3 y0 y1
      obtain ⟨x0, x1, x2, x3⟩ := (MM.out.boxs.get 0 _ _ _ rfl).four
      obtain ⟨y0, y1⟩ := (MM.out.boxs.get 1 _ _ _ rfl).two
      by_cases hlt : k < m
      · have hk1 : k < ws.length := by omega
        have HYs : ((homeC (txt Bs) ((fun x : WrM => x.key) ws[k]).data.toList : Nat) : Int) = g → Hid _ := fun e => Lib.hid (cutM_yes (fun x : WrM => x.key) (txt Bs) g ws k hk1 e)
        have HNo : ¬ ((homeC (txt Bs) ((fun x : WrM => x.key) ws[k]).data.toList : Nat) : Int) = g → Hid _ := fun e => Lib.hid (cutM_no (fun x : WrM => x.key) (txt Bs) g ws k hk1 e)
        have hll : (cutM (fun x : WrM => x.key) (txt Bs) g (ws.take k)).length ≤ 6 := by have h1 := cutM_len (fun x : WrM => x.key) (txt Bs) g (ws.take k); rw [List.length_take] at h1; omega
        obtain ⟨b0, off, rfl, hb0, z0, z1, z2, z3⟩ := HX.out.wrs.at_ (i := k) hk1
        have HS : Hid (∀ W, Boxs w W [(w.heap.size + 1, txV s q a n c (some ⟨b0, off, none⟩) m d, 27), (w.heap.size, #[.slice ca cn cc, .slice cb cm cd], 36)] → W.cell? ⟨w.heap.size, 0, none⟩ = some (.slice ca cn cc) ∧ W.cell? ⟨w.heap.size, 1, none⟩ = some (.slice cb cm cd) ∧ W.cell? ⟨w.heap.size + 1, 3, none⟩ = some (.slice (some ⟨b0, off, none⟩) m d) ∧ W.cell? ⟨b0, off + k * 4, none⟩ = some (.string ws[k].key) ∧ W.cell? ⟨b0, off + k * 4 + 1, none⟩ = some (.int .i64 ws[k].k) ∧ W.cell? ⟨b0, off + k * 4 + 2, none⟩ = some (.int .u64 ((ws[k].b : Nat) : Int)) ∧ W.cell? ⟨b0, off + k * 4 + 3, none⟩ = some (.string ws[k].t)) := fun W hW => ⟨(hW.get 1 _ _ _ rfl).cell 0 _ rfl, (hW.get 1 _ _ _ rfl).cell 1 _ rfl, (hW.get 0 _ _ _ rfl).cell 3 _ rfl, (hW.bel.cell (p := ⟨b0, off + k * 4, none⟩) hb0).trans z0, (hW.bel.cell (p := ⟨b0, off + k * 4 + 1, none⟩) hb0).trans z1, (hW.bel.cell (p := ⟨b0, off + k * 4 + 2, none⟩) hb0).trans z2, (hW.bel.cell (p := ⟨b0, off + k * 4 + 3, none⟩) hb0).trans z3⟩
        clear z0 z1 z2 z3
        generalize ws[k] = x at *
        generalize cutM (fun x : WrM => x.key) (txt Bs) g (ws.take k) = l at *
        obtain ⟨xk, xa, xb, xt⟩ := x
        have cH := cH0 xk
        rw [HH.out xk] at cH
        have i1 : (k : Int) < (m : Int) := by omega
        by_cases hg : ((homeC (txt Bs) xk.data.toList : Nat) : Int) = g
        · have Q := HYs hg
          have p1 : (((homeC (txt Bs) xk.data.toList : Nat) : Int) == g) = true := by simpa using hg
          clear HYs HNo hg cH0
          go_upto_region 5 with (first | (go_at_call 11; ((with_reducible refine (cF _ MM.out.bel).mono ?_); rintro e w1 ⟨rfl, hb1⟩; have M1 := Lib.hid (MM.out.below hb1); (clear x0 x1 x2 x3 y0 y1); obtain ⟨y0, y1⟩ := (M1.out.boxs.get 1 _ _ _ rfl).two; obtain ⟨x0, x1, x2, x3⟩ := (M1.out.boxs.get 0 _ _ _ rfl).four)) | (go_at_call 40; ((with_reducible refine (cC _ M1.out.bel).mono ?_); rintro e w2 ⟨rfl, hb2⟩; have M2 := Lib.hid (M1.out.below hb2))))
          have X0 := Lib.hid M2.out.drew
          have s0 := HS.out _ X0.out.boxs
          (clear x0 x1 x2 x3 y0 y1)
          go_region_held3 (fun W => W.cell? ⟨w.heap.size, 0, none⟩ = some (.slice ca cn cc) ∧ W.cell? ⟨w.heap.size, 1, none⟩ = some (.slice cb cm cd) ∧ W.cell? ⟨w.heap.size + 1, 3, none⟩ = some (.slice (some ⟨b0, off, none⟩) m d) ∧ W.cell? ⟨b0, off + k * 4, none⟩ = some (.string xk) ∧ W.cell? ⟨b0, off + k * 4 + 1, none⟩ = some (.int .i64 xa) ∧ W.cell? ⟨b0, off + k * 4 + 2, none⟩ = some (.int .u64 ((xb : Nat) : Int)) ∧ W.cell? ⟨b0, off + k * 4 + 3, none⟩ = some (.string xt)) (first | exact s0 | exact s1)
            ((go_at_call 51; ((with_reducible refine (cH _ X0.out.bel).mono ?_); rintro e w5 ⟨rfl, hb5⟩; have M5 := Lib.hid (X0.out.below hb5); have s1 := HS.out _ M5.out.boxs)))
          obtain ⟨y0, y1, x2, e0, e1, e2, e3⟩ := s1
          go_wp2_with ((at_builtin; (refine wpList_append_rowk _ rfl _ _ 25 rfl w.heap.size 67 iR _ 4 48 Tryd.underlying25 hi hz0 hz1 hz2 rfl (by omega) _ l.length (l.flatMap writeC) rfl (M5.out.own.alloc _) (w5.heap.size + 1) (some ⟨w5.heap.size, 0, none⟩) 1 1 (writeC ⟨xk, xa, xb, xt⟩) rfl (RowAt.oneW w5 ⟨xk, xa, xb, xt⟩ _) (writeC_cells _) (by unfold maxLen; omega) (by omega) (by have := M5.out.bel.size; simp; omega) ?_; intro v6 w6 ho6 hg6 hat6; have M6 := Lib.hid (M5.out.push ho6 hg6 hat6); clear ho6 hg6 hat6)))
          go_roundw
          case rel => exact ⟨k + 1, by omega, by go_num, by rw [Q.out]; exact M6.out⟩
          case measure => simp [intOf]; omega
        · have Q := HNo hg
          have p1 : (((homeC (txt Bs) xk.data.toList : Nat) : Int) == g) = false := by simpa using hg
          clear HYs HNo hg cH0
          go_upto_region 5 with (first | (go_at_call 11; ((with_reducible refine (cF _ MM.out.bel).mono ?_); rintro e w1 ⟨rfl, hb1⟩; have M1 := Lib.hid (MM.out.below hb1); (clear x0 x1 x2 x3 y0 y1); obtain ⟨y0, y1⟩ := (M1.out.boxs.get 1 _ _ _ rfl).two; obtain ⟨x0, x1, x2, x3⟩ := (M1.out.boxs.get 0 _ _ _ rfl).four)) | (go_at_call 40; ((with_reducible refine (cC _ M1.out.bel).mono ?_); rintro e w2 ⟨rfl, hb2⟩; have M2 := Lib.hid (M1.out.below hb2))))
          have X0 := Lib.hid M2.out.drew
          have s0 := HS.out _ X0.out.boxs
          (clear x0 x1 x2 x3 y0 y1)
          go_region_held3 (fun W => W.cell? ⟨w.heap.size, 0, none⟩ = some (.slice ca cn cc) ∧ W.cell? ⟨w.heap.size, 1, none⟩ = some (.slice cb cm cd) ∧ W.cell? ⟨w.heap.size + 1, 3, none⟩ = some (.slice (some ⟨b0, off, none⟩) m d) ∧ W.cell? ⟨b0, off + k * 4, none⟩ = some (.string xk) ∧ W.cell? ⟨b0, off + k * 4 + 1, none⟩ = some (.int .i64 xa) ∧ W.cell? ⟨b0, off + k * 4 + 2, none⟩ = some (.int .u64 ((xb : Nat) : Int)) ∧ W.cell? ⟨b0, off + k * 4 + 3, none⟩ = some (.string xt)) (first | exact s0 | exact s1)
            ((go_at_call 51; ((with_reducible refine (cH _ X0.out.bel).mono ?_); rintro e w5 ⟨rfl, hb5⟩; have M5 := Lib.hid (X0.out.below hb5); have s1 := HS.out _ M5.out.boxs)))
          go_wp2
          go_roundw
          case rel => exact ⟨k + 1, by omega, by go_num, by rw [Q.out]; exact M5.out⟩
          case measure => simp [intOf]; omega
      · have HQ : Hid (ws.take k = ws) := List.take_of_length_le (by omega)
        rw [HQ.out] at MM
        have hN := Lib.hid (NewL.of MM.out)
        obtain ⟨a1, c1, rfl, _⟩ := MM.out.lies
        clear MM
        go_wp2
        go_ret
        exact hN.out
end Go.Proofs.YtlkgpajpblhkeaaDoor
