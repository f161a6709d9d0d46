/- The law's walk of NetPlays. Condition: the script lies in memory. -/
import Derived.Test.YtgdgjgcmglgfmaaNetPlaysAct
import Derived.Deep.RegionHeld3
import Derived.Deep.RegionWith
namespace Go.Proofs.Ytgdgjgcmglgfmaa

open Go.RowKit

set_option linter.unusedVariables false
set_option linter.unusedSimpArgs false

theorem Two.made {W V : World} (hb : Below W.heap.size W V) : Two W ((V.alloc (.cells #[.map none] 62)).alloc (.cells #[.slice none 0 0] 30)) V.heap.size (V.heap.size + 1) [] [] [] := by
  have hs := hb.size
  have hz : (V.alloc (.cells #[.map none] 62)).heap.size = V.heap.size + 1 := by simp
  have hB : Below (V.alloc (.cells #[.map none] 62)).heap.size (V.alloc (.cells #[.map none] 62)) ((V.alloc (.cells #[.map none] 62)).alloc (.cells #[.slice none 0 0] 30)) := (Below.refl _ _).alloc (Nat.le_refl _) _
  have hx := BoxC.new (V.alloc (.cells #[.map none] 62)) #[.slice none 0 0] 30
  rw [hz] at hx
  refine ⟨[V.heap.size], .slice none 0 0, (NetC.made V).below hB, ⟨hx, World.ownsRow_nil _ _ _ _, fun p hp => (by cases hp), by omega⟩, (hb.alloc hs _).trans (hB.mono (by omega)), fun i hi => by simp at hi; omega, fun i hi hr => ?_, fun b hb => by cases hb⟩
  simp [ownR, Value.ownBlock] at hi hr
  omega
theorem small_nil (k : Nat) : Small [] k := ⟨Nat.zero_le _, fun p hp => by cases hp⟩
/-- Six cells of the script. -/
def Six (w : World) (b off : Nat) (x : OpM) : Prop := w.cell? ⟨b, off, none⟩ = some (.int .i64 x.k) ∧ w.cell? ⟨b, off + 1, none⟩ = some (.int .i64 x.f) ∧ w.cell? ⟨b, off + 2, none⟩ = some (.int .i64 x.t) ∧ w.cell? ⟨b, off + 3, none⟩ = some (.int .i64 x.i) ∧ w.cell? ⟨b, off + 4, none⟩ = some (.int .i64 x.j) ∧ w.cell? ⟨b, off + 5, none⟩ = some (.slice x.a x.n x.c)
theorem Six.below {w w' : World} {b off : Nat} {x : OpM} (h : Six w b off x) (hb : b < w.heap.size) (H : Below w.heap.size w w') : Six w' b off x :=
  ⟨(H.cell (p := ⟨b, off, none⟩) hb).trans h.1, (H.cell (p := ⟨b, off + 1, none⟩) hb).trans h.2.1, (H.cell (p := ⟨b, off + 2, none⟩) hb).trans h.2.2.1, (H.cell (p := ⟨b, off + 3, none⟩) hb).trans h.2.2.2.1, (H.cell (p := ⟨b, off + 4, none⟩) hb).trans h.2.2.2.2.1, (H.cell (p := ⟨b, off + 5, none⟩) hb).trans h.2.2.2.2.2⟩

/-- A link of a row. -/
theorem link_at {w w' : World} {b o : Nat} {ks : List Lk} (h : ∀ i u, (ks.flatMap lkC)[i]? = some u → w.cell? ⟨b, o + i, none⟩ = some u) (hb : b < w.heap.size) (H : Below w.heap.size w w') {j : Nat} (hj : j < ks.length) {x : Lk} (hx : x = ks[j]) : w'.cell? ⟨b, o + j * 2, none⟩ = some (.int .i64 x.1) ∧ w'.cell? ⟨b, o + j * 2 + 1, none⟩ = some (.int .i64 x.2) := by
  subst hx
  have hx : ∀ q u, q < 2 → (lkC ks[j])[q]? = some u → w'.cell? ⟨b, o + j * 2 + q, none⟩ = some u := fun q u hq hu => by
    have h1 := h (j * 2 + q) u (by rw [flat_get lkC 2 (fun _ => rfl) ks j q hj hq]; exact hu)
    rw [← Nat.add_assoc] at h1
    exact (H.cell (p := ⟨b, o + j * 2 + q, none⟩) hb).trans h1
  exact ⟨hx 0 _ (by omega) rfl, hx 1 _ (by omega) rfl⟩
theorem neR_bin (k : Lk) (w : World) : (binOp .neq 41 (.agg #[.int .i64 k.1, .int .i64 k.2]) (.agg #[.int .i64 k.1, .int .i64 k.2])).run Try.prog w = .ok (.bool false) w := by
  have h := eqR_link k k w
  rw [decide_eq_true rfl] at h
  unfold keyV at h
  simp only [binOp, Sem.run_bind, h, Result.andThen_ok]
  rfl

set_option maxRecDepth 100000 in
set_option maxHeartbeats 8000000 in
theorem plays_walk (a : Option Addr) (n c : Nat) (xs : List OpM) (W : World) (hl : xs.length = n) (hr : RowAt W W.heap.size a n 6 (xs.flatMap opC)) (hx : ∀ x ∈ xs, OpW W x) (hn : n ≤ maxLen) :
    Calls Try.prog 3 #[.slice a n c] W (Quiet1 W (.bool true)) := by
  have cF := fun (w : World) (hb : Below W.heap.size W w) => few_any a n c xs w hl ((hr.below hb (Nat.le_refl _)).more hb.size) hn
  by_cases hF : FewP xs n
  · rw [decide_eq_true hF] at cF
    have HR := Lib.hid hr
    have HL := Lib.hid hl
    have HX := Lib.hid hx
    have HF := Lib.hid hF
    clear hl hr hx hn hF
    go_enter Try.func3, Try.ntmps3
    go_wp2_with (first | (go_at_call 8; ((with_reducible refine (awake11_any _).mono ?_); rintro e w1 ⟨rfl, hb1⟩; have B1 := Lib.hid hb1; clear hb1)) | (go_at_call 9; ((with_reducible refine (cF _ B1.out).mono ?_); rintro e w2 ⟨rfl, rfl⟩)) | (go_at_call 10; ((with_reducible refine (new_net _).mono ?_); rintro e w3 ⟨rfl, rfl⟩; have T2 := Lib.hid (Two.made B1.out))))
    generalize (w1.alloc (.cells #[.map none] 62)).alloc (.cells #[.slice none 0 0] 30) = w2 at *
    generalize hgh : w1.heap.size + 1 = h at *
    generalize w1.heap.size = g at *
    go_loopw [5] (fun v wr => ∃ (k : Nat) (bs : Bags) (ps : List Pc), v = .int .i64 k ∧ k ≤ n ∧ Two W wr g h bs ps [] ∧ Agree bs ps ∧ Small ps k) (fun v _ => n - (intOf v).toNat)
    case atStart => exact ⟨0, [], [], rfl, Nat.zero_le _, T2.out, agree_nil, small_nil 0⟩
    case round =>
      obtain ⟨k, bs, ps, rfl, hk, hT, hA, hS⟩ := hrel
      clear T2
      have T := Lib.hid hT
      have A := Lib.hid hA
      have S := Lib.hid hS
      clear hT hA hS
      have h200 := HF.out.1
      by_cases hlt : k < n
      · have hd : decide ((k : Int) < (n : Int)) = true := decide_eq_true (by omega)
        obtain ⟨b, off, rfl, hb, y0, y1, y2, y3, y4, y5⟩ := op_cells HR.out (j := k) (by have := HL.out; omega) (by omega)
        have hin : (k : Int) < (n : Int) := by omega
        have HJ : Hid (k < xs.length) := by have := HL.out; unfold Hid; omega
        have Y : Hid (Six W b (off + k * 6) (xs[k]'HJ.out)) := ⟨y0, y1, y2, y3, y4, y5⟩
        have OX := Lib.hid (HX.out _ (List.getElem_mem HJ.out))
        have NX := Lib.hid (HF.out.2 _ (List.getElem_mem HJ.out))
        clear y0 y1 y2 y3 y4 y5
        generalize (xs[k]'HJ.out) = x at *
        have cA := fun V1 (T1 : Two W V1 g h bs ps []) => act_any x T1 A.out S.out (by omega) OX.out NX.out
        have cC := fun bs ps V1 (T1 : Two W V1 g h bs ps []) (A1 : Agree bs ps) (S1 : ps.length ≤ k + 1) => T1.count A1 (by omega)
        go_upto_region 7 with fail
        have TD : Hid (Two W wr.drew g h bs ps []) := T.out.later (below_drewN 1 (Below.refl _ _))
        have s0 : Six wr.drew b (off + k * 6) x := Y.out.below hb TD.out.bel
        obtain ⟨z0, z1, z2, z3, z4, z5⟩ := s0
        go_region_with
          (first | (go_at_call 11; ((with_reducible refine (cA _ TD.out).mono ?_); rintro e w3 ⟨rfl, bs3, ps3, hT3, hA3, hl3, hs3⟩; have T3 := Lib.hid hT3; have A3 := Lib.hid hA3; have S3 := Lib.hid hl3; have M3 := Lib.hid hs3; have s1 := Y.out.below hb T3.out.bel; obtain ⟨da, dc, hdx⟩ := T3.out.doc; have hdc := hdx.cell 0 _ rfl; clear hT3 hA3 hl3 hs3 hdx)) | (go_at_call 12; ((with_reducible refine (cC _ _ _ T3.out A3.out S3.out).mono ?_); rintro e w4 ⟨rfl, hT4⟩; have T4 := Lib.hid hT4; have s2 := Y.out.below hb T4.out.bel; obtain ⟨ea, ec, hex⟩ := T4.out.doc; have hec := hex.cell 0 _ rfl; clear hT4 hex)))
        all_goals (try go_wp2)
        all_goals exact ⟨⟨k + 1, bs3, ps3, by go_num, hlt, T4.out, A3.out, S3.out, M3.out⟩, by simp [intOf]; omega⟩
      · obtain rfl : k = n := by omega
        clear hlt hk
        have hk2 := S.out.1
        have cP := T.out.pLinks A.out (by omega)
        have cD := fun V1 (T1 : Two W V1 g h bs ps []) => T1.dLinks (by omega)
        go_wp2_with (first | (go_at_call 13; ((with_reducible refine cP.mono ?_); rintro e w4 ⟨la, lc, ks, rfl, hK, hO, hb4⟩; have K1 := Lib.hid hK; have O1 := Lib.hid hO; have T4 := Lib.hid (T.out.later hb4); clear hK hO hb4)) | (go_at_call 14; ((with_reducible refine (cD _ T4.out).mono ?_); rintro e w5 ⟨ma, mc, ls, rfl, hK, hO, hb5⟩; obtain rfl := K1.out.eq hK; have R1 := Lib.hid (((RowAt.of_own O1.out).below hb5 (Nat.le_refl _)).more hb5.size); have R2 := Lib.hid (RowAt.of_own hO); have T5 := Lib.hid (T4.out.later hb5); clear hK hO hb5)))
        have hkl : ks.length ≤ maxLen := by
          obtain ⟨_, _, _, h1, h2⟩ := ownk_form O1.out
          exact Nat.le_trans h1 h2
        have cB := fun (f t : Int) V1 (T1 : Two W V1 g h bs ps []) => T1.pBag f t A.out S.out (by omega)
        have cE := fun (f t : Int) V1 (T1 : Two W V1 g h bs ps []) => T1.dBag f t S.out (by omega)
        have hml : ∀ k : Lk, cnt ps k ≤ maxLen := fun k => by have := cnt_le ps k; unfold maxLen; omega
        clear T T4 cP cD
        go_loopw [8] (fun v wr => ∃ (j : Nat), v = .int .i64 j ∧ j ≤ ks.length ∧ Below w5.heap.size w5 wr) (fun v _ => ks.length - (intOf v).toNat)
        case atStart => exact ⟨0, rfl, Nat.zero_le _, Below.refl _ _⟩
        case round =>
          obtain ⟨j, rfl, hj, hB⟩ := hrel
          have B := Lib.hid hB
          clear hB
          by_cases hlt : j < ks.length
          · have hd : decide ((j : Int) < (ks.length : Int)) = true := decide_eq_true (by omega)
            have hin : (j : Int) < (ks.length : Int) := by omega
            have EW : Hid (wrap64 ((j : Int) + 1) = ((j + 1 : Nat) : Int)) := by
              unfold maxLen at hkl
              unfold Hid wrap64
              omega
            obtain ⟨b1, o1, rfl, hb1, hc1⟩ := R1.out.addr (by omega)
            obtain ⟨b2, o2, rfl, hb2, hc2⟩ := R2.out.addr (by omega)
            obtain ⟨x, hx⟩ : ∃ x, x = ks[j] := ⟨_, rfl⟩
            have BD : Hid (Below w5.heap.size w5 wr.drew) := B.out.trans (below_drewN 1 (Below.refl _ _))
            have TB := Lib.hid (T5.out.later BD.out)
            have HS : ∀ w', Below w5.heap.size w5 w' → (w'.cell? ⟨b1, o1 + j * 2, none⟩ = some (.int .i64 x.1) ∧ w'.cell? ⟨b1, o1 + j * 2 + 1, none⟩ = some (.int .i64 x.2)) ∧ w'.cell? ⟨b2, o2 + j * 2, none⟩ = some (.int .i64 x.1) ∧ w'.cell? ⟨b2, o2 + j * 2 + 1, none⟩ = some (.int .i64 x.2) := fun w' H => ⟨link_at hc1 hb1 H hlt hx, link_at hc2 hb2 H hlt hx⟩
            have HSS := Lib.hid HS
            have hne := neR_bin x
            have s0 := HS _ BD.out
            clear HS hc1 hc2 hx
            go_upto_region 15 with fail
            go_region_held3 (fun w' => (w'.cell? ⟨b1, o1 + j * 2, none⟩ = some (.int .i64 x.1) ∧ w'.cell? ⟨b1, o1 + j * 2 + 1, none⟩ = some (.int .i64 x.2)) ∧ w'.cell? ⟨b2, o2 + j * 2, none⟩ = some (.int .i64 x.1) ∧ w'.cell? ⟨b2, o2 + j * 2 + 1, none⟩ = some (.int .i64 x.2)) (first | exact s0 | exact s1 | exact s2 | exact s3)
              (first | (go_at_call 16; ((with_reducible refine (cB _ _ _ TB.out).mono ?_); rintro e w6 ⟨pa, pc, rfl, hra, hb6⟩; have RA := Lib.hid hra; have B6 := Lib.hid (BD.out.trans (hb6.mono BD.out.size)); have T6 := Lib.hid (TB.out.later hb6); have s1 := HSS.out _ B6.out; clear hra hb6)) | (go_at_call 17; ((with_reducible refine (cE _ _ _ T6.out).mono ?_); rintro e w7 ⟨qa, qc, rfl, hrd, hb7⟩; have RD := Lib.hid hrd; have RB := Lib.hid (RA.out.below hb7); have B7 := Lib.hid (B6.out.trans (hb7.mono B6.out.size)); have s2 := HSS.out _ B7.out; clear hrd hb7)) | (go_at_call 15; ((with_reducible refine (bags_same _ _ _ _ _ _ _ _ RB.out RD.out (hml _)).mono ?_); rintro e w8 ⟨rfl, k8, rfl⟩; have B8 := Lib.hid (B7.out.trans (below_drewN k8 (Below.refl _ _))); have s3 := HSS.out _ B8.out)))
            all_goals (try go_wp2)
            all_goals exact ⟨⟨j + 1, by rw [EW.out], hlt, B8.out⟩, mea_o _ _ EW.out hlt⟩
          · obtain rfl : j = ks.length := by omega
            go_wp2
            go_ret
            exact ⟨rfl, (T5.out.later B.out).bel⟩
  · rw [decide_eq_false hF] at cF
    clear hl hr hx hn hF
    go_enter Try.func3, Try.ntmps3
    go_wp2_with (first | (go_at_call 9; ((with_reducible refine (cF _ B1.out).mono ?_); rintro e w2 ⟨rfl, rfl⟩; have B2 := Lib.hid B1.out; clear B1)) | (go_at_call 8; ((with_reducible refine (awake11_any _).mono ?_); rintro e w1 ⟨rfl, hb1⟩; have B1 := Lib.hid hb1; clear hb1)))
    go_ret
    exact ⟨rfl, B2.out.trans (B1.out.mono B2.out.size)⟩
end Go.Proofs.Ytgdgjgcmglgfmaa
