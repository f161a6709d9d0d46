/- The walk of the statement FrameCuts. Conditions: what came in lies in memory and fits its kinds. -/
import Derived.Test.YtmkadjchcfmbjaaFrameRows2
namespace Go.Proofs.Ytmkadjchcfmbjaa
open Go.RowKit

theorem Try.info3 : (Try.prog.info? 3).map (fun i => (i.zero, i.size, i.bytes)) = some (some (.int .i64 0), 1, 8) := by kernel_rfl
/-- The ends of the first i frames. -/
def endN (ls : List (List UInt8)) (j : Nat) : Nat := (catB (ls.take j)).length
def endsV (ls : List (List UInt8)) (i : Nat) : List Value := (List.range i).map fun j => .int .i64 ((endN ls (j + 1) : Nat) : Int)
theorem endsV_succ (ls : List (List UInt8)) (i : Nat) : endsV ls (i + 1) = endsV ls i ++ [.int .i64 ((endN ls (i + 1) : Nat) : Int)] := by simp [endsV, List.range_succ]
theorem endsV_get (ls : List (List UInt8)) (i j : Nat) (h : j < i) : (endsV ls i)[j]? = some (.int .i64 ((endN ls (j + 1) : Nat) : Int)) := by simp [endsV, h]
theorem endN_succ (ls : List (List UInt8)) (i : Nat) (h : i < ls.length) : endN ls (i + 1) = endN ls i + (8 + ls[i].length) ∧ catB (ls.take (i + 1)) = catB (ls.take i) ++ frameB ls[i] := by
  have e : catB (ls.take (i + 1)) = catB (ls.take i) ++ frameB ls[i] := by rw [List.take_succ_eq_append_getElem h, catB_snoc]
  exact ⟨by unfold endN; rw [e, List.length_append, frameB_len], e⟩

theorem endN_le (ls : List (List UInt8)) (i : Nat) (hi : i ≤ 20) (h : ∀ l ∈ ls.take i, l.length ≤ 60000) : endN ls i ≤ 1200160 := by
  have h1 := catB_len (ls.take i) h
  have h2 := List.length_take_le i ls
  have h3 : (ls.take i).length * 60008 ≤ 20 * 60008 := Nat.mul_le_mul_right _ (by omega)
  exact Nat.le_trans h1 h3
/-- What the first loop holds. -/
def CutIn (w wr : World) (vb ve : Value) (ls : List (List UInt8)) (i : Nat) : Prop :=
  Below w.heap.size w wr ∧ wr.ownsRow w.heap.size 5 1 vb (endN ls i) (bcells (catB (ls.take i))) ∧ wr.ownsRow w.heap.size 3 1 ve i (endsV ls i) ∧ ∀ k, vb.ownBlock = some k → ve.ownBlock ≠ some k
theorem CellsAt.one (w : World) (u : Value) (t : TypeId) : CellsAt (w.alloc (.cells #[u] t)) (some ⟨w.heap.size, 0, none⟩) 1 [u] := by
  refine ⟨rfl, .inr ⟨w.heap.size, 0, rfl, fun j x hx => ?_⟩⟩
  have h := World.news_of_block (heap_alloc_new w (.cells #[u] t)) j x hx
  rwa [add_plain] at h
/-- One round of it. -/
theorem CutIn.step {w wr w1 w2 w3 : World} {vb ve vb' ve' : Value} {ls : List (List UInt8)} {i : Nat} {o : Obj} (h : CutIn w wr vb ve ls i) (hb1 : Below wr.heap.size wr w1)
    (hob : w2.ownsRow w.heap.size 5 1 vb' (endN ls (i + 1)) (bcells (catB (ls.take (i + 1))))) (hg2 : w1.grownBy w2 vb.ownBlock) (hat2 : vb'.ownBlock = vb.ownBlock ∨ vb'.ownBlock = some w1.heap.size)
    (hoe : w3.ownsRow w.heap.size 3 1 ve' (i + 1) (endsV ls (i + 1))) (hg3 : (w2.alloc o).grownBy w3 ve.ownBlock) (hat3 : ve'.ownBlock = ve.ownBlock ∨ ve'.ownBlock = some (w2.heap.size + 1)) :
    CutIn w w3 vb' ve' ls (i + 1) := by
  obtain ⟨hB, hb, he, hd⟩ := h
  have hB1 : Below w.heap.size w w1 := hB.trans (hb1.mono hB.size)
  have hB2 : Below w.heap.size w w2 := hB1.grown hg2 hB1.size (own_block hb)
  have hel : ∀ k, ve.ownBlock = some k → k < wr.heap.size := own_lt he
  have hbl : ∀ k, vb'.ownBlock = some k → k < w2.heap.size := own_lt hob
  have hd2 : ∀ k, vb'.ownBlock = some k → ve.ownBlock ≠ some k := by
    intro k hk e
    rcases hat2 with h | h
    · exact hd k (h ▸ hk) e
    · rw [hk] at h; injection h with h
      have h1 := hel k e
      have h2 := hb1.size
      omega
  refine ⟨(hB2.alloc hB2.size o).grown hg3 (by simp; have := hB2.size; omega) (own_block he), own_grown (hob.alloc o) hg3 (fun k hk e => hd2 k hk e), hoe, fun k hk e => ?_⟩
  rcases hat3 with h | h
  · exact hd2 k hk (h ▸ e)
  · rw [e] at h; injection h with h
    have := hbl k hk
    omega

/-- All, of frames cut off. -/
theorem all_cut (a : Option Addr) (r c j : Nat) (ls : List (List UInt8)) (w : World) (hl : BAt w w.heap.size a r ((catB ls).take r)) (hrc : r ≤ c) (hcm : c ≤ maxLen) (hr : r ≤ 1099511627776)
    (hs : ∀ l ∈ ls, l.length ≤ 60000) (hj : j ≤ ls.length) (h1 : endN ls j ≤ r) (h2 : j = ls.length ∨ r < endN ls (j + 1)) :
    Calls Try.prog 17 #[.slice a r c] w fun e w' => ∃ a' k c', e = .returned (.tuple #[.slice a' k c', .int .i64 ((endN ls j : Nat) : Int)]) ∧ RowsAt w' a' k (ls.take j) ∧ k ≤ maxLen ∧ Below w.heap.size w w' := by
  refine (all_any a r c _ w hl hrc hcm hr).mono fun e w' ⟨a', k, c', he, h3⟩ => ?_
  obtain ⟨e1, e2⟩ := cuts ls hs j r hj h1 h2
  rw [e1] at h3
  rw [e2] at he
  refine ⟨a', k, c', he, h3.rows (fun l hl => ?_), ?_, h3.1⟩
  · have := hs l (List.mem_of_mem_take hl); unfold maxLen; omega
  · have h4 := (all_sizes ((catB ls).take r)).2
    rw [e1, h3.len] at h4
    have := List.length_take_le r (catB ls)
    unfold maxLen; omega

set_option maxHeartbeats 1000000 in
theorem cuts_walk (a : Option Addr) (n c t : Nat) (ls : List (List UInt8)) (w : World) (hl : RowsAt w a n ls) (hnc : n ≤ c) (hcm : c ≤ maxLen) (ht : t < 65536) :
    Calls Try.prog 5 #[.slice a n c, .int .u16 t] w fun e w' => e = .returned (.bool true) ∧ Below w.heap.size w w' := by
  obtain ⟨i0, hi, hz0, hz1, hz2⟩ := info_parts Try.info5
  obtain ⟨i1, ji, jz0, jz1, jz2⟩ := info_parts Try.info3
  unfold maxLen at hcm
  by_cases h20 : n ≤ 20
  · have hd : decide ((20 : Int) < (n : Int)) = false := by simp; omega
    go_enter Try.func5, Try.ntmps5
    go_upto_region 3 with (go_at_call 9; ((with_reducible refine (awake_any _).mono ?_); rintro e w1 ⟨rfl, hb1⟩))
    have hstart : CutIn w w1 (.slice none 0 0) (.slice none 0 0) ls 0 := ⟨hb1, World.ownsRow_nil _ _ _ _, World.ownsRow_nil _ _ _ _, fun k hk => by cases hk⟩
    clear hb1 hd
    go_wp2
    go_loopw [5, 6, 7] (fun vb ve x wr => ∃ (i : Nat), i ≤ n ∧ x = .int .i64 i ∧ (∀ l ∈ ls.take i, l.length ≤ 1000) ∧ CutIn w wr vb ve ls i) (fun _ _ x _ => n - (intOf x).toNat)
    case atStart => exact ⟨0, by omega, rfl, fun l h => by simp at h, hstart⟩
    case round =>
      obtain ⟨i, hin, rfl, hsm, hC⟩ := hrel
      clear hstart
      by_cases hlt : i < n
      · have hli : i < ls.length := by rw [hl.1]; exact hlt
        obtain ⟨b, off, a', m, c', rfl, hc0, hr0, hm0⟩ := hl.2 i hli
        have hBr : Below w.heap.size w wr := hC.1
        have hcr : wr.cell? ⟨b, off + i, none⟩ = some (.slice a' m c') := (hBr.cell (block_lt hc0)).trans hc0
        have hrr := (hr0.below hBr (Nat.le_refl _)).more hBr.size
        unfold maxLen at hm0
        clear hc0 hr0
        by_cases hm : m ≤ 1000
        · have hd : decide ((1000 : Int) < (m : Int)) = false := by simp; omega
          obtain ⟨s1, s2⟩ := endN_succ ls i hli
          have hml := hrr.len
          have hsm' : ∀ l ∈ ls.take (i + 1), l.length ≤ 1000 := by
            intro l h
            rw [List.take_succ_eq_append_getElem hli] at h
            rcases List.mem_append.1 h with h | h
            · exact hsm l h
            · simp at h; subst h; omega
          have hcl : endN ls i ≤ 1200160 := endN_le ls i (by omega) (fun l h => by have := hsm l h; omega)
          rw [hml] at s1
          have S1 := Lib.hid s1; have S2 := Lib.hid s2; have SM := Lib.hid hsm'
          obtain ⟨hB, hob, hoe, hdis⟩ := hC
          have hC' : CutIn w wr u5 u6 ls i := ⟨hB, hob, hoe, hdis⟩
          have HC := Lib.hid hC'
          clear hC' s1 s2 hsm' hsm hml
          generalize ls[i] = l at *
          have hsz := hB.size
          go_upto_region 13 with (go_at_call 10; ((with_reducible refine (wrap_yes a' m c' l _ hrr (by omega)).mono ?_); rintro e w1 ⟨a1, n1, c1, rfl, ho1, hb1⟩; obtain rfl : n1 = 8 + m := (by rw [← own_len ho1, frameB_len, hrr.len])))
          have hob1 := own_below hob hb1
          have hsz1 := Nat.le_trans hsz hb1.size
          go_upto_region 14 with (at_builtin; (refine wpList_append_row _ rfl _ _ 22 rfl w.heap.size 5 i0 (.int .u8 0) 1 Try.underlying22 hi hz0 hz1 hz2 rfl u5 (endN ls i) _ rfl hob1 a1 (8 + m) c1 (bcells (frameB l)) rfl (CellsAt.of_own ho1) (bcells_one _) (by unfold maxLen; omega) (by omega) hsz1 ?_; intro v2 w2 ho2 hg2 hat2))
          rw [← bcells_app, ← S2.out, ← S1.out] at ho2
          have hsz2 : w.heap.size ≤ w2.heap.size := Nat.le_trans hsz1 hg2.size
          have hd2 : ∀ k, u6.ownBlock = some k → u5.ownBlock ≠ some k := fun k hk e => hdis k e hk
          have hoe2 := own_grown (own_below hoe hb1) hg2 hd2
          obtain ⟨a2, c2, rfl, hnc2, hcm2, _⟩ := own_form ho2
          have hel : endN ls (i + 1) ≤ 2000000 := by rw [S1.out]; omega
          have i20 : i ≤ 20 := by omega
          go_wp2_with (at_builtin; (refine wpList_append_row _ rfl _ _ 38 rfl w.heap.size 3 i1 (.int .i64 0) 8 Try.underlying38 ji jz0 jz1 jz2 rfl u6 i (endsV ls i) rfl (hoe2.alloc _) (some ⟨w2.heap.size, 0, none⟩) 1 1 [.int .i64 ((endN ls (i + 1) : Nat) : Int)] rfl (CellsAt.one _ _ _) (by intro x hx; simp at hx; subst hx; rfl) (by unfold maxLen; omega) (by omega) (by simp; omega) ?_; intro v3 w3 ho3 hg3 hat3; rw [← endsV_succ] at ho3; have R3 := HC.out.step hb1 ho2 hg2 hat2 ho3 hg3 (by simpa using hat3); clear ho3 hg3 hat3))
          go_roundw
          case rel => exact ⟨i + 1, by omega, by go_num, SM.out, R3⟩
          case measure => simp [intOf]; omega
        · have hd : decide ((1000 : Int) < (m : Int)) = true := by simp; omega
          clear hC hsm
          go_wp2
          go_ret
          exact ⟨rfl, hBr⟩
      · obtain rfl : i = n := by omega
        have hBr : Below w.heap.size w wr := hC.1
        obtain ⟨_, hob, hoe, _⟩ := hC
        have hte : ls.take i = ls := List.take_of_length_le (by rw [hl.1]; exact Nat.le_refl _)
        rw [hte] at hsm hob
        have hcl : endN ls i ≤ 1200160 := endN_le ls i h20 (fun l h => by rw [hte] at h; have := hsm l h; omega)
        have hls : i ≤ ls.length := Nat.le_of_eq hl.1.symm
        have hlw := hl.below hBr
        obtain ⟨a5, c5, rfl, hnc5, hcm5, _⟩ := own_form hob
        obtain ⟨a6, c6, rfl, hnc6, hcm6, _⟩ := own_form hoe
        have hb5 := BAt.of_own hob
        have hsz := hBr.size
        have hrm : t % (endN ls i + 1) ≤ endN ls i := Nat.le_of_lt_succ (Nat.mod_lt _ (by omega))
        have er : (t : Int) % ((endN ls i : Int) + 1) = ((t % (endN ls i + 1) : Nat) : Int) := by rw [Int.natCast_emod]; rfl
        have hA : ∀ j, j ≤ i → endN ls j ≤ t % (endN ls i + 1) → (j = i ∨ t % (endN ls i + 1) < endN ls (j + 1)) → Calls Try.prog 17 #[.slice a5 (t % (endN ls i + 1)) c5] wr fun e w' => ∃ a' k c', e = .returned (.tuple #[.slice a' k c', .int .i64 ((endN ls j : Nat) : Int)]) ∧ RowsAt w' a' k (ls.take j) ∧ k ≤ maxLen ∧ Below wr.heap.size wr w' := by
          intro j hj h1 h2
          refine all_cut a5 _ c5 j ls wr (hb5.take hrm) (by omega) hcm5 (by omega) (fun l h => by have := hsm l h; omega) (by omega) h1 ?_
          rcases h2 with h2 | h2
          · left; rw [h2, hl.1]
          · exact .inr h2
        have hS : ∀ j, j ≤ i → ∀ (w' : World) (a' : Option Addr) (k c' : Nat), RowsAt w' a' k (ls.take j) → k ≤ maxLen → Below wr.heap.size wr w' → Calls Try.prog 19 #[.slice a' k c', .slice a j c] w' (Reads1 w' (.bool true)) :=
          fun j hj w' a' k c' h1 h2 h3 => rows_same a' a k j c' c (ls.take j) w' h1 ((hlw.below h3).take hj) h2
        have hcell : ∀ j, j < i → ∃ b off, a6 = some ⟨b, off, none⟩ ∧ wr.cell? ⟨b, off + j, none⟩ = some (.int .i64 ((endN ls (j + 1) : Nat) : Int)) := by
          intro j hj
          rcases CellsAt.of_own hoe with ⟨_, h | ⟨b, off, ha, hc⟩⟩
          · omega
          · exact ⟨b, off, ha, hc j _ (endsV_get ls i j hj)⟩
        have hends : ∀ j, j ≤ i → endN ls j ≤ 1200160 := fun j hj => endN_le ls j (by omega) (fun l h => by have := hsm l (List.mem_of_mem_take h); omega)
        have HA := Lib.hid hA; have HS := Lib.hid hS; have HCE := Lib.hid hcell; have HEN := Lib.hid hends
        clear hA hS hcell hends hoe hob hb5 hlw hl hsm hte hls hnc6 hcm6
        unfold maxLen at hcm5
        generalize endN ls i = N at *
        generalize t % (N + 1) = r at *
        have hrc5 : (r : Int) ≤ (c5 : Int) := by omega
        have hN1 : ¬ (N : Int) + 1 = 0 := by omega
        have ER := Lib.hid er
        clear er
        go_upto_region 16 with (fail)
        rw [ER.out]
        clear ER hN1
        go_wp2
        go_loop [11, 12] (fun x y => ∃ (j : Nat), j ≤ i ∧ x = .int .i64 j ∧ y = .int .i64 ((endN ls j : Nat) : Int) ∧ endN ls j ≤ r) (fun x _ => i - (intOf x).toNat)
        case atStart => exact ⟨0, by omega, rfl, rfl, Nat.zero_le _⟩
        case round =>
          obtain ⟨j, hj, rfl, rfl, hjr⟩ := hrel
          have hjc : (j : Int) ≤ (c : Int) := by omega
          by_cases hji : j < i
          · obtain ⟨b, off, rfl, hc⟩ := HCE.out j hji
            have hE := HEN.out (j + 1) (by omega)
            by_cases hEr : endN ls (j + 1) ≤ r
            · generalize hEE : endN ls (j + 1) = E at *
              have HEE := Lib.hid hEE
              clear hEE
              go_wp2
              go_round
              case rel => exact ⟨j + 1, by omega, by go_num, by rw [HEE.out], by rw [HEE.out]; exact hEr⟩
              case measure => simp [intOf]; omega
            · have hAj := HA.out j hj hjr (.inr (by omega))
              have hq : decide (endN ls (j + 1) ≤ r) = false := by simp; omega
              generalize endN ls (j + 1) = E at *
              go_wp2_with (first | (go_at_call 17; ((with_reducible refine hAj.mono ?_); rintro e w2 ⟨a2, k2, c2, rfl, r2, hk2, hb2⟩; have hSj := HS.out j hj w2 a2 k2 c2 r2 hk2 hb2)) | (go_at_call 19; ((with_reducible refine hSj.mono ?_); rintro e w' ⟨rfl, q, rfl⟩)))
              go_ret
              exact ⟨rfl, below_drewN _ (hBr.trans (hb2.mono hsz))⟩
          · obtain rfl : j = i := by omega
            have hAj := HA.out j hj hjr (.inl rfl)
            go_wp2_with (first | (go_at_call 17; ((with_reducible refine hAj.mono ?_); rintro e w2 ⟨a2, k2, c2, rfl, r2, hk2, hb2⟩; have hSj := HS.out j hj w2 a2 k2 c2 r2 hk2 hb2)) | (go_at_call 19; ((with_reducible refine hSj.mono ?_); rintro e w' ⟨rfl, q, rfl⟩)))
            go_ret
            exact ⟨rfl, below_drewN _ (hBr.trans (hb2.mono hsz))⟩
  · have hd : decide ((20 : Int) < (n : Int)) = true := by simp; omega
    go_enter Try.func5, Try.ntmps5
    go_upto_region 2 with (go_at_call 9; ((with_reducible refine (awake_any _).mono ?_); rintro e w1 ⟨rfl, hb1⟩))
    go_wp2_with (go_at_call 9; ((with_reducible refine (awake_any _).mono ?_); rintro e w2 ⟨rfl, hb2⟩))
    go_ret
    exact ⟨rfl, hb1.trans (hb2.mono hb1.size)⟩
end Go.Proofs.Ytmkadjchcfmbjaa
