/- The walk of the statement FrameTurned. Conditions: what came in lies in memory and fits its kinds. -/
import Derived.Test.YtmkadjchcfmbjaaFrameUnwrap
import Derived.Test.YtmkadjchcfmbjaaFrameTurn
namespace Go.Proofs.Ytmkadjchcfmbjaa
open Go.RowKit

/-- The four bytes as a function. -/
def four (y0 y1 y2 y3 : UInt8) (j : Nat) : UInt8 := [y0, y1, y2, y3].getD j 0
theorem four_later {w w1 : World} {y0 y1 y2 y3 : UInt8} {t : TypeId}
    (hb : Below (w.alloc (.cells #[.int .u8 (y0.toNat : Int), .int .u8 (y1.toNat : Int), .int .u8 (y2.toNat : Int), .int .u8 (y3.toNat : Int)] t)).heap.size (w.alloc (.cells #[.int .u8 (y0.toNat : Int), .int .u8 (y1.toNat : Int), .int .u8 (y2.toNat : Int), .int .u8 (y3.toNat : Int)] t)) w1) :
    (∀ j, j < 4 → w1.cell? ⟨w.heap.size, j, none⟩ = some (.int .u8 ((four y0 y1 y2 y3 j).toNat : Int))) ∧ Below w.heap.size w w1 ∧ w.heap.size + 1 ≤ w1.heap.size := by
  have hr := heap_alloc_new w (.cells #[.int .u8 (y0.toNat : Int), .int .u8 (y1.toNat : Int), .int .u8 (y2.toNat : Int), .int .u8 (y3.toNat : Int)] t)
  refine ⟨fun j hj => ?_, ((Below.refl _ _).alloc (Nat.le_refl _) _).trans (hb.mono (by simp)), by have := hb.size; simpa using this⟩
  rw [hb.cell (by simp), cell_of_row _ _ _ _ _ _ hr]
  match j, hj with
  | 0, _ => rfl
  | 1, _ => rfl
  | 2, _ => rfl
  | 3, _ => rfl

/-- A cell of a row of the call's own is stored. -/
theorem own_set {w : World} {B e g n cap i : Nat} {xs : List Value} (h : w.ownsRow B e 1 (.slice (some ⟨g, 0, none⟩) n cap) n xs) (hi : i < n) (u : Value) :
    (w.setCell ⟨g, i, none⟩ u).ownsRow B e 1 (.slice (some ⟨g, 0, none⟩) n cap) n (xs.set i u) := by
  refine ⟨by rw [List.length_set]; exact h.1, ?_⟩
  rcases h.2 with ⟨h1, _⟩ | ⟨g', cap', cur, hv, hb, hh, hnc, hcm, hsz, htk⟩
  · cases h1
  · injection hv with hv1 _ hv3
    injection hv1 with hv1
    injection hv1 with hv1
    subst hv1; subst hv3
    refine .inr ⟨g, cap, cur.setIfInBounds i u, rfl, hb, set_row hh _ _, hnc, hcm, by simpa using hsz, ?_⟩
    rw [Array.toList_setIfInBounds, List.take_set, htk]
theorem bcells_set (l : List UInt8) (i : Nat) (b : UInt8) : (bcells l).set i (.int .u8 (b.toNat : Int)) = bcells (l.set i b) := by simp [bcells, List.map_set]
theorem own_addr {w : World} {B e n c : Nat} {a : Option Addr} {xs : List Value} (h : w.ownsRow B e 1 (.slice a n c) n xs) (hn : 0 < n) : ∃ g, a = some ⟨g, 0, none⟩ ∧ B ≤ g ∧ g < w.heap.size ∧ w.heap[g]?.isSome ∧ (∀ i, w.frozen? ⟨g, i, none⟩ = false) := by
  rcases h.2 with ⟨_, h0⟩ | ⟨g, cap, cur, hv, hb, hh, _⟩
  · omega
  · injection hv with hv1
    refine ⟨g, hv1, hb, lt_of_heap hh, by rw [hh]; rfl, fun i => ?_⟩
    simp [World.frozen?, hh]
theorem own_cell {w : World} {B g n c : Nat} {l : List UInt8} (h : w.ownsRow B 5 1 (.slice (some ⟨g, 0, none⟩) n c) n (bcells l)) {i : Nat} (hi : i < l.length) : w.cell? ⟨g, i, none⟩ = some (.int .u8 (l[i].toNat : Int)) := by
  obtain ⟨b, off, e1, _, hc⟩ := (BAt.of_own h).at_ hi
  injection e1 with e1
  injection e1 with e1 e2
  subst e1; subst e2
  rw [Nat.zero_add] at hc; exact hc

theorem own_caps {w : World} {B e n m c : Nat} {a : Option Addr} {xs : List Value} (h : w.ownsRow B e 1 (.slice a n c) m xs) : n ≤ c ∧ c ≤ maxLen := by
  obtain ⟨_, _, e1, hnc, hcm, _⟩ := own_form h
  injection e1 with _ e2 e3
  subst e2; subst e3
  exact ⟨hnc, hcm⟩
/-- What the loop holds. -/
def TurnIn (w wr : World) (B g n c : Nat) (Y : Nat → UInt8) (L : List UInt8) : Prop :=
  wr.ownsRow B 5 1 (.slice (some ⟨g, 0, none⟩) n c) n (bcells L) ∧ Below w.heap.size w wr ∧ ∀ j, j < 4 → wr.cell? ⟨w.heap.size, j, none⟩ = some (.int .u8 ((Y j).toNat : Int))
theorem TurnIn.step {w wr : World} {B g n c i q : Nat} {Y : Nat → UInt8} {L : List UInt8} (h : TurnIn w wr B g n c Y L) (hB : w.heap.size + 1 ≤ B) (hg : B ≤ g) (hi : i < n) (b : UInt8) :
    TurnIn w ((wr.drewN q).setCell ⟨g, i, none⟩ (.int .u8 (b.toNat : Int))) B g n c Y (L.set i b) := by
  obtain ⟨h1, h2, h3⟩ := h
  have h1' : (wr.drewN q).ownsRow B 5 1 (.slice (some ⟨g, 0, none⟩) n c) n (bcells L) := h1
  refine ⟨by rw [← bcells_set]; exact own_set h1' hi _, (below_drewN q h2).setCell (by show w.heap.size ≤ g; omega) _, fun j hj => ?_⟩
  rw [← h3 j hj]
  exact World.cell?_of_block (Below.heap_setCell _ _ _ _ (by show w.heap.size ≠ g; omega))

theorem xor8 (x y : UInt8) : bits .xor .u8 (x.toNat : Int) (y.toNat : Int) = ((x ^^^ y).toNat : Int) := by
  rw [u8_xor_nat _ _ x.toNat_lt y.toNat_lt, UInt8.toNat_xor]

set_option maxHeartbeats 1000000 in
theorem turned_walk (a : Option Addr) (m c t : Nat) (y0 y1 y2 y3 : UInt8) (l : List UInt8) (w : World) (hl : BAt w w.heap.size a m l) (hm : m ≤ maxLen) (ht : t < 65536) :
    Calls Try.prog 6 #[.slice a m c, .int .u16 t, .agg #[.int .u8 (y0.toNat : Int), .int .u8 (y1.toNat : Int), .int .u8 (y2.toNat : Int), .int .u8 (y3.toNat : Int)]] w fun e w' => e = .returned (.bool true) ∧ Below w.heap.size w w' := by
  unfold maxLen at hm
  by_cases h0 : m = 0
  · subst h0
    go_enter Try.func6, Try.ntmps6
    go_upto_region 2 with (go_at_call 9; ((with_reducible refine (awake_any _).mono ?_); rintro e w1 ⟨rfl, hb1⟩; obtain ⟨_, hB1, _⟩ := four_later hb1; clear hb1))
    go_wp2_with (go_at_call 9; ((with_reducible refine (awake_any _).mono ?_); rintro e w2 ⟨rfl, hb2⟩))
    go_ret
    exact ⟨rfl, hB1.trans (hb2.mono hB1.size)⟩
  · have e0 : ((m : Int) == 0) = false := by simp; omega
    by_cases h1 : m ≤ 1000
    · have hd : decide ((1000 : Int) < (m : Int)) = false := by simp; omega
      have hmp : 0 < m := by omega
      clear h0
      go_enter Try.func6, Try.ntmps6
      go_upto_region 6 with (first | (go_at_call 9; ((with_reducible refine (awake_any _).mono ?_); rintro e w1 ⟨rfl, hb1⟩; obtain ⟨hY1, hB1, hz1⟩ := four_later hb1; clear hb1; have hl1 : BAt w1 w.heap.size a m l := hl.below hB1 (Nat.le_refl _))) | (go_at_call 10; ((with_reducible refine (wrap_yes a m c l _ (hl1.more hB1.size) (by omega)).mono ?_); rintro e w2 ⟨a2, n2, c2, rfl, ho2, hb2⟩; have hB2 : Below w.heap.size w w2 := hB1.trans (hb2.mono hB1.size); obtain rfl : n2 = 8 + m := (by rw [← own_len ho2, frameB_len, hl.len]))))
      obtain ⟨g, rfl, hgB, hgl, _, hfz⟩ := own_addr ho2 (by omega)
      have hT0 : TurnIn w w2 w1.heap.size g (8 + m) c2 (four y0 y1 y2 y3) (turnL (frameB l) (8 + t % m) (four y0 y1 y2 y3) 0) := by
        rw [turnL_start]
        exact ⟨ho2, hB2, fun j hj => (hb2.cell (p := ⟨w.heap.size, j, none⟩) hz1).trans (hY1 j hj)⟩
      have hrm : t % m < m := Nat.mod_lt _ hmp
      have er : (t : Int) % (m : Int) = ((t % m : Nat) : Int) := by rw [Int.natCast_emod]
      generalize four y0 y1 y2 y3 = Y at *
      generalize t % m = r at *
      have hlen := Lib.hid hl.len
      have hne : ¬ (m : Int) = 0 := by omega
      clear hY1 hl1 hl e0 hfz ho2 hd
      go_upto_region 8 with (fail)
      clear er
      go_wp2
      go_loopw [9, 11] (fun x i wr => ∃ (j : Nat), j ≤ 4 ∧ r + j ≤ m ∧ i = .int .i64 j ∧ x = .bool (trn Y j) ∧ TurnIn w wr w1.heap.size g (8 + m) c2 Y (turnL (frameB l) (8 + r) Y j)) (fun _ i _ => 4 - (intOf i).toNat)
      case atStart => exact ⟨0, by omega, by omega, rfl, rfl, hT0⟩
      case round =>
        obtain ⟨j, hj, hrj, rfl, rfl, hT⟩ := hrel
        by_cases hlt : j < 4 ∧ r + j < m
        · obtain ⟨hj4, hrm'⟩ := hlt
          have hF : (8 + r) + j < (frameB l).length := by rw [frameB_len, hlen.out]; omega
          have hst := fun q => @TurnIn.step w wr w1.heap.size g (8 + m) c2 (8 + r + j) q Y _ hT hz1 hgB (by omega) ((frameB l)[8 + r + j] ^^^ Y j)
          rw [turnL_step _ _ _ _ hF] at hst
          obtain ⟨h1, h2, h3⟩ := hT
          have hcb : wr.cell? ⟨g, 8 + r + j, none⟩ = some (.int .u8 ((frameB l)[8 + r + j].toNat : Int)) := by
            have := own_cell h1 (i := 8 + r + j) (by rw [turnL_len]; exact hF)
            rw [turnL_at _ _ _ _ hF] at this; exact this
          have hcy := h3 j hj4
          have hfz : wr.frozen? ⟨g, 8 + r + j, none⟩ = false := by
            obtain ⟨g', e, _, _, _, hf⟩ := own_addr h1 (by omega)
            injection e with e; injection e with e; subst e
            exact hf _
          have hx := xor8 (frameB l)[8 + r + j] (Y j)
          have hyz : trn Y (j + 1) = (trn Y j || decide (Y j ≠ 0)) := rfl
          have hY0 : (Y j = 0 ∧ (Y j).toNat = 0) ∨ (Y j ≠ 0 ∧ (Y j).toNat ≠ 0) := by
            by_cases e : Y j = 0
            · exact .inl ⟨e, by rw [e]; rfl⟩
            · refine .inr ⟨e, fun h => e (UInt8.toNat_inj.1 (by rw [h]; rfl))⟩
          have hb8 := (frameB l)[8 + r + j].toNat_lt
          have hy8 := (Y j).toNat_lt
          generalize (frameB l)[8 + r + j] ^^^ Y j = u at *
          generalize (frameB l)[8 + r + j].toNat = v at *
          have hst' := Lib.hid (hst 1)
          clear h1 h2 h3 hst
          have hne1 : ¬ g = w.heap.size := by omega
          have hne2 : ¬ w.heap.size = g := by omega
          have g1 : IntKind.i64.wrap (8 + (r : Int) + (j : Int)) = 8 + (r : Int) + (j : Int) := by rw [IntKind.wrap_i64]; omega
          have g2 : (8 + (r : Int) + (j : Int)).toNat = 8 + r + j := by omega
          have g3 : 0 ≤ 8 + (r : Int) + (j : Int) := by omega
          have g4 : 8 + (r : Int) + (j : Int) < 8 + (m : Int) := by omega
          have g5 : (j : Int) < 4 := by omega
          go_upto_region 11 with (fail)
          go_region
          have hT3 : TurnIn w (wr.setCell ⟨g, 8 + r + j, none⟩ (.int .u8 (u.toNat : Int))).drew w1.heap.size g (8 + m) c2 Y (turnL (frameB l) (8 + r) Y (j + 1)) := hst'.out
          clear hst' hcb hcy hfz hx
          generalize (wr.setCell ⟨g, 8 + r + j, none⟩ (.int .u8 (u.toNat : Int))).drew = w3 at hT3 ⊢
          have hcy := hT3.2.2 j hj4
          rcases hY0 with ⟨hz, hz'⟩ | ⟨hz, hz'⟩
          · have hyz' : trn Y (j + 1) = trn Y j := by rw [hyz]; simp [hz]
            rw [hz'] at hcy
            have HZ := Lib.hid hyz'
            clear hyz hyz' hz hz' hy8
            cases htr : trn Y j
            all_goals
              have HTR := Lib.hid htr
              clear htr
              go_wp2
              go_roundw
              case rel => exact ⟨j + 1, by omega, by omega, by go_num, by rw [HZ.out, HTR.out], hT3⟩
              case measure => simp [intOf]; omega
          · have hyz' : trn Y (j + 1) = true := by rw [hyz]; simp [hz]
            have q1 : (((Y j).toNat : Int) == 0) = false := by simp; omega
            have q2 : (((Y j).toNat : Int) != 0) = true := by simp; omega
            have HZ := Lib.hid hyz'
            clear hyz hyz' hz hz'
            generalize (Y j).toNat = y at *
            cases htr : trn Y j
            all_goals
              have HTR := Lib.hid htr
              clear htr
              go_wp2
              go_roundw
              case rel => exact ⟨j + 1, by omega, by omega, by go_num, by rw [HZ.out], hT3⟩
              case measure => simp [intOf]; omega
        · have hend : uwErr (turnL (frameB l) (8 + r) Y j) = if trn Y j then 5 else 0 := turn_err l r Y j (by rw [hlen.out]; omega) (by rw [hlen.out]; omega) hj
          obtain ⟨h1, h2, h3⟩ := hT
          obtain ⟨hnc, hcm⟩ := own_caps h1
          have hbat := BAt.of_own h1
          have hUw : ∀ b, trn Y j = b → Calls Try.prog 15 #[.slice (some ⟨g, 0, none⟩) (8 + m) c2] wr fun e w' => (∃ a n c k, e = .returned (.tuple #[.slice a n c, .int .i64 k, .int .i64 (if b then 5 else 0)]) ∧ (b = true → k = 0)) ∧ Below wr.heap.size wr w' := by
            intro b hb
            rw [hb] at hend
            cases b
            · exact (unwrap_ok _ _ _ _ _ hbat hnc hcm hend).mono fun e w' ⟨a, n, c, h, _, hb⟩ => ⟨⟨a, n, c, _, h, fun h => by cases h⟩, hb⟩
            · have := unwrap_no _ _ _ _ _ hbat hnc hcm (by rw [hend]; simp)
              rw [hend] at this
              exact this.mono fun e w' ⟨h, hb⟩ => ⟨⟨none, 0, 0, 0, h, fun _ => rfl⟩, hb⟩
          clear h1 h3 hbat hnc hcm hend
          by_cases hj4 : j < 4
          · have q1 : 8 + (r : Int) + (j : Int) ≥ 8 + (m : Int) := by omega
            have q2 : decide (8 + (r : Int) + (j : Int) < 8 + (m : Int)) = false := by simp; omega
            cases htr : trn Y j
            · have hU := hUw _ htr
              clear hUw htr
              go_wp2_with (go_at_call 15; ((with_reducible refine hU.mono ?_); rintro e w3 ⟨⟨a3, n3, c3, k3, rfl, hk⟩, hb3⟩))
              go_ret
              exact ⟨rfl, h2.trans (hb3.mono h2.size)⟩
            · have hU := hUw _ htr
              clear hUw htr
              go_wp2_with (go_at_call 15; ((with_reducible refine hU.mono ?_); rintro e w3 ⟨⟨a3, n3, c3, k3, rfl, hk⟩, hb3⟩; obtain rfl := hk rfl))
              go_ret
              exact ⟨rfl, h2.trans (hb3.mono h2.size)⟩
          · have q2 : decide ((j : Int) < 4) = false := by simp; omega
            cases htr : trn Y j
            · have hU := hUw _ htr
              clear hUw htr
              go_wp2_with (go_at_call 15; ((with_reducible refine hU.mono ?_); rintro e w3 ⟨⟨a3, n3, c3, k3, rfl, hk⟩, hb3⟩))
              go_ret
              exact ⟨rfl, h2.trans (hb3.mono h2.size)⟩
            · have hU := hUw _ htr
              clear hUw htr
              go_wp2_with (go_at_call 15; ((with_reducible refine hU.mono ?_); rintro e w3 ⟨⟨a3, n3, c3, k3, rfl, hk⟩, hb3⟩; obtain rfl := hk rfl))
              go_ret
              exact ⟨rfl, h2.trans (hb3.mono h2.size)⟩
    · have hd : decide ((1000 : Int) < (m : Int)) = true := by simp; omega
      go_enter Try.func6, Try.ntmps6
      go_upto_region 2 with (go_at_call 9; ((with_reducible refine (awake_any _).mono ?_); rintro e w1 ⟨rfl, hb1⟩; obtain ⟨_, hB1, _⟩ := four_later hb1; clear hb1))
      go_wp2_with (go_at_call 9; ((with_reducible refine (awake_any _).mono ?_); rintro e w2 ⟨rfl, hb2⟩))
      go_ret
      exact ⟨rfl, hB1.trans (hb2.mono hB1.size)⟩
end Go.Proofs.Ytmkadjchcfmbjaa
