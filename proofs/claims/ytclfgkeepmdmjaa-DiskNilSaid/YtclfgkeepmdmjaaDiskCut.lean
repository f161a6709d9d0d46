/- Contracts of disk's behind and Cut. Conditions: the disk lies in memory. -/
import Derived.Test.YtclfgkeepmdmjaaDiskReplace

namespace Go.Proofs.Ytclfgkeepmdmjaa

open Go.RowKit

set_option linter.unusedVariables false
set_option linter.unusedSimpArgs false

section

variable {W : World} {g : Nat} {d : Dk} {v nx : Value} {left : Int} {own : List Nat}

def BehR (W : World) (l : List UInt8) (e : Ending) (w' : World) : Prop := ∃ a n c q, e = .returned (.slice a n c) ∧ BAt W W.heap.size a n l ∧ w' = W.drewN q

set_option maxHeartbeats 1000000 in
theorem behind_any (k : Int) (h : DkP W g d v nx left) (hM : BndD d 1099511627776) (hk1 : -9223372036854775808 ≤ k) (hk2 : k < 9223372036854775808) :
    Calls Try.prog 30 #[.pointer (some ⟨g, 0, none⟩), .int .i64 k] W (BehR W (behD d k)) := by
  obtain ⟨a0, n0, c0, rfl, hn, ho, hb, hnc, hcm⟩ := h.row.parts
  obtain ⟨y0, y1, y2, y3, y4, y5, y6, y7⟩ := h.box.eight
  obtain ⟨hM1, hM2⟩ := hM
  have hn1 : n0 = d.la.length + d.re.length := by rw [hn, List.length_append]
  cases ht : d.torn with
  | true =>
    rw [ht] at y6
    by_cases hk : 0 < k
    · have hd : decide (k > 0) = true := decide_eq_true hk
      have e : behD d k = d.half := by unfold behD; rw [if_pos ht, if_pos hk]
      rw [e]
      obtain ⟨a1, n1, c1, rfl, hn', ho', hb', hnc', hcm'⟩ := h.nxt.parts
      have HB := Lib.hid hb'
      clear h hn ho hb hn1 hn' ho' hb' e
      go_enter Try.func30, Try.ntmps30
      go_wp2
      go_ret
      exact ⟨_, _, _, 0, rfl, HB.out, rfl⟩
    · have hd : decide (k > 0) = false := decide_eq_false hk
      have e : behD d k = d.la := by unfold behD; rw [if_pos ht, if_neg hk]
      rw [e]
      obtain ⟨m, hm⟩ : ∃ m, m = d.la.length := ⟨_, rfl⟩
      rw [← hm] at y2
      have HB : Hid (BAt W W.heap.size a0 m d.la) := by
        have h1 := hb.take (k := m) (by omega)
        have h2 : (d.la ++ d.re).take m = d.la := by rw [hm]; simp
        rw [h2] at h1; exact h1
      have hmn : m ≤ n0 := by omega
      clear h hn ho hb hn1 e hm
      go_enter Try.func30, Try.ntmps30
      go_upto_region 6 with (fail)
      go_quiet (fail)
      go_wp2
      go_ret
      exact ⟨_, _, _, _, rfl, HB.out, rfl⟩
  | false =>
    rw [ht] at y6
    have e : behD d k = (d.la ++ d.re).take (d.la.length + min k.toNat d.re.length) := beh_take d k ht
    rw [e]
    obtain ⟨m, hm⟩ : ∃ m, m = d.la.length := ⟨_, rfl⟩
    obtain ⟨p, hp⟩ : ∃ p, p = min k.toNat d.re.length := ⟨_, rfl⟩
    rw [← hm] at y2
    rw [← hm, ← hp]
    have HB : Hid (BAt W W.heap.size a0 (m + p) ((d.la ++ d.re).take (m + p))) := hb.take (by omega)
    have hmn : m + p ≤ n0 := by omega
    have hpp : min (max k 0) ((n0 : Int) - (m : Int)) = (p : Int) := by omega
    have hq : (p : Int) = if ((n0 : Int) - (m : Int)) < (if k < 0 then 0 else k) then ((n0 : Int) - (m : Int)) else if k < 0 then 0 else k := by
      split <;> split <;> omega
    have hw : wrap64 ((n0 : Int) - (m : Int)) = (n0 : Int) - (m : Int) := by unfold wrap64; omega
    have hnM : n0 ≤ 1099511627776 := by omega
    clear h hn ho hb hn1 e hm hp hM1 hM2
    go_enter Try.func30, Try.ntmps30
    go_upto_region 2 with (fail)
    go_region
    (try rw [hw])
    rw [← hq]
    generalize (if k < 0 then (0 : Int) else k) = z
    clear hq hpp hw
    go_upto_region 3 with (fail)
    go_quiet (fail)
    go_wp2
    go_ret
    exact ⟨_, _, _, _, rfl, HB.out, (World.drewN_drewN W 1 nq)⟩
/-- What Cut answers and leaves. -/
def CutR (K : World → Nat → Dk → List Nat → Prop) (W : World) (g : Nat) (own : List Nat) (d : Dk) (k : Int) (e : Ending) (w' : World) : Prop :=
  ∃ g' own', e = .returned (.pointer (some ⟨g', 0, none⟩)) ∧ K w' g (downD d) own ∧ K w' g' (cutD d k) own' ∧ Fr W w' [g] ∧ ∀ i ∈ own', W.heap.size ≤ i
theorem DkP.made {V : World} {v : Value} {n : Nat} {l : List UInt8} {s : Int} (hv : OwnB V v l) (hn : n = l.length) (hs : 0 ≤ s ∧ s < 9223372036854775808) :
    DkP (V.alloc (.cells #[.int .i64 s, v, .int .i64 n, .bool false, .int .i64 0, .bool false, .bool false, .slice none 0 0] 53)) V.heap.size ⟨s, l, [], -1, false, false, []⟩ v (.slice none 0 0) 0 := by
  subst hn
  refine ⟨BoxC.new _ _ _, ?_, OwnB.nil _, fun e => absurd (show (0 : Int) ≤ -1 from e) (by decide), hs, Far.nil⟩
  show OwnB _ v (l ++ [])
  rw [List.append_nil]
  exact hv.below ((Below.refl _ _).alloc (Nat.le_refl _) _)

set_option maxHeartbeats 1000000 in
theorem cut_any (k : Int) (h : PD W g d own) (hM : BndD d 1099511627776) (hk1 : -9223372036854775808 ≤ k) (hk2 : k < 9223372036854775808) :
    Calls Try.prog 20 #[.pointer (some ⟨g, 0, none⟩), .int .i64 k] W (CutR PD W g own d k) := by
  obtain ⟨v, nx, left, hp, rfl⟩ := h
  have h1 := hp.setDown
  have H1 := Lib.hid h1
  have cB : Calls Try.prog 30 #[.pointer (some ⟨g, 0, none⟩), .int .i64 k] (W.setCell ⟨g, 5, none⟩ (.bool true)) (BehR (W.setCell ⟨g, 5, none⟩ (.bool true)) (behD d k)) := behind_any (d := downD d) k h1 hM hk1 hk2
  obtain ⟨y0, y1, y2, y3, y4, y5, y6, y7⟩ := hp.box.eight
  have z5 := hp.box.frozen 5
  have hsz := hp.sz
  have HS := Lib.hid hsz
  have HM : Hid ((behD d k).length ≤ 1099511627776) := beh_len hM k
  clear hp h1 hM hsz
  go_enter Try.func20, Try.ntmps20
  go_upto_region 5 with (first | (go_at_call 30; ((with_reducible refine cB.mono ?_); rintro e w1 ⟨a1, n1, c1, q, rfl, hb1, rfl⟩; have cC := bclone_any a1 n1 c1 _ _ (hb1.drewN q) (by have := hb1.len; have := HM.out; omega); clear hb1)) | (go_at_call 28; ((with_reducible refine cC.mono ?_); rintro e w2 ⟨a2, n2, c2, rfl, ho, hb2⟩; have N2 := Lib.hid (Fresh.made ho); have B2 := Lib.hid (show Below (W.setCell ⟨g, 5, none⟩ (.bool true)).heap.size (W.setCell ⟨g, 5, none⟩ (.bool true)) w2 from below_on q (Below.refl _ _) hb2); have L2 := Lib.hid (own_len ho); have hx := (H1.out.below B2.out).box; obtain ⟨x0, x1, x2, x3, x4, x5, x6, x7⟩ := hx.eight; clear ho hb2 hx)))
  have HR : Hid (CutR PD W g (g :: (bk v ++ bk nx)) d k (.returned (.pointer (some ⟨w2.heap.size, 0, none⟩))) (w2.alloc (.cells #[.int .i64 d.size, .slice a2 n2 c2, .int .i64 n2, .bool false, .int .i64 0, .bool false, .bool false, .slice none 0 0] 53))) := by
    have bA : Below w2.heap.size w2 (w2.alloc (.cells #[.int .i64 d.size, .slice a2 n2 c2, .int .i64 n2, .bool false, .int .i64 0, .bool false, .bool false, .slice none 0 0] 53)) := (Below.refl _ _).alloc (Nat.le_refl _) _
    have hsz : W.heap.size ≤ w2.heap.size := by have := B2.out.size; simpa [World.setCell] using this
    refine ⟨w2.heap.size, w2.heap.size :: (bk (.slice a2 n2 c2) ++ bk (.slice none 0 0)), rfl, ⟨v, nx, left, (H1.out.below B2.out).below bA, rfl⟩, ⟨_, _, 0, DkP.made N2.out.own L2.out.symm HS.out, rfl⟩, ?_, fun i hi => ?_⟩
    · exact ((Fr.set W g 5 (.bool true)).trans (Fr.of_below B2.out (own := [])) (fun i hi => by cases hi)).trans (Fr.of_below bA (own := [])) (fun i hi => by cases hi)
    · rcases List.mem_cons.1 hi with rfl | hi
      · exact hsz
      · rcases List.mem_append.1 hi with hi | hi
        · have := N2.out.new i (bk_mem.1 hi)
          simpa [World.setCell] using this
        · rw [bk_nil] at hi; cases hi
  clear cB cC
  go_wp2
  go_ret
  exact HR.out
theorem cut_nil (k : Int) (W : World) : Calls Try.prog 20 #[.pointer none, .int .i64 k] W fun e w' => e = .returned (.pointer none) ∧ W = w' := by
  go_enter Try.func20, Try.ntmps20
  go_wp2
  go_ret
  exact ⟨rfl, rfl⟩
theorem append_nil' {a : Option Addr} {n c : Nat} (W : World) : Calls Try.prog 18 #[.pointer none, .slice a n c] W fun e w' => e = .returned (.int .i64 8) ∧ W = w' := by
  have cD := down_nil W
  go_enter Try.func18, Try.ntmps18
  go_wp2_with (go_at_call 13; ((with_reducible refine cD.mono ?_); rintro e w1 ⟨rfl, rfl⟩))
  go_ret
  exact ⟨rfl, rfl⟩
theorem sync_nil (W : World) : Calls Try.prog 19 #[.pointer none] W fun e w' => e = .returned (.int .i64 8) ∧ W = w' := by
  have cD := down_nil W
  go_enter Try.func19, Try.ntmps19
  go_wp2_with (go_at_call 13; ((with_reducible refine cD.mono ?_); rintro e w1 ⟨rfl, rfl⟩))
  go_ret
  exact ⟨rfl, rfl⟩
theorem replace_nil {a : Option Addr} {n c : Nat} (W : World) : Calls Try.prog 23 #[.pointer none, .slice a n c] W fun e w' => e = .returned (.int .i64 8) ∧ W = w' := by
  have cD := down_nil W
  go_enter Try.func23, Try.ntmps23
  go_wp2_with (go_at_call 13; ((with_reducible refine cD.mono ?_); rintro e w1 ⟨rfl, rfl⟩))
  go_ret
  exact ⟨rfl, rfl⟩
end

end Go.Proofs.Ytclfgkeepmdmjaa
