/- What the document's own Least and Most of layer num do at every list of numbers, and that Least and Most of the program find the same: walks over their text. Conditions: each number's bits are below 2^64. -/
import Derived.Test.YtbdccfggnbopgaaBest
namespace Go.Proofs.Ytbdccfggnbopgaa
open Go.RowKit

theorem quiet_left {P : Program} {f : FuncId} {args : Array Value} {w : World} {n : Nat} {v : Value}
    (h : Calls P f args (w.drewN n) fun e w' => e = .returned v ∧ w.drewN n = w') : Calls P f args (w.drewN n) fun e w'' => e = .returned v ∧ ∃ m, w'' = w.drewN m :=
  h.mono fun _ _ ⟨he, hm⟩ => ⟨he, n, hm.symm⟩

theorem Drawn.holds {w w' : World} (h : Drawn w w') {b off len : Nat} {f : Nat → Nat} (k : Holds w b off len f) : Holds w' b off len f := by
  obtain ⟨n, rfl⟩ := h
  exact k
theorem Drawn.more {w w' : World} (h : Drawn w w') (n : Nat) : Drawn w (w'.drewN n) := by
  obtain ⟨m, rfl⟩ := h
  exact ⟨m + n, by rw [World.drewN_drewN]⟩

def allLe (f : Nat → Nat) (i : Nat) : Nat → Bool
  | 0 => true
  | m + 1 => allLe f i m && decide (orderF (f i) (f m) ≤ 0)
def allGe (f : Nat → Nat) (i : Nat) : Nat → Bool
  | 0 => true
  | m + 1 => allGe f i m && decide (0 ≤ orderF (f i) (f m))

set_option maxHeartbeats 2000000 in
theorem refLeast_walk (b off len cap : Nat) (f : Nat → Nat) (w : World) (hl : 0 < len) (hlc : len ≤ cap) (hcap : cap ≤ maxLen) (hrow : Holds w b off len f)
    (v : Nat) (hv : ∀ i, i < len → allLe f i len = true → canonF (f i) = v) (hex : ¬ ∀ i, i < len → allLe f i len = false) :
    Calls Try.prog 19 #[.slice (some ⟨b, off, none⟩) len cap] w fun e w' => e = .returned (.tuple #[.int .u64 (v : Int), .bool true]) ∧ Drawn w w' := by
  unfold maxLen at hcap
  have HV := Lib.hid hv
  have HE := Lib.hid hex
  clear hv hex
  go_enter Try.func19, Try.ntmps19
  go_wp2
  go_loopw [4] (fun c wr => ∃ i : Nat, i ≤ len ∧ c = .int .i64 i ∧ Hid (∀ j, j < i → allLe f j len = false) ∧ Drawn w wr) (fun c _ => len - (intOf c).toNat)
  case atStart => exact ⟨0, by omega, rfl, (fun j hj => by omega), Drawn.refl w⟩
  case round =>
    obtain ⟨i, hi, rfl, hno, hd⟩ := hrel
    by_cases hlt : i < len
    · go_wp2
      go_loopw [5, 6] (fun p c wq => ∃ m : Nat, m ≤ len ∧ c = .int .i64 m ∧ p = .bool (allLe f i m) ∧ Drawn w wq) (fun _ c _ => len - (intOf c).toNat)
      case atStart => exact ⟨0, by omega, rfl, rfl, hd⟩
      case round =>
        obtain ⟨m, hm, rfl, rfl, hd2⟩ := hrel
        have hrow2 := hd2.holds hrow
        have hci := (hrow2 i hlt).1
        have hfi := (hrow2 i hlt).2
        by_cases hml : m < len
        · have hcm := (hrow2 m hml).1
          have hfm := (hrow2 m hml).2
          have h1 : (i : Int) < (len : Int) := by omega
          have h2 : (m : Int) < (len : Int) := by omega
          cases hb : allLe f i m
          · have hb' : Hid (allLe f i (m + 1) = false) := by unfold Hid allLe; rw [hb]; rfl
            go_wp2
            go_quiet (fail)
            go_wp2
            go_roundw
            case rel => exact ⟨m + 1, by omega, by go_num, by rw [hb'.out], hd2.more _⟩
            case measure => simp [intOf]; omega
          · have hb' : Hid (allLe f i (m + 1) = decide (orderF (f i) (f m) ≤ 0)) := by unfold Hid allLe; rw [hb]; rfl
            go_wp2
            go_quiet ((go_at_call 17; exact quiet_left (orderRef_any _ _ hfi hfm _)))
            go_wp2
            go_roundw
            case rel => exact ⟨m + 1, by omega, by go_num, by rw [hb'.out], hd2.more _⟩
            case measure => simp [intOf]; omega
        · have hml' : m = len := by omega
          obtain rfl := hml'
          cases hb : allLe f i m
          · go_wp2
            go_roundw
            case rel => exact ⟨i + 1, by omega, by go_num, (fun j hj => by
              by_cases c : j = i
              · rw [c]; exact hb
              · exact hno.out j (by omega)), hd2⟩
            case measure => simp [intOf]; omega
          · have hvi : Hid (canonF (f i) = v) := HV.out i hlt hb
            go_wp2_with (go_at_call 12; ((with_reducible refine (canonRef_any _ hfi _).mono ?_); rintro e w' ⟨rfl, rfl⟩))
            go_ret2
            exact ⟨ret_num hvi.out, hd2⟩
    · exact absurd (fun j hj => hno.out j (by omega)) HE.out

set_option maxHeartbeats 2000000 in
theorem refMost_walk (b off len cap : Nat) (f : Nat → Nat) (w : World) (hl : 0 < len) (hlc : len ≤ cap) (hcap : cap ≤ maxLen) (hrow : Holds w b off len f)
    (v : Nat) (hv : ∀ i, i < len → allGe f i len = true → canonF (f i) = v) (hex : ¬ ∀ i, i < len → allGe f i len = false) :
    Calls Try.prog 21 #[.slice (some ⟨b, off, none⟩) len cap] w fun e w' => e = .returned (.tuple #[.int .u64 (v : Int), .bool true]) ∧ Drawn w w' := by
  unfold maxLen at hcap
  have HV := Lib.hid hv
  have HE := Lib.hid hex
  clear hv hex
  go_enter Try.func21, Try.ntmps21
  go_wp2
  go_loopw [4] (fun c wr => ∃ i : Nat, i ≤ len ∧ c = .int .i64 i ∧ Hid (∀ j, j < i → allGe f j len = false) ∧ Drawn w wr) (fun c _ => len - (intOf c).toNat)
  case atStart => exact ⟨0, by omega, rfl, (fun j hj => by omega), Drawn.refl w⟩
  case round =>
    obtain ⟨i, hi, rfl, hno, hd⟩ := hrel
    by_cases hlt : i < len
    · go_wp2
      go_loopw [5, 6] (fun p c wq => ∃ m : Nat, m ≤ len ∧ c = .int .i64 m ∧ p = .bool (allGe f i m) ∧ Drawn w wq) (fun _ c _ => len - (intOf c).toNat)
      case atStart => exact ⟨0, by omega, rfl, rfl, hd⟩
      case round =>
        obtain ⟨m, hm, rfl, rfl, hd2⟩ := hrel
        have hrow2 := hd2.holds hrow
        have hci := (hrow2 i hlt).1
        have hfi := (hrow2 i hlt).2
        by_cases hml : m < len
        · have hcm := (hrow2 m hml).1
          have hfm := (hrow2 m hml).2
          have h1 : (i : Int) < (len : Int) := by omega
          have h2 : (m : Int) < (len : Int) := by omega
          cases hb : allGe f i m
          · have hb' : Hid (allGe f i (m + 1) = false) := by unfold Hid allGe; rw [hb]; rfl
            go_wp2
            go_quiet (fail)
            go_wp2
            go_roundw
            case rel => exact ⟨m + 1, by omega, by go_num, by rw [hb'.out], hd2.more _⟩
            case measure => simp [intOf]; omega
          · have hb' : Hid (allGe f i (m + 1) = decide (0 ≤ orderF (f i) (f m))) := by unfold Hid allGe; rw [hb]; rfl
            go_wp2
            go_quiet ((go_at_call 17; exact quiet_left (orderRef_any _ _ hfi hfm _)))
            go_wp2
            go_roundw
            case rel => exact ⟨m + 1, by omega, by go_num, by rw [hb'.out], hd2.more _⟩
            case measure => simp [intOf]; omega
        · have hml' : m = len := by omega
          obtain rfl := hml'
          cases hb : allGe f i m
          · go_wp2
            go_roundw
            case rel => exact ⟨i + 1, by omega, by go_num, (fun j hj => by
              by_cases c : j = i
              · rw [c]; exact hb
              · exact hno.out j (by omega)), hd2⟩
            case measure => simp [intOf]; omega
          · have hvi : Hid (canonF (f i) = v) := HV.out i hlt hb
            go_wp2_with (go_at_call 12; ((with_reducible refine (canonRef_any _ hfi _).mono ?_); rintro e w' ⟨rfl, rfl⟩))
            go_ret2
            exact ⟨ret_num hvi.out, hd2⟩
    · exact absurd (fun j hj => hno.out j (by omega)) HE.out

theorem refLeast_none (a : Option Addr) (cap : Nat) (w : World) :
    Calls Try.prog 19 #[.slice a 0 cap] w fun e w' => e = .returned (.tuple #[.int .u64 0, .bool false]) ∧ w = w' := by
  go_enter Try.func19, Try.ntmps19
  go_wp2
  refine wp_loop_rounds 1 ?_
  rw [rounds_succ]
  go_wp2
  go_ret2
  exact ⟨rfl, rfl⟩
theorem refMost_none (a : Option Addr) (cap : Nat) (w : World) :
    Calls Try.prog 21 #[.slice a 0 cap] w fun e w' => e = .returned (.tuple #[.int .u64 0, .bool false]) ∧ w = w' := by
  go_enter Try.func21, Try.ntmps21
  go_wp2
  refine wp_loop_rounds 1 ?_
  rw [rounds_succ]
  go_wp2
  go_ret2
  exact ⟨rfl, rfl⟩

theorem order_le (a b : Nat) : orderF a b ≤ 0 ↔ keyF a ≤ keyF b := by
  unfold orderF cmpF
  split
  · omega
  · split <;> omega
theorem order_ge (a b : Nat) : 0 ≤ orderF a b ↔ keyF b ≤ keyF a := by
  unfold orderF cmpF
  split
  · omega
  · split <;> omega
theorem order_minus (a b : Nat) : (orderF a b == -1) = true ↔ keyF a < keyF b := by
  unfold orderF cmpF
  split
  · simp; omega
  · split <;> (simp; omega)
theorem order_plus (a b : Nat) : (orderF a b == 1) = true ↔ keyF b < keyF a := by
  unfold orderF cmpF
  split
  · simp; omega
  · split
    · simp; omega
    · simp; omega

theorem allLe_iff (f : Nat → Nat) (i m : Nat) : allLe f i m = true ↔ ∀ j, j < m → keyF (f i) ≤ keyF (f j) := by
  induction m with
  | zero => simp [allLe]
  | succ m ih =>
    rw [allLe, Bool.and_eq_true, ih, decide_eq_true_iff, order_le]
    constructor
    · rintro ⟨h, k⟩ j hj
      by_cases c : j = m
      · rw [c]; exact k
      · exact h j (by omega)
    · exact fun h => ⟨fun j hj => h j (by omega), h m (by omega)⟩
theorem allGe_iff (f : Nat → Nat) (i m : Nat) : allGe f i m = true ↔ ∀ j, j < m → keyF (f j) ≤ keyF (f i) := by
  induction m with
  | zero => simp [allGe]
  | succ m ih =>
    rw [allGe, Bool.and_eq_true, ih, decide_eq_true_iff, order_ge]
    constructor
    · rintro ⟨h, k⟩ j hj
      by_cases c : j = m
      · rw [c]; exact k
      · exact h j (by omega)
    · exact fun h => ⟨fun j hj => h j (by omega), h m (by omega)⟩

theorem best_minus (f : Nat → Nat) (k : Nat) : (∃ j, j ≤ k ∧ bestTo f (-1) k = f j) ∧ ∀ i, i ≤ k → keyF (bestTo f (-1) k) ≤ keyF (f i) := by
  induction k with
  | zero => exact ⟨⟨0, Nat.le_refl _, rfl⟩, fun i hi => by rw [show i = 0 by omega]; exact Nat.le_refl _⟩
  | succ k ih =>
    obtain ⟨⟨j, hj, e⟩, h⟩ := ih
    rw [bestTo]
    by_cases c : (orderF (f (k + 1)) (bestTo f (-1) k) == -1) = true
    · rw [if_pos c]
      rw [order_minus] at c
      refine ⟨⟨k + 1, Nat.le_refl _, rfl⟩, fun i hi => ?_⟩
      by_cases q : i = k + 1
      · rw [q]; exact Nat.le_refl _
      · have := h i (by omega); omega
    · rw [if_neg c]
      rw [order_minus] at c
      refine ⟨⟨j, by omega, e⟩, fun i hi => ?_⟩
      by_cases q : i = k + 1
      · rw [q]; omega
      · exact h i (by omega)
theorem best_plus (f : Nat → Nat) (k : Nat) : (∃ j, j ≤ k ∧ bestTo f 1 k = f j) ∧ ∀ i, i ≤ k → keyF (f i) ≤ keyF (bestTo f 1 k) := by
  induction k with
  | zero => exact ⟨⟨0, Nat.le_refl _, rfl⟩, fun i hi => by rw [show i = 0 by omega]; exact Nat.le_refl _⟩
  | succ k ih =>
    obtain ⟨⟨j, hj, e⟩, h⟩ := ih
    rw [bestTo]
    by_cases c : (orderF (f (k + 1)) (bestTo f 1 k) == 1) = true
    · rw [if_pos c]
      rw [order_plus] at c
      refine ⟨⟨k + 1, Nat.le_refl _, rfl⟩, fun i hi => ?_⟩
      by_cases q : i = k + 1
      · rw [q]; exact Nat.le_refl _
      · have := h i (by omega); omega
    · rw [if_neg c]
      rw [order_plus] at c
      refine ⟨⟨j, by omega, e⟩, fun i hi => ?_⟩
      by_cases q : i = k + 1
      · rw [q]; omega
      · exact h i (by omega)

theorem canon_key (a b : Nat) (ha : a < 18446744073709551616) (hb : b < 18446744073709551616) : canonF a = canonF b ↔ keyF a = keyF b := by
  unfold canonF keyF
  by_cases h : 9218868437227405312 < a % 9223372036854775808
  · rw [if_pos h, if_pos h]
    by_cases g : 9218868437227405312 < b % 9223372036854775808
    · rw [if_pos g, if_pos g]; simp
    · rw [if_neg g, if_neg g]; split <;> omega
  · rw [if_neg h, if_neg h]
    by_cases g : 9218868437227405312 < b % 9223372036854775808
    · rw [if_pos g, if_pos g]; split <;> omega
    · rw [if_neg g, if_neg g]; split <;> split <;> omega

theorem refLeast_any (a : Option Addr) (len cap : Nat) (f : Nat → Nat) (w : World) (h : Lies w a len cap f) :
    Calls Try.prog 19 #[.slice a len cap] w fun e w' => e = .returned (.tuple #[.int .u64 (bestF f (-1) len : Nat), .bool (someB len)]) ∧ Drawn w w' := by
  rcases h with rfl | ⟨b, off, rfl, hl, hlc, hcap, hrow⟩
  · exact (refLeast_none a cap w).mono fun e w' ⟨he, hw⟩ => ⟨he, hw ▸ Drawn.refl w⟩
  · unfold bestF someB
    rw [if_neg (by omega), decide_eq_true hl]
    obtain ⟨⟨j, hj, e⟩, hbest⟩ := best_minus f (len - 1)
    refine refLeast_walk b off len cap f w hl hlc hcap hrow _ (fun i hi ha => ?_) (fun hall => ?_)
    · rw [allLe_iff] at ha
      refine (canon_key _ _ (hrow i hi).2 (bestTo_lt f _ _ fun i hi => (hrow i (by omega)).2)).2 ?_
      have h1 := hbest i (by omega)
      have h2 := ha j (by omega)
      rw [e] at h1 ⊢
      omega
    · have h1 := hall j (by omega)
      have h2 : allLe f j len = true := (allLe_iff f j len).2 fun i hi => by rw [← e]; exact hbest i (by omega)
      rw [h1] at h2; cases h2

theorem refMost_any (a : Option Addr) (len cap : Nat) (f : Nat → Nat) (w : World) (h : Lies w a len cap f) :
    Calls Try.prog 21 #[.slice a len cap] w fun e w' => e = .returned (.tuple #[.int .u64 (bestF f 1 len : Nat), .bool (someB len)]) ∧ Drawn w w' := by
  rcases h with rfl | ⟨b, off, rfl, hl, hlc, hcap, hrow⟩
  · exact (refMost_none a cap w).mono fun e w' ⟨he, hw⟩ => ⟨he, hw ▸ Drawn.refl w⟩
  · unfold bestF someB
    rw [if_neg (by omega), decide_eq_true hl]
    obtain ⟨⟨j, hj, e⟩, hbest⟩ := best_plus f (len - 1)
    refine refMost_walk b off len cap f w hl hlc hcap hrow _ (fun i hi ha => ?_) (fun hall => ?_)
    · rw [allGe_iff] at ha
      refine (canon_key _ _ (hrow i hi).2 (bestTo_lt f _ _ fun i hi => (hrow i (by omega)).2)).2 ?_
      have h1 := hbest i (by omega)
      have h2 := ha j (by omega)
      rw [e] at h1 ⊢
      omega
    · have h1 := hall j (by omega)
      have h2 : allGe f j len = true := (allGe_iff f j len).2 fun i hi => by rw [← e]; exact hbest i (by omega)
      rw [h1] at h2; cases h2
end Go.Proofs.Ytbdccfggnbopgaa
