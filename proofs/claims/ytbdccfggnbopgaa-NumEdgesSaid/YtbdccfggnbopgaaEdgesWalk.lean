/- The walk of the statement NumEdges: the loop that notes the kinds, and what stands behind it. Conditions: the list lies in memory as Lies says, at most 100 numbers. -/
import Derived.Test.YtbdccfggnbopgaaInf
namespace Go.Proofs.Ytbdccfggnbopgaa
open Go.RowKit

theorem Lies.alloc {w : World} {a : Option Addr} {len cap : Nat} {f : Nat → Nat} (k : Lies w a len cap f) (o : Obj) : Lies (w.alloc o) a len cap f := by
  rcases k with k | ⟨b, off, rfl, hl, hlc, hcap, hrow⟩
  · exact .inl k
  · refine .inr ⟨b, off, rfl, hl, hlc, hcap, fun i hi => ?_⟩
    have hb : Below w.heap.size w (w.alloc o) := (Below.refl _ _).alloc (Nat.le_refl _) o
    exact ⟨cell_later hb (hrow i hi).1, (hrow i hi).2⟩
theorem Lies.cell {w : World} {a : Option Addr} {len cap : Nat} {f : Nat → Nat} (k : Lies w a len cap f) {i : Nat} (hi : i < len) : ∃ b off, a = some ⟨b, off, none⟩ ∧ w.cell? ⟨b, off + i, none⟩ = some (.int .u64 ((f i : Nat) : Int)) ∧ f i < 18446744073709551616 := by
  rcases k with rfl | ⟨b, off, rfl, hl, hlc, hcap, hrow⟩
  · omega
  · exact ⟨b, off, rfl, hrow i hi⟩

theorem kind_range (n : Nat) : kindF n = 0 ∨ kindF n = 1 ∨ kindF n = 2 ∨ kindF n = 3 ∨ kindF n = 4 ∨ kindF n = 5 ∨ kindF n = 6 := by
  unfold kindF
  split
  · simp
  · split
    · simp
    · split
      · simp
      · split <;> split <;> simp

def Notes (f : Nat → Nat) (m : Nat) (b0 b1 b6 : Bool) : Prop := b0 = hasB f 0 m ∧ b1 = hasB f 1 m ∧ b6 = hasB f 6 m
theorem Notes.step {f : Nat → Nat} {m : Nat} {b0 b1 b6 : Bool} (h : Notes f m b0 b1 b6) : Notes f (m + 1) (b0 || kindF (f m) == 0) (b1 || kindF (f m) == 1) (b6 || kindF (f m) == 6) := by
  obtain ⟨rfl, rfl, rfl⟩ := h
  exact ⟨rfl, rfl, rfl⟩
theorem Notes.to {f : Nat → Nat} {m : Nat} {b0 b1 b6 c0 c1 c6 : Bool} {k : Int} (h : Notes f m b0 b1 b6) (hk : kindF (f m) = k) (h0 : c0 = (b0 || k == 0)) (h1 : c1 = (b1 || k == 1)) (h6 : c6 = (b6 || k == 6)) : Notes f (m + 1) c0 c1 c6 := by
  subst h0 h1 h6
  have := h.step
  rw [hk] at this
  exact this

set_option maxHeartbeats 4000000 in
theorem edges_walk (a : Option Addr) (len cap : Nat) (f : Nat → Nat) (w : World) (hL : Lies w a len cap f) (hlen : len ≤ 100) :
    Calls Try.prog 7 #[.slice a len cap] w fun e w' => e = .returned (.bool true) ∧ Below w.heap.size w w' := by
  have hd : decide ((100 : Int) < (len : Int)) = false := by simp; omega
  have hsl : sumF f len < 18446744073709551616 := sumF_lt f len fun h => by
    obtain ⟨_, _, _, _, h⟩ := hL.cell (show 0 < len by omega)
    exact h
  go_enter Try.func7, Try.ntmps7
  go_wp2_with (go_at_call 16; ((with_reducible refine (awake_any _).mono ?_); rintro e w' ⟨rfl, rfl⟩))
  go_loopw [4] (fun c wr => ∃ (m : Nat) (b0 b1 b2 b3 b4 b5 b6 : Bool), m ≤ len ∧ c = .int .i64 m ∧ wr = w.alloc (.cells #[.bool b0, .bool b1, .bool b2, .bool b3, .bool b4, .bool b5, .bool b6] 35) ∧ Notes f m b0 b1 b6) (fun c _ => len - (intOf c).toNat)
  case atStart => exact ⟨0, false, false, false, false, false, false, false, by omega, rfl, rfl, rfl, rfl, rfl⟩
  case round =>
    obtain ⟨m, b0, b1, b2, b3, b4, b5, b6, hm, rfl, rfl, hN⟩ := hrel
    have hLa := hL.alloc (.cells #[.bool b0, .bool b1, .bool b2, .bool b3, .bool b4, .bool b5, .bool b6] 35)
    by_cases hlt : m < len
    · obtain ⟨b, off, rfl, hcell, hfm⟩ := hL.cell hlt
      have hbs : b < w.heap.size := World.block_lt_of_cell? _ _ hcell
      have h1 : (m : Int) < (len : Int) := by omega
      have hr := kind_range (f m)
      clear hLa
      rcases hr with hk | hk | hk | hk | hk | hk | hk
      all_goals
        go_wp2_with (go_at_call 9; ((with_reducible refine (kind_any _ hfm _).mono ?_); rintro e w' ⟨rfl, rfl⟩))
        go_roundw
        case rel => exact ⟨m + 1, _, _, _, _, _, _, _, by omega, by go_num, rfl, hN.to hk (by simp) (by simp) (by simp)⟩
        case measure => simp [intOf]; omega
    · obtain rfl : m = len := by omega
      have hLd := fun n => (Drawn.mk (w.alloc (.cells #[.bool b0, .bool b1, .bool b2, .bool b3, .bool b4, .bool b5, .bool b6] 35)) n).lies hLa
      have bel : ∀ n, Below w.heap.size w ((w.alloc (.cells #[.bool b0, .bool b1, .bool b2, .bool b3, .bool b4, .bool b5, .bool b6] 35)).drewN n) := fun n =>
        ((Below.refl _ _).alloc (Nat.le_refl _) _).trans ((Drawn.mk _ n).below _)
      obtain ⟨e0, e1, e6⟩ := hN
      have hne : ∀ i, i < m → f i < 18446744073709551616 := fun i hi => by
        obtain ⟨_, _, _, _, h⟩ := hL.cell hi
        exact h
      have HN := Lib.hid hne
      clear hne
      by_cases hnan : hasB f 0 m = true ∨ (hasB f 1 m = true ∧ hasB f 6 m = true)
      · have hs := edge_nan f m hnan
        have k1 : (kindF (sumF f m) == 0) = true := by rw [hs]; rfl
        have k2 : (((sumF f m : Nat) : Int) == 9221120237041090560) = true := by rw [hs]; rfl
        clear hs
        cases b0
        · rcases hnan with h | ⟨h, g⟩
          · rw [← e0] at h; cases h
          · rw [h] at e1; rw [g] at e6
            subst e1 e6
            clear e0 h g
            go_wp2_with (first | (go_at_call 9; ((with_reducible refine (kind_any _ hsl _).mono ?_); rintro e w' ⟨rfl, rfl⟩)) | (go_at_call 22; ((with_reducible refine (sum_any _ _ _ f _ (by first | exact hLa | exact hLd _)).mono ?_); rintro e w' ⟨rfl, hdr⟩; obtain ⟨n, rfl⟩ := hdr)))
            go_ret
            exact ⟨rfl, bel _⟩
        · clear e0 e1 e6 hnan
          go_wp2_with (first | (go_at_call 9; ((with_reducible refine (kind_any _ hsl _).mono ?_); rintro e w' ⟨rfl, rfl⟩)) | (go_at_call 22; ((with_reducible refine (sum_any _ _ _ f _ (by first | exact hLa | exact hLd _)).mono ?_); rintro e w' ⟨rfl, hdr⟩; obtain ⟨n, rfl⟩ := hdr)))
          go_ret
          exact ⟨rfl, bel _⟩
      · have c0 : b0 = false := by rw [e0]; simpa using fun h => hnan (.inl h)
        have d0 : hasB f 0 m = false := by rw [← e0]; exact c0
        subst c0
        clear e0
        cases b1
        · cases b6
          · have d1 : Hid (hasB f 0 m = false) := d0
            clear e1 e6 hnan d0
            by_cases hm1 : m ≤ 1
            · have k1 : (kindF (sumF f m) != 0) = true := by simpa using edge_small f m d1.out hm1
              go_wp2_with (first | (go_at_call 9; ((with_reducible refine (kind_any _ hsl _).mono ?_); rintro e w' ⟨rfl, rfl⟩)) | (go_at_call 22; ((with_reducible refine (sum_any _ _ _ f _ (by first | exact hLa | exact hLd _)).mono ?_); rintro e w' ⟨rfl, hdr⟩; obtain ⟨n, rfl⟩ := hdr)))
              go_ret
              exact ⟨rfl, bel _⟩
            · have hm2 : (1 : Int) < (m : Int) := by omega
              go_wp2_with (first | (go_at_call 9; ((with_reducible refine (kind_any _ hsl _).mono ?_); rintro e w' ⟨rfl, rfl⟩)) | (go_at_call 22; ((with_reducible refine (sum_any _ _ _ f _ (by first | exact hLa | exact hLd _)).mono ?_); rintro e w' ⟨rfl, hdr⟩; obtain ⟨n, rfl⟩ := hdr)))
              go_ret
              exact ⟨rfl, bel _⟩
          · have d1 : Hid (hasB f 0 m = false) := d0
            have d2 : Hid (hasB f 1 m = false) := e1.symm
            have d3 : Hid (hasB f 6 m = true) := e6.symm
            clear e1 e6 hnan d0
            by_cases hm1 : m ≤ 2
            · have k1 : (kindF (sumF f m) == 6) = true := by simpa using edge_plus f m HN.out d1.out d2.out d3.out hm1
              go_wp2_with (first | (go_at_call 9; ((with_reducible refine (kind_any _ hsl _).mono ?_); rintro e w' ⟨rfl, rfl⟩)) | (go_at_call 22; ((with_reducible refine (sum_any _ _ _ f _ (by first | exact hLa | exact hLd _)).mono ?_); rintro e w' ⟨rfl, hdr⟩; obtain ⟨n, rfl⟩ := hdr)))
              go_ret
              exact ⟨rfl, bel _⟩
            · have hm2 : (2 : Int) < (m : Int) := by omega
              go_wp2_with (first | (go_at_call 9; ((with_reducible refine (kind_any _ hsl _).mono ?_); rintro e w' ⟨rfl, rfl⟩)) | (go_at_call 22; ((with_reducible refine (sum_any _ _ _ f _ (by first | exact hLa | exact hLd _)).mono ?_); rintro e w' ⟨rfl, hdr⟩; obtain ⟨n, rfl⟩ := hdr)))
              go_ret
              exact ⟨rfl, bel _⟩
        · have d1 : Hid (hasB f 0 m = false) := d0
          have d2 : Hid (hasB f 1 m = true) := e1.symm
          have c6 : b6 = false := by rw [e6]; simpa using fun h => hnan (.inr ⟨e1.symm, h⟩)
          have d3 : Hid (hasB f 6 m = false) := e6.symm.trans c6
          subst c6
          clear e1 e6 hnan d0
          by_cases hm1 : m ≤ 2
          · have k1 : (kindF (sumF f m) == 1) = true := by simpa using edge_minus f m HN.out d1.out d2.out d3.out hm1
            go_wp2_with (first | (go_at_call 9; ((with_reducible refine (kind_any _ hsl _).mono ?_); rintro e w' ⟨rfl, rfl⟩)) | (go_at_call 22; ((with_reducible refine (sum_any _ _ _ f _ (by first | exact hLa | exact hLd _)).mono ?_); rintro e w' ⟨rfl, hdr⟩; obtain ⟨n, rfl⟩ := hdr)))
            go_ret
            exact ⟨rfl, bel _⟩
          · have hm2 : (2 : Int) < (m : Int) := by omega
            go_wp2_with (first | (go_at_call 9; ((with_reducible refine (kind_any _ hsl _).mono ?_); rintro e w' ⟨rfl, rfl⟩)) | (go_at_call 22; ((with_reducible refine (sum_any _ _ _ f _ (by first | exact hLa | exact hLd _)).mono ?_); rintro e w' ⟨rfl, hdr⟩; obtain ⟨n, rfl⟩ := hdr)))
            go_ret
            exact ⟨rfl, bel _⟩
end Go.Proofs.Ytbdccfggnbopgaa
