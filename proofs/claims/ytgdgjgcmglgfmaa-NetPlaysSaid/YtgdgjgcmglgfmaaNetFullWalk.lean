/- The law's walk of NetFull. No condition. -/
import Derived.Test.YtgdgjgcmglgfmaaNetLaw
namespace Go.Proofs.Ytgdgjgcmglgfmaa

open Go.RowKit

set_option linter.unusedVariables false
set_option linter.unusedSimpArgs false

/-- One byte in a row of its own. -/
theorem byte_row (V : World) (k : Nat) (x : Int) (hx : x = ((UInt8.ofNat k).toNat : Int)) : BAt (V.alloc (.cells #[.int .u8 x] 5)) (V.alloc (.cells #[.int .u8 x] 5)).heap.size (some ⟨V.heap.size, 0, none⟩) 1 [UInt8.ofNat k] := by
  have h := BAt.made V [UInt8.ofNat k] #[.int .u8 x] 5 (0, 0) (by rw [hx]; rfl)
  simpa using h
theorem byte_of (k : Nat) (h : k < 256) : (k : Int) = ((UInt8.ofNat k).toNat : Int) := by
  rw [UInt8.toNat_ofNat']; omega
def pk1 (k : Nat) : Pk := [UInt8.ofNat k]
def pks (k : Nat) : List Pk := (List.range k).map pk1
theorem pks_succ (k : Nat) : pks (k + 1) = pks k ++ [pk1 k] := by simp [pks, List.range_succ]
theorem pks_len (k : Nat) : (pks k).length = k := by simp [pks]
theorem below_alloc (V : World) (o : Obj) : Below V.heap.size V (V.alloc o) := (Below.refl _ _).alloc (Nat.le_refl _) o

set_option maxRecDepth 100000 in
set_option maxHeartbeats 8000000 in
theorem full_walk (f t : Int) (mo : Nat) (hmo : mo < 256) (W : World) :
    Calls Try.prog 4 #[.int .i64 f, .int .i64 t, .int .u8 (mo : Nat)] W (Quiet1 W (.bool true)) := by
  have MO := Lib.hid hmo
  clear hmo
  go_enter Try.func4, Try.ntmps4
  go_wp2_with (first | (go_at_call 8; ((with_reducible refine (awake11_any _).mono ?_); rintro e w1 ⟨rfl, hb1⟩; have B1 := Lib.hid hb1; clear hb1)) | (go_at_call 10; ((with_reducible refine (new_net _).mono ?_); rintro e w2 ⟨rfl, rfl⟩; have L2 := Lib.hid (LawN.madeB B1.out))))
  generalize w1.alloc (.cells #[.map none] 62) = w2 at *
  generalize w1.heap.size = g at *
  go_loopw [8] (fun v wr => ∃ (k : Nat) (bs : Bags), v = .int .i64 k ∧ k ≤ 64 ∧ LawN W wr g bs [] ∧ getB bs (f, t) = pks k ∧ tot bs = k) (fun v _ => 64 - (intOf v).toNat)
  case atStart => exact ⟨0, [], rfl, by omega, L2.out, rfl, rfl⟩
  case round =>
    obtain ⟨k, bs, rfl, hk, hL, hg, ht⟩ := hrel
    have L := Lib.hid hL
    have G := Lib.hid hg
    have T := Lib.hid ht
    clear hL hg ht L2
    by_cases hlt : k < 64
    · have hd : decide ((k : Int) < 64) = true := decide_eq_true (by omega)
      have cS := send_yes_law f t (some ⟨wr.heap.size, 0, none⟩) 1 1 (pk1 k) (L.out.later (below_alloc wr (.cells #[.int .u8 (k : Nat)] 5))) (byte_row wr k _ (byte_of k (by omega))) (by omega) (by rw [G.out, pks_len]; exact hlt)
      go_wp2_with (first | (go_at_call 18; ((with_reducible refine cS.mono ?_); rintro e w3 ⟨rfl, hL3⟩; have L3 := Lib.hid hL3; clear hL3)))
      have hgd := L.out.good
      go_roundw
      case rel => exact ⟨k + 1, _, by go_num, by omega, L3.out, by rw [getB_keep, if_pos rfl, G.out, pks_succ], by
        have h1 := tot_keep hgd (f, t) (getB bs (f, t) ++ [pk1 k])
        have h2 := T.out
        rw [List.length_append] at h1
        simp at h1
        omega⟩
      case measure => simp [intOf]; omega
    · obtain rfl : k = 64 := by omega
      have hgd := L.out.good
      have hl64 : (getB bs (f, t)).length = 64 := by rw [G.out, pks_len]
      have hj : mo % 64 < (getB bs (f, t)).length := by rw [hl64]; omega
      have hall : ∀ l ∈ getB bs (f, t), l.length ≤ 1099511627776 := fun l hl => by
        rw [G.out] at hl
        obtain ⟨j, _, rfl⟩ := List.mem_map.1 hl
        show 1 ≤ 1099511627776
        omega
      have cS := fun V (h : LawN W V g bs []) => send_no_law f t none 0 0 [] h BAt.nil (by omega) (by rw [hl64]; omega)
      have cD := fun V (h : LawN W V g bs []) => double_full_law f t 0 h hall (by rw [hl64]; omega)
      have ht : tot bs = 64 := T.out
      have cC := fun V (h : LawN W V g bs []) => count_law h (by rw [ht]; omega)
      rw [ht] at cC
      have ej : ((mo : Int) % 64) = ((mo % 64 : Nat) : Int) := by omega
      have he : ((getB bs (f, t))[mo % 64] = pk1 (mo % 64)) := by
        have h1 : (getB bs (f, t))[mo % 64]? = some (pk1 (mo % 64)) := by
          rw [G.out]
          unfold pks
          rw [List.getElem?_map, List.getElem?_range (by omega)]; rfl
        rw [List.getElem?_eq_getElem hj] at h1
        injection h1
      have cT : ∀ V, LawN W V g bs [] → Calls Try.prog 20 #[.pointer (some ⟨g, 0, none⟩), .int .i64 f, .int .i64 t, .int .i64 ((mo : Int) % 64)] V fun e w' => ∃ v, e = .returned (.tuple #[v, .bool true]) ∧ PkAt w' v (pk1 (mo % 64)) ∧ LawN W w' g (keepB bs (f, t) ((getB bs (f, t)).eraseIdx (mo % 64))) [] := fun V h => by
        rw [ej]
        exact (take_yes_law f t (mo % 64) h (by rw [hl64]; omega) hj).mono fun e w' ⟨v, h1, h2, h3⟩ => ⟨v, h1, by rw [he] at h2; exact h2, h3⟩
      have HB : Hid ((mo : Int) % 64 = ((UInt8.ofNat (mo % 64)).toNat : Int)) := by unfold Hid; rw [ej]; exact byte_of _ (by omega)
      have hl63 : ((getB bs (f, t)).eraseIdx (mo % 64)).length = 63 := by rw [List.length_eraseIdx, if_pos hj, hl64]
      have hg5 : getB (keepB bs (f, t) ((getB bs (f, t)).eraseIdx (mo % 64))) (f, t) = (getB bs (f, t)).eraseIdx (mo % 64) := by rw [getB_keep, if_pos rfl]
      have cS2 := fun V (h : LawN W V g (keepB bs (f, t) ((getB bs (f, t)).eraseIdx (mo % 64))) []) => send_yes_law f t none 0 0 [] h BAt.nil (by omega) (by rw [hg5, hl63]; omega)
      have ht6 : tot (keepB (keepB bs (f, t) ((getB bs (f, t)).eraseIdx (mo % 64))) (f, t) (getB (keepB bs (f, t) ((getB bs (f, t)).eraseIdx (mo % 64))) (f, t) ++ [[]])) = 64 := by
        have h1 := tot_keep hgd (f, t) ((getB bs (f, t)).eraseIdx (mo % 64))
        have h2 := tot_keep (good_keep hgd (f, t) ((getB bs (f, t)).eraseIdx (mo % 64))) (f, t) (getB (keepB bs (f, t) ((getB bs (f, t)).eraseIdx (mo % 64))) (f, t) ++ [[]])
        rw [List.length_append] at h2
        simp at h2
        omega
      have cC2 := fun V (h : LawN W V g (keepB (keepB bs (f, t) ((getB bs (f, t)).eraseIdx (mo % 64))) (f, t) (getB (keepB bs (f, t) ((getB bs (f, t)).eraseIdx (mo % 64))) (f, t) ++ [[]])) []) => count_law h (by rw [ht6]; omega)
      rw [ht6] at cC2
      clear hgd hl64 hall hg5 hl63 ht6 ej ht he hj hlt hk
      go_wp2_with (first
        | (go_at_call 18; ((with_reducible refine (cS2 _ L6.out).mono ?_); rintro e w7 ⟨rfl, hL7⟩; have L7 := Lib.hid hL7; clear hL7))
        | (go_at_call 18; ((with_reducible refine (cS _ L.out).mono ?_); rintro e w3 ⟨rfl, hL3⟩; have L3 := Lib.hid hL3; clear hL3))
        | (go_at_call 19; ((with_reducible refine (cD _ L3.out).mono ?_); rintro e w4 ⟨rfl, hL4⟩; have L4 := Lib.hid hL4; clear hL4))
        | (go_at_call 12; ((with_reducible refine (cC2 _ L7.out).mono ?_); rintro e w8 ⟨rfl, hL8⟩; have L8 := Lib.hid hL8; clear hL8))
        | (go_at_call 12; ((with_reducible refine (cC _ L4.out).mono ?_); rintro e w5 ⟨rfl, hL5⟩; have L5 := Lib.hid hL5; clear hL5))
        | (go_at_call 20; ((with_reducible refine (cT _ L5.out).mono ?_); rintro e w6 ⟨v, rfl, hp6, hL6⟩; have L6 := Lib.hid hL6; obtain ⟨b6, o6, c6, rfl, y6⟩ := hp6.byte; rw [← HB.out] at y6; clear hL6 hp6)))
      go_ret
      exact ⟨rfl, L8.out.bel⟩
end Go.Proofs.Ytgdgjgcmglgfmaa
