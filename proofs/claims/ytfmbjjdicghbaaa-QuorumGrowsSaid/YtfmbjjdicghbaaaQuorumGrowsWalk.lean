/- The walk of the statement QuorumGrows. Condition: the set is below 2^64. -/
import Derived.Test.YtfmbjjdicghbaaaQuorumProg

namespace Go.Proofs.Ytfmbjjdicghbaaa

open Go.RowKit

def moreF (s : Nat) (k i : Int) : Nat := if 0 ≤ i ∧ i < k ∧ hasB s i = false then 1 else 0
theorem cnt_more (s : Nat) (k : Nat) (i : Int) (hk : k ≤ 64) : cntN (addF s i) k = cntN s k + moreF s k i := by
  unfold moreF
  by_cases h : 0 ≤ i ∧ i ≤ 63
  · rw [add_yes s i h.1 h.2, has_yes s i h.1 h.2, cnt_add]
    congr 1
    by_cases hb : s.testBit i.toNat = false
    · by_cases hi : i < k
      · rw [if_pos ⟨by omega, hb⟩, if_pos ⟨h.1, hi, hb⟩]
      · rw [if_neg (by omega), if_neg (by omega)]
    · rw [if_neg (fun g => hb g.2), if_neg (fun g => hb g.2.2)]
  · rw [add_no s i (by omega), if_neg (by omega)]; rfl
theorem maj_more (s : Nat) (n i : Int) (h : majB s n = true) : majB (addF s i) n = true := by
  unfold addF
  split
  · exact maj_grow s _ n h
  · exact h
theorem upto_k (k : Nat) (h : k ≤ 64) : upto (k : Int) = k := by unfold upto; rw [if_neg (by omega), if_neg (by omega)]; omega

set_option maxHeartbeats 4000000 in
theorem grows_walk (s c : Nat) (i : Int) (w : World) (hs : s < 18446744073709551616) (hc : c < 256) :
    Calls Try.prog 7 #[.int .u64 s, .int .u8 c, .int .i64 i] w fun e w' => e = .returned (.bool true) ∧ Below w.heap.size w w' := by
  have hm := cnt_more s (1 + c % 20) i (by omega)
  have hu := upto_k (1 + c % 20) (by omega)
  have hl := addF_lt s i hs
  have e : (1 + (c : Int) % 20) = ((1 + c % 20 : Nat) : Int) := by omega
  rw [← e] at hm hu
  rw [← hu] at hm
  have l1 := cnt_le s (upto (1 + (c : Int) % 20))
  have hu64 := upto_le (1 + (c : Int) % 20)
  have hg := maj_more s (1 + (c : Int) % 20) i
  clear hu e
  by_cases h0 : 0 ≤ i
  · by_cases h1 : i < 1 + (c : Int) % 20
    · cases hh : hasB s i
      · have hz : moreF s (1 + (c : Int) % 20) i = 1 := by unfold moreF; rw [if_pos ⟨h0, h1, hh⟩]
        have hS : (((cntN (addF s i) (upto (1 + (c : Int) % 20)) : Nat) : Int) == ((cntN s (upto (1 + (c : Int) % 20)) : Nat) : Int) + 1) = true := by rw [hm, hz]; simp
        clear hm hz
        cases hb : majB s (1 + (c : Int) % 20)
        · clear hg
          go_enter Try.func7, Try.ntmps7
          go_wp2_with (first
            | (go_at_call 18; ((with_reducible refine (qAdd_any s _ _ hs).mono ?_); rintro e w' ⟨rfl, rfl⟩))
            | (go_at_call 20; ((with_reducible refine (qHas_any s _ _ hs).mono ?_); rintro e w' ⟨rfl, rfl⟩))
            | (go_at_call 11; ((with_reducible refine (qMajority_any s _ _ hs).mono ?_); rintro e w' ⟨rfl, rfl⟩))
            | (go_at_call 11; ((with_reducible refine (qMajority_any (addF s i) _ _ hl).mono ?_); rintro e w' ⟨rfl, rfl⟩))
            | (go_at_call 9; ((with_reducible refine (qCount_any s _ _ hs).mono ?_); rintro e w' ⟨rfl, rfl⟩))
            | (go_at_call 9; ((with_reducible refine (qCount_any (addF s i) _ _ hl).mono ?_); rintro e w' ⟨rfl, rfl⟩))
            | (go_at_call 8; ((with_reducible refine (awake5_any _).mono ?_); rintro e w' ⟨rfl, rfl⟩)))
          go_ret
          exact ⟨rfl, Below.refl _ _⟩
        · have hb2 := hg hb
          clear hg
          go_enter Try.func7, Try.ntmps7
          go_wp2_with (first
            | (go_at_call 18; ((with_reducible refine (qAdd_any s _ _ hs).mono ?_); rintro e w' ⟨rfl, rfl⟩))
            | (go_at_call 20; ((with_reducible refine (qHas_any s _ _ hs).mono ?_); rintro e w' ⟨rfl, rfl⟩))
            | (go_at_call 11; ((with_reducible refine (qMajority_any s _ _ hs).mono ?_); rintro e w' ⟨rfl, rfl⟩))
            | (go_at_call 11; ((with_reducible refine (qMajority_any (addF s i) _ _ hl).mono ?_); rintro e w' ⟨rfl, rfl⟩))
            | (go_at_call 9; ((with_reducible refine (qCount_any s _ _ hs).mono ?_); rintro e w' ⟨rfl, rfl⟩))
            | (go_at_call 9; ((with_reducible refine (qCount_any (addF s i) _ _ hl).mono ?_); rintro e w' ⟨rfl, rfl⟩))
            | (go_at_call 8; ((with_reducible refine (awake5_any _).mono ?_); rintro e w' ⟨rfl, rfl⟩)))
          go_ret
          exact ⟨rfl, Below.refl _ _⟩
      · have hz : moreF s (1 + (c : Int) % 20) i = 0 := by unfold moreF; rw [if_neg (by rw [hh]; simp)]
        have hS : (((cntN (addF s i) (upto (1 + (c : Int) % 20)) : Nat) : Int) == ((cntN s (upto (1 + (c : Int) % 20)) : Nat) : Int)) = true := by rw [hm, hz]; simp
        clear hm hz
        cases hb : majB s (1 + (c : Int) % 20)
        · clear hg
          go_enter Try.func7, Try.ntmps7
          go_wp2_with (first
            | (go_at_call 18; ((with_reducible refine (qAdd_any s _ _ hs).mono ?_); rintro e w' ⟨rfl, rfl⟩))
            | (go_at_call 20; ((with_reducible refine (qHas_any s _ _ hs).mono ?_); rintro e w' ⟨rfl, rfl⟩))
            | (go_at_call 11; ((with_reducible refine (qMajority_any s _ _ hs).mono ?_); rintro e w' ⟨rfl, rfl⟩))
            | (go_at_call 11; ((with_reducible refine (qMajority_any (addF s i) _ _ hl).mono ?_); rintro e w' ⟨rfl, rfl⟩))
            | (go_at_call 9; ((with_reducible refine (qCount_any s _ _ hs).mono ?_); rintro e w' ⟨rfl, rfl⟩))
            | (go_at_call 9; ((with_reducible refine (qCount_any (addF s i) _ _ hl).mono ?_); rintro e w' ⟨rfl, rfl⟩))
            | (go_at_call 8; ((with_reducible refine (awake5_any _).mono ?_); rintro e w' ⟨rfl, rfl⟩)))
          go_ret
          exact ⟨rfl, Below.refl _ _⟩
        · have hb2 := hg hb
          clear hg
          go_enter Try.func7, Try.ntmps7
          go_wp2_with (first
            | (go_at_call 18; ((with_reducible refine (qAdd_any s _ _ hs).mono ?_); rintro e w' ⟨rfl, rfl⟩))
            | (go_at_call 20; ((with_reducible refine (qHas_any s _ _ hs).mono ?_); rintro e w' ⟨rfl, rfl⟩))
            | (go_at_call 11; ((with_reducible refine (qMajority_any s _ _ hs).mono ?_); rintro e w' ⟨rfl, rfl⟩))
            | (go_at_call 11; ((with_reducible refine (qMajority_any (addF s i) _ _ hl).mono ?_); rintro e w' ⟨rfl, rfl⟩))
            | (go_at_call 9; ((with_reducible refine (qCount_any s _ _ hs).mono ?_); rintro e w' ⟨rfl, rfl⟩))
            | (go_at_call 9; ((with_reducible refine (qCount_any (addF s i) _ _ hl).mono ?_); rintro e w' ⟨rfl, rfl⟩))
            | (go_at_call 8; ((with_reducible refine (awake5_any _).mono ?_); rintro e w' ⟨rfl, rfl⟩)))
          go_ret
          exact ⟨rfl, Below.refl _ _⟩
    · have hz : moreF s (1 + (c : Int) % 20) i = 0 := by unfold moreF; rw [if_neg (by omega)]
      have hS : (((cntN (addF s i) (upto (1 + (c : Int) % 20)) : Nat) : Int) == ((cntN s (upto (1 + (c : Int) % 20)) : Nat) : Int)) = true := by rw [hm, hz]; simp
      clear hm hz
      cases hb : majB s (1 + (c : Int) % 20)
      · clear hg
        go_enter Try.func7, Try.ntmps7
        go_wp2_with (first
          | (go_at_call 18; ((with_reducible refine (qAdd_any s _ _ hs).mono ?_); rintro e w' ⟨rfl, rfl⟩))
          | (go_at_call 20; ((with_reducible refine (qHas_any s _ _ hs).mono ?_); rintro e w' ⟨rfl, rfl⟩))
          | (go_at_call 11; ((with_reducible refine (qMajority_any s _ _ hs).mono ?_); rintro e w' ⟨rfl, rfl⟩))
          | (go_at_call 11; ((with_reducible refine (qMajority_any (addF s i) _ _ hl).mono ?_); rintro e w' ⟨rfl, rfl⟩))
          | (go_at_call 9; ((with_reducible refine (qCount_any s _ _ hs).mono ?_); rintro e w' ⟨rfl, rfl⟩))
          | (go_at_call 9; ((with_reducible refine (qCount_any (addF s i) _ _ hl).mono ?_); rintro e w' ⟨rfl, rfl⟩))
          | (go_at_call 8; ((with_reducible refine (awake5_any _).mono ?_); rintro e w' ⟨rfl, rfl⟩)))
        go_ret
        exact ⟨rfl, Below.refl _ _⟩
      · have hb2 := hg hb
        clear hg
        go_enter Try.func7, Try.ntmps7
        go_wp2_with (first
          | (go_at_call 18; ((with_reducible refine (qAdd_any s _ _ hs).mono ?_); rintro e w' ⟨rfl, rfl⟩))
          | (go_at_call 20; ((with_reducible refine (qHas_any s _ _ hs).mono ?_); rintro e w' ⟨rfl, rfl⟩))
          | (go_at_call 11; ((with_reducible refine (qMajority_any s _ _ hs).mono ?_); rintro e w' ⟨rfl, rfl⟩))
          | (go_at_call 11; ((with_reducible refine (qMajority_any (addF s i) _ _ hl).mono ?_); rintro e w' ⟨rfl, rfl⟩))
          | (go_at_call 9; ((with_reducible refine (qCount_any s _ _ hs).mono ?_); rintro e w' ⟨rfl, rfl⟩))
          | (go_at_call 9; ((with_reducible refine (qCount_any (addF s i) _ _ hl).mono ?_); rintro e w' ⟨rfl, rfl⟩))
          | (go_at_call 8; ((with_reducible refine (awake5_any _).mono ?_); rintro e w' ⟨rfl, rfl⟩)))
        go_ret
        exact ⟨rfl, Below.refl _ _⟩
  · have hz : moreF s (1 + (c : Int) % 20) i = 0 := by unfold moreF; rw [if_neg (by omega)]
    have hS : (((cntN (addF s i) (upto (1 + (c : Int) % 20)) : Nat) : Int) == ((cntN s (upto (1 + (c : Int) % 20)) : Nat) : Int)) = true := by rw [hm, hz]; simp
    clear hm hz
    cases hb : majB s (1 + (c : Int) % 20)
    · clear hg
      go_enter Try.func7, Try.ntmps7
      go_wp2_with (first
        | (go_at_call 18; ((with_reducible refine (qAdd_any s _ _ hs).mono ?_); rintro e w' ⟨rfl, rfl⟩))
        | (go_at_call 20; ((with_reducible refine (qHas_any s _ _ hs).mono ?_); rintro e w' ⟨rfl, rfl⟩))
        | (go_at_call 11; ((with_reducible refine (qMajority_any s _ _ hs).mono ?_); rintro e w' ⟨rfl, rfl⟩))
        | (go_at_call 11; ((with_reducible refine (qMajority_any (addF s i) _ _ hl).mono ?_); rintro e w' ⟨rfl, rfl⟩))
        | (go_at_call 9; ((with_reducible refine (qCount_any s _ _ hs).mono ?_); rintro e w' ⟨rfl, rfl⟩))
        | (go_at_call 9; ((with_reducible refine (qCount_any (addF s i) _ _ hl).mono ?_); rintro e w' ⟨rfl, rfl⟩))
        | (go_at_call 8; ((with_reducible refine (awake5_any _).mono ?_); rintro e w' ⟨rfl, rfl⟩)))
      go_ret
      exact ⟨rfl, Below.refl _ _⟩
    · have hb2 := hg hb
      clear hg
      go_enter Try.func7, Try.ntmps7
      go_wp2_with (first
        | (go_at_call 18; ((with_reducible refine (qAdd_any s _ _ hs).mono ?_); rintro e w' ⟨rfl, rfl⟩))
        | (go_at_call 20; ((with_reducible refine (qHas_any s _ _ hs).mono ?_); rintro e w' ⟨rfl, rfl⟩))
        | (go_at_call 11; ((with_reducible refine (qMajority_any s _ _ hs).mono ?_); rintro e w' ⟨rfl, rfl⟩))
        | (go_at_call 11; ((with_reducible refine (qMajority_any (addF s i) _ _ hl).mono ?_); rintro e w' ⟨rfl, rfl⟩))
        | (go_at_call 9; ((with_reducible refine (qCount_any s _ _ hs).mono ?_); rintro e w' ⟨rfl, rfl⟩))
        | (go_at_call 9; ((with_reducible refine (qCount_any (addF s i) _ _ hl).mono ?_); rintro e w' ⟨rfl, rfl⟩))
        | (go_at_call 8; ((with_reducible refine (awake5_any _).mono ?_); rintro e w' ⟨rfl, rfl⟩)))
      go_ret
      exact ⟨rfl, Below.refl _ _⟩
end Go.Proofs.Ytfmbjjdicghbaaa
