/- The walk of the statement TxnOrder. No condition. -/
import Derived.Test.YtlkgpajpblhkeaaTxnSame

namespace Go.Proofs.Ytlkgpajpblhkeaa

open Go.RowKit

set_option linter.unusedVariables false

set_option maxHeartbeats 1000000 in
theorem order8_walk (s q s' q' s2 q2 : Int) (w : World) :
    Calls Try.prog 3 #[.agg #[.int .i64 s, .int .i64 q], .agg #[.int .i64 s', .int .i64 q'], .agg #[.int .i64 s2, .int .i64 q2]] w (Says w true) := by
  have H := Lib.hid ((((Boxs.start w).more #[.int .i64 s, .int .i64 q] 23).more #[.int .i64 s', .int .i64 q'] 23).more #[.int .i64 s2, .int .i64 q2] 23)
  have hs : (w.alloc (.cells #[.int .i64 s, .int .i64 q] 23)).heap.size = w.heap.size + 1 := by simp
  have hs2 : ((w.alloc (.cells #[.int .i64 s, .int .i64 q] 23)).alloc (.cells #[.int .i64 s', .int .i64 q'] 23)).heap.size = w.heap.size + 2 := by simp
  rw [hs, hs2] at H
  clear hs hs2
  have cAB := fun W => tLess_any s q s' q' W
  have cBA := fun W => tLess_any s' q' s q W
  have cAA := fun W => tLess_any s q s q W
  have cBC := fun W => tLess_any s' q' s2 q2 W
  have cAC := fun W => tLess_any s q s2 q2 W
  rw [lessId_self] at cAA
  obtain ⟨a0, a1⟩ := (H.out.get 2 _ _ _ rfl).two
  obtain ⟨b0, b1⟩ := (H.out.get 1 _ _ _ rfl).two
  obtain ⟨d0, d1⟩ := (H.out.get 0 _ _ _ rfl).two
  cases hab : lessId (s, q) (s', q')
  · rw [hab] at cAB
    cases hba : lessId (s', q') (s, q)
    · obtain ⟨e1, e2⟩ := Prod.mk.inj (lessId_none hab hba)
      rw [hba] at cBA
      have p1 : (s == s') = true := by simpa using e1
      have p2 : (q == q') = true := by simpa using e2
      clear hab hba e1 e2 cBC cAC
      go_enter Try.func3, Try.ntmps3
      go_wp2_with (first | (go_at_call 5; ((with_reducible refine (awake8_any _).mono ?_); rintro e w1 ⟨rfl, hb1⟩; replace H := Lib.hid (H.out.below hb1); clear hb1; (clear a0 a1 b0 b1 d0 d1); obtain ⟨a0, a1⟩ := (H.out.get 2 _ _ _ rfl).two; obtain ⟨b0, b1⟩ := (H.out.get 1 _ _ _ rfl).two; obtain ⟨d0, d1⟩ := (H.out.get 0 _ _ _ rfl).two)) | (go_at_call 4; ((with_reducible refine (cAB _).mono ?_); rintro e w1 ⟨rfl, hb1⟩; replace H := Lib.hid (H.out.below hb1); clear hb1; (clear a0 a1 b0 b1 d0 d1); obtain ⟨a0, a1⟩ := (H.out.get 2 _ _ _ rfl).two; obtain ⟨b0, b1⟩ := (H.out.get 1 _ _ _ rfl).two; obtain ⟨d0, d1⟩ := (H.out.get 0 _ _ _ rfl).two)) | (go_at_call 4; ((with_reducible refine (cBA _).mono ?_); rintro e w1 ⟨rfl, hb1⟩; replace H := Lib.hid (H.out.below hb1); clear hb1; (clear a0 a1 b0 b1 d0 d1); obtain ⟨a0, a1⟩ := (H.out.get 2 _ _ _ rfl).two; obtain ⟨b0, b1⟩ := (H.out.get 1 _ _ _ rfl).two; obtain ⟨d0, d1⟩ := (H.out.get 0 _ _ _ rfl).two)) | (go_at_call 4; ((with_reducible refine (cAA _).mono ?_); rintro e w1 ⟨rfl, hb1⟩; replace H := Lib.hid (H.out.below hb1); clear hb1; (clear a0 a1 b0 b1 d0 d1); obtain ⟨a0, a1⟩ := (H.out.get 2 _ _ _ rfl).two; obtain ⟨b0, b1⟩ := (H.out.get 1 _ _ _ rfl).two; obtain ⟨d0, d1⟩ := (H.out.get 0 _ _ _ rfl).two)))
      go_ret
      exact ⟨rfl, H.out.bel⟩
    · rw [hba] at cBA
      clear hab hba cBC cAC
      go_enter Try.func3, Try.ntmps3
      go_wp2_with (first | (go_at_call 5; ((with_reducible refine (awake8_any _).mono ?_); rintro e w1 ⟨rfl, hb1⟩; replace H := Lib.hid (H.out.below hb1); clear hb1; (clear a0 a1 b0 b1 d0 d1); obtain ⟨a0, a1⟩ := (H.out.get 2 _ _ _ rfl).two; obtain ⟨b0, b1⟩ := (H.out.get 1 _ _ _ rfl).two; obtain ⟨d0, d1⟩ := (H.out.get 0 _ _ _ rfl).two)) | (go_at_call 4; ((with_reducible refine (cAB _).mono ?_); rintro e w1 ⟨rfl, hb1⟩; replace H := Lib.hid (H.out.below hb1); clear hb1; (clear a0 a1 b0 b1 d0 d1); obtain ⟨a0, a1⟩ := (H.out.get 2 _ _ _ rfl).two; obtain ⟨b0, b1⟩ := (H.out.get 1 _ _ _ rfl).two; obtain ⟨d0, d1⟩ := (H.out.get 0 _ _ _ rfl).two)) | (go_at_call 4; ((with_reducible refine (cBA _).mono ?_); rintro e w1 ⟨rfl, hb1⟩; replace H := Lib.hid (H.out.below hb1); clear hb1; (clear a0 a1 b0 b1 d0 d1); obtain ⟨a0, a1⟩ := (H.out.get 2 _ _ _ rfl).two; obtain ⟨b0, b1⟩ := (H.out.get 1 _ _ _ rfl).two; obtain ⟨d0, d1⟩ := (H.out.get 0 _ _ _ rfl).two)) | (go_at_call 4; ((with_reducible refine (cAA _).mono ?_); rintro e w1 ⟨rfl, hb1⟩; replace H := Lib.hid (H.out.below hb1); clear hb1; (clear a0 a1 b0 b1 d0 d1); obtain ⟨a0, a1⟩ := (H.out.get 2 _ _ _ rfl).two; obtain ⟨b0, b1⟩ := (H.out.get 1 _ _ _ rfl).two; obtain ⟨d0, d1⟩ := (H.out.get 0 _ _ _ rfl).two)))
      go_ret
      exact ⟨rfl, H.out.bel⟩
  · rw [hab] at cAB
    rw [lessId_asym hab] at cBA
    cases hbc : lessId (s', q') (s2, q2)
    · rw [hbc] at cBC
      clear hab hbc cAC
      go_enter Try.func3, Try.ntmps3
      go_wp2_with (first | (go_at_call 5; ((with_reducible refine (awake8_any _).mono ?_); rintro e w1 ⟨rfl, hb1⟩; replace H := Lib.hid (H.out.below hb1); clear hb1; (clear a0 a1 b0 b1 d0 d1); obtain ⟨a0, a1⟩ := (H.out.get 2 _ _ _ rfl).two; obtain ⟨b0, b1⟩ := (H.out.get 1 _ _ _ rfl).two; obtain ⟨d0, d1⟩ := (H.out.get 0 _ _ _ rfl).two)) | (go_at_call 4; ((with_reducible refine (cAB _).mono ?_); rintro e w1 ⟨rfl, hb1⟩; replace H := Lib.hid (H.out.below hb1); clear hb1; (clear a0 a1 b0 b1 d0 d1); obtain ⟨a0, a1⟩ := (H.out.get 2 _ _ _ rfl).two; obtain ⟨b0, b1⟩ := (H.out.get 1 _ _ _ rfl).two; obtain ⟨d0, d1⟩ := (H.out.get 0 _ _ _ rfl).two)) | (go_at_call 4; ((with_reducible refine (cBA _).mono ?_); rintro e w1 ⟨rfl, hb1⟩; replace H := Lib.hid (H.out.below hb1); clear hb1; (clear a0 a1 b0 b1 d0 d1); obtain ⟨a0, a1⟩ := (H.out.get 2 _ _ _ rfl).two; obtain ⟨b0, b1⟩ := (H.out.get 1 _ _ _ rfl).two; obtain ⟨d0, d1⟩ := (H.out.get 0 _ _ _ rfl).two)) | (go_at_call 4; ((with_reducible refine (cAA _).mono ?_); rintro e w1 ⟨rfl, hb1⟩; replace H := Lib.hid (H.out.below hb1); clear hb1; (clear a0 a1 b0 b1 d0 d1); obtain ⟨a0, a1⟩ := (H.out.get 2 _ _ _ rfl).two; obtain ⟨b0, b1⟩ := (H.out.get 1 _ _ _ rfl).two; obtain ⟨d0, d1⟩ := (H.out.get 0 _ _ _ rfl).two)) | (go_at_call 4; ((with_reducible refine (cBC _).mono ?_); rintro e w1 ⟨rfl, hb1⟩; replace H := Lib.hid (H.out.below hb1); clear hb1; (clear a0 a1 b0 b1 d0 d1); obtain ⟨a0, a1⟩ := (H.out.get 2 _ _ _ rfl).two; obtain ⟨b0, b1⟩ := (H.out.get 1 _ _ _ rfl).two; obtain ⟨d0, d1⟩ := (H.out.get 0 _ _ _ rfl).two)))
      go_ret
      exact ⟨rfl, H.out.bel⟩
    · rw [hbc] at cBC
      rw [lessId_trans hab hbc] at cAC
      clear hab hbc
      go_enter Try.func3, Try.ntmps3
      go_wp2_with (first | (go_at_call 5; ((with_reducible refine (awake8_any _).mono ?_); rintro e w1 ⟨rfl, hb1⟩; replace H := Lib.hid (H.out.below hb1); clear hb1; (clear a0 a1 b0 b1 d0 d1); obtain ⟨a0, a1⟩ := (H.out.get 2 _ _ _ rfl).two; obtain ⟨b0, b1⟩ := (H.out.get 1 _ _ _ rfl).two; obtain ⟨d0, d1⟩ := (H.out.get 0 _ _ _ rfl).two)) | (go_at_call 4; ((with_reducible refine (cAB _).mono ?_); rintro e w1 ⟨rfl, hb1⟩; replace H := Lib.hid (H.out.below hb1); clear hb1; (clear a0 a1 b0 b1 d0 d1); obtain ⟨a0, a1⟩ := (H.out.get 2 _ _ _ rfl).two; obtain ⟨b0, b1⟩ := (H.out.get 1 _ _ _ rfl).two; obtain ⟨d0, d1⟩ := (H.out.get 0 _ _ _ rfl).two)) | (go_at_call 4; ((with_reducible refine (cBA _).mono ?_); rintro e w1 ⟨rfl, hb1⟩; replace H := Lib.hid (H.out.below hb1); clear hb1; (clear a0 a1 b0 b1 d0 d1); obtain ⟨a0, a1⟩ := (H.out.get 2 _ _ _ rfl).two; obtain ⟨b0, b1⟩ := (H.out.get 1 _ _ _ rfl).two; obtain ⟨d0, d1⟩ := (H.out.get 0 _ _ _ rfl).two)) | (go_at_call 4; ((with_reducible refine (cAA _).mono ?_); rintro e w1 ⟨rfl, hb1⟩; replace H := Lib.hid (H.out.below hb1); clear hb1; (clear a0 a1 b0 b1 d0 d1); obtain ⟨a0, a1⟩ := (H.out.get 2 _ _ _ rfl).two; obtain ⟨b0, b1⟩ := (H.out.get 1 _ _ _ rfl).two; obtain ⟨d0, d1⟩ := (H.out.get 0 _ _ _ rfl).two)) | (go_at_call 4; ((with_reducible refine (cBC _).mono ?_); rintro e w1 ⟨rfl, hb1⟩; replace H := Lib.hid (H.out.below hb1); clear hb1; (clear a0 a1 b0 b1 d0 d1); obtain ⟨a0, a1⟩ := (H.out.get 2 _ _ _ rfl).two; obtain ⟨b0, b1⟩ := (H.out.get 1 _ _ _ rfl).two; obtain ⟨d0, d1⟩ := (H.out.get 0 _ _ _ rfl).two)) | (go_at_call 4; ((with_reducible refine (cAC _).mono ?_); rintro e w1 ⟨rfl, hb1⟩; replace H := Lib.hid (H.out.below hb1); clear hb1; (clear a0 a1 b0 b1 d0 d1); obtain ⟨a0, a1⟩ := (H.out.get 2 _ _ _ rfl).two; obtain ⟨b0, b1⟩ := (H.out.get 1 _ _ _ rfl).two; obtain ⟨d0, d1⟩ := (H.out.get 0 _ _ _ rfl).two)))
      go_ret
      exact ⟨rfl, H.out.bel⟩
end Go.Proofs.Ytlkgpajpblhkeaa
