/- The law's walk of NetNil. Condition: the bytes lie in memory. -/
import Derived.Test.YtgdgjgcmglgfmaaNetNil
import Derived.Test.YtgdgjgcmglgfmaaNetOpen
namespace Go.Proofs.Ytgdgjgcmglgfmaa

open Go.RowKit

set_option linter.unusedVariables false
set_option linter.unusedSimpArgs false

theorem BoxC.six {w : World} {g : Nat} {c0 c1 c2 c3 c4 c5 : Value} {t : TypeId} (h : BoxC w g #[c0, c1, c2, c3, c4, c5] t) : w.cell? ⟨g, 0, none⟩ = some c0 ∧ w.cell? ⟨g, 1, none⟩ = some c1 ∧ w.cell? ⟨g, 2, none⟩ = some c2 ∧ w.cell? ⟨g, 3, none⟩ = some c3 ∧ w.cell? ⟨g, 4, none⟩ = some c4 ∧ w.cell? ⟨g, 5, none⟩ = some c5 :=
  ⟨h.cell 0 c0 rfl, h.cell 1 c1 rfl, h.cell 2 c2 rfl, h.cell 3 c3 rfl, h.cell 4 c4 rfl, h.cell 5 c5 rfl⟩

set_option maxRecDepth 100000 in
set_option maxHeartbeats 8000000 in
theorem nil_walk (x : OpM) (W : World) :
    Calls Try.prog 6 #[.agg ⟨opC x⟩] W (Quiet1 W (.bool true)) := by
  have H0 := Lib.hid ((Boxs.start W).more #[.int .i64 x.k, .int .i64 x.f, .int .i64 x.t, .int .i64 x.i, .int .i64 x.j, .slice x.a x.n x.c] 34)
  by_cases hq : x.n ≤ 1000
  · have hd : decide ((x.n : Int) > 1000) = false := decide_eq_false (by omega)
    go_enter Try.func6, Try.ntmps6
    go_wp2_with (first
      | (go_at_call 8; ((with_reducible refine (awake11_any _).mono ?_); rintro e w1 ⟨rfl, hb⟩; have H1 := Lib.hid (H0.out.below hb); clear hb; (try clear y0 y1 y2 y3 y4 y5); obtain ⟨y0, y1, y2, y3, y4, y5⟩ := (H1.out.get 0 _ _ _ rfl).six))
      | (go_at_call 20; ((with_reducible refine (take_nil _ x.f x.t x.i).mono ?_); rintro e w2 ⟨rfl, hb⟩; have H2 := Lib.hid (H1.out.below hb); clear hb; (try clear y0 y1 y2 y3 y4 y5); obtain ⟨y0, y1, y2, y3, y4, y5⟩ := (H2.out.get 0 _ _ _ rfl).six))
      | (go_at_call 18; ((with_reducible refine (send_nil _ x.f x.t x.a x.n x.c).mono ?_); rintro e w3 ⟨rfl, hb⟩; have H3 := Lib.hid (H2.out.below hb); clear hb; (try clear y0 y1 y2 y3 y4 y5); obtain ⟨y0, y1, y2, y3, y4, y5⟩ := (H3.out.get 0 _ _ _ rfl).six))
      | (go_at_call 19; ((with_reducible refine (double_nil _ x.f x.t x.i).mono ?_); rintro e w4 ⟨rfl, hb⟩; have H4 := Lib.hid (H3.out.below hb); clear hb; (try clear y0 y1 y2 y3 y4 y5); obtain ⟨y0, y1, y2, y3, y4, y5⟩ := (H4.out.get 0 _ _ _ rfl).six))
      | (go_at_call 21; ((with_reducible refine (move_nil _ x.f x.t x.i x.j).mono ?_); rintro e w5 ⟨rfl, hb⟩; have H5 := Lib.hid (H4.out.below hb); clear hb; (try clear y0 y1 y2 y3 y4 y5); obtain ⟨y0, y1, y2, y3, y4, y5⟩ := (H5.out.get 0 _ _ _ rfl).six))
      | (go_at_call 22; ((with_reducible refine (clear_nil _ x.t).mono ?_); rintro e w6 ⟨rfl, hb⟩; have H6 := Lib.hid (H5.out.below hb); clear hb; (try clear y0 y1 y2 y3 y4 y5); obtain ⟨y0, y1, y2, y3, y4, y5⟩ := (H6.out.get 0 _ _ _ rfl).six))
      | (go_at_call 12; ((with_reducible refine (count_nil _).mono ?_); rintro e w7 ⟨rfl, hb⟩; have H7 := Lib.hid (H6.out.below hb); clear hb; (try clear y0 y1 y2 y3 y4 y5); obtain ⟨y0, y1, y2, y3, y4, y5⟩ := (H7.out.get 0 _ _ _ rfl).six))
      | (go_at_call 13; ((with_reducible refine (links_nil _).mono ?_); rintro e w8 ⟨rfl, hb⟩; have H8 := Lib.hid (H7.out.below hb); clear hb; (try clear y0 y1 y2 y3 y4 y5); obtain ⟨y0, y1, y2, y3, y4, y5⟩ := (H8.out.get 0 _ _ _ rfl).six))
      | (go_at_call 16; ((with_reducible refine (bags_nil _ x.f x.t).mono ?_); rintro e w9 ⟨rfl, hb⟩; have H9 := Lib.hid (H8.out.below hb); clear hb; (try clear y0 y1 y2 y3 y4 y5); obtain ⟨y0, y1, y2, y3, y4, y5⟩ := (H9.out.get 0 _ _ _ rfl).six)))
    go_ret
    exact ⟨rfl, H9.out.bel⟩
  · have hd : decide ((x.n : Int) > 1000) = true := decide_eq_true (by omega)
    go_enter Try.func6, Try.ntmps6
    go_wp2_with (first
      | (go_at_call 8; ((with_reducible refine (awake11_any _).mono ?_); rintro e w1 ⟨rfl, hb⟩; first | (have H1 := Lib.hid (H0.out.below hb); clear hb H0; obtain ⟨y0, y1, y2, y3, y4, y5⟩ := (H1.out.get 0 _ _ _ rfl).six) | (have H2 := Lib.hid (H1.out.below hb)))))
    go_ret
    exact ⟨rfl, H2.out.bel⟩
end Go.Proofs.Ytgdgjgcmglgfmaa
