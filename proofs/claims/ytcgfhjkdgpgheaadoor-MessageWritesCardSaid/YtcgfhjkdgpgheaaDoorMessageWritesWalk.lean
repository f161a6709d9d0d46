/- The walk of the statement MessageWrites. Conditions: the message's lists lie in memory; the tables of utf8 lie there. -/
import Derived.Test.YtcgfhjkdgpgheaaDoorMessageFormsWalk
import Derived.Test.YtcgfhjkdgpgheaaDoorMessageRefWrite
namespace Go.Proofs.YtcgfhjkdgpgheaaDoor

open Go.RowKit

set_option linter.unusedVariables false

/-- Bytes, told well; none, told ill. -/
def WrY (w : World) (l : List UInt8) (z : Int) (e : Ending) (w' : World) : Prop := ∃ a n c, e = .returned (.tuple #[.slice a n c, .int .i64 z]) ∧ w'.ownsRow w.heap.size 5 1 (.slice a n c) n (bcells l) ∧ Below w.heap.size w w'
theorem same_own (a a' : Option Addr) (n n' c c' B B' : Nat) (l : List UInt8) (W : World) (h : W.ownsRow B 5 1 (.slice a n c) n (bcells l)) (h' : W.ownsRow B' 5 1 (.slice a' n' c') n' (bcells l)) :
    Calls Tryd.prog 19 #[.slice a n c, .slice a' n' c'] W (Says W true) := by
  have mx : ∀ {B n : Nat} {a : Option Addr} {c : Nat}, W.ownsRow B 5 1 (.slice a n c) n (bcells l) → n ≤ maxLen := fun h => by
    obtain ⟨a1, c1, e1, h1, h2, _⟩ := own_form h
    injection e1 with e1 e2 e3
    omega
  exact (same_any a a' n n' c c' _ _ l l W (BAt.of_own h) (BAt.of_own h') (mx h) (mx h')).mono fun _ _ ⟨e1, q, e2⟩ => ⟨by rw [e1, decide_eq_true rfl], by rw [e2]; exact below_drewN q (Below.refl _ _)⟩
theorem own_max {w : World} {B e n : Nat} {a : Option Addr} {c : Nat} {xs : List Value} (h : w.ownsRow B e 1 (.slice a n c) n xs) : n ≤ maxLen := by
  obtain ⟨a1, c1, e1, h1, h2, _⟩ := own_form h
  injection e1 with e1 e2 e3
  omega
set_option maxRecDepth 100000 in
set_option maxHeartbeats 4000000 in
theorem writes10_walk (x : MgM) (L : MgL) (w : World) (h : MgAt w x L) (hU : Tabs w) :
    Calls Tryd.prog 4 #[.agg (mgV x)] w (Says w true) := by
  have H0 := Lib.hid ((Boxs.start w).more (mgV x) 39)
  have cA := fun W (hW : Below w.heap.size w W) => awake10_any W (hU.below hW)
  have cW := fun W (hW : Below w.heap.size w W) => fewG_any x L W (h.later hW)
  have x0 := (H0.out.get 0 _ _ _ rfl).ldG
  cases hf : fewG x L
  · rw [hf] at cW
    clear hf h hU
    go_enter Tryd.func4, Tryd.ntmps4
    go_wp2_with (first | (go_at_call 8; ((with_reducible refine (cA _ H0.out.bel).mono ?_); rintro e w1 ⟨rfl, hb1⟩; have H1 := Lib.hid (H0.out.below hb1); clear x0; have x0 := (H1.out.get 0 _ _ _ rfl).ldG)) | (go_at_call 9; ((with_reducible refine (cW _ H1.out.bel).mono ?_); rintro e w2 ⟨rfl, hb2⟩; have H2 := Lib.hid (H1.out.below hb2))) | (go_at_call 8; ((with_reducible refine (cA _ H2.out.bel).mono ?_); rintro e w3 ⟨rfl, hb3⟩; have H3 := Lib.hid (H2.out.below hb3))))
    go_ret
    exact ⟨rfl, H3.out.bel⟩
  rw [hf] at cW
  have fx := fewG_F h hf
  have cP := fun W (hW : Below w.heap.size w W) => plain_any x W
  have cG := fun W (hW : Below w.heap.size w W) => gWrite_any x L W (h.later hW) fx (hU.below hW)
  have cR := fun W (hW : Below w.heap.size w W) => rWrite_any (h.later hW) fx
  have key : ∀ l z, (∀ W, Below w.heap.size w W → Calls Tryd.prog 17 #[.agg (mgV x)] W (WrY W l z)) → (∀ W, Below w.heap.size w W → Calls Tryd.prog 18 #[.agg (mgV x)] W (WrY W l z)) → Calls Tryd.prog 4 #[.agg (mgV x)] w (Says w true) := by
    intro l z dG dR
    clear cG cR hf fx h hU
    go_enter Tryd.func4, Tryd.ntmps4
    go_wp2_with (first | (go_at_call 8; ((with_reducible refine (cA _ H0.out.bel).mono ?_); rintro e w1 ⟨rfl, hb1⟩; have H1 := Lib.hid (H0.out.below hb1); clear x0; have x0 := (H1.out.get 0 _ _ _ rfl).ldG)) | (go_at_call 9; ((with_reducible refine (cW _ H1.out.bel).mono ?_); rintro e w2 ⟨rfl, hb2⟩; have H2 := Lib.hid (H1.out.below hb2); clear x0; have x0 := (H2.out.get 0 _ _ _ rfl).ldG)) | (go_at_call 17; ((with_reducible refine (dG _ H2.out.bel).mono ?_); rintro e w3 ⟨a3, n3, c3, rfl, ho3, hb3⟩; have H3 := Lib.hid (H2.out.below hb3); have O3 := Lib.hid ho3; clear x0 ho3; have x0 := (H3.out.get 0 _ _ _ rfl).ldG)) | (go_at_call 12; ((with_reducible refine (cP _ H3.out.bel).mono ?_); rintro e w4 ⟨rfl, hb4⟩; have H4 := Lib.hid (H3.out.below hb4); have O4 := Lib.hid (own_below O3.out hb4))) | (go_at_call 18; ((with_reducible refine (dR _ H4.out.bel).mono ?_); rintro e w5 ⟨a5, n5, c5, rfl, ho5, hb5⟩; have H5 := Lib.hid (H4.out.below hb5); have O5 := Lib.hid (own_below O4.out hb5); have P5 := Lib.hid ho5; clear ho5)) | (go_at_call 19; ((with_reducible refine (same_own a3 a5 n3 n5 c3 c5 _ _ l _ O5.out P5.out).mono ?_); rintro e w6 ⟨rfl, hb6⟩; have H6 := Lib.hid (H5.out.below hb6))))
    go_ret
    exact ⟨rfl, H6.out.bel⟩
  cases hm : formMg (mgT x L)
  · rw [hm] at cG cR
    exact key [] 2 cG cR
  · rw [hm] at cG cR
    exact key (mgB (mgT x L)) 0 cG cR
end Go.Proofs.YtcgfhjkdgpgheaaDoor
