/- What the law's act does to both disks: both answer alike, and are alike behind it. Condition: both lie in memory. -/
import Derived.Test.YtclfgkeepmdmjaaDiskTwo

import Derived.Deep.RegionHeld3

import Derived.Deep.RegionLaw

import Derived.Deep.RegionWith

namespace Go.Proofs.Ytclfgkeepmdmjaa

open Go.RowKit

set_option linter.unusedVariables false
set_option linter.unusedSimpArgs false

abbrev FuB (d : Dk) : Prop := d.fuse < 9223372036854775808
theorem FuB.goes {d : Dk} (h : FuB d) : FuB (goesD d) := by
  unfold FuB goesD at *
  split
  · exact h
  · split
    · show d.fuse - 1 < _; omega
    · exact h
theorem FuB.app {d : Dk} {l : List UInt8} (h : FuB d) : FuB (appD d l) := by
  unfold appD
  split
  · exact h
  · split
    · exact h
    · exact h.goes
theorem FuB.syn {d : Dk} (h : FuB d) : FuB (synD d) := by
  unfold synD
  split
  · exact h
  · split
    · exact h.goes
    · exact h.goes
theorem FuB.rep {d : Dk} {l : List UInt8} (h : FuB d) : FuB (repD d l) := by
  unfold repD
  split
  · exact h
  · split
    · exact h
    · split
      · exact h.goes
      · exact h.goes
theorem FuB.fus {d : Dk} {n : Int} (h : n < 9223372036854775808) : FuB (fusD d n) := by show max n (-1) < _; omega
theorem FuB.cut (d : Dk) (n : Int) : FuB (cutD d n) := by show (-1 : Int) < _; decide
abbrev pairC (g h : Nat) : Array Value := #[.pointer (some ⟨g, 0, none⟩), .pointer (some ⟨h, 0, none⟩)]
/-- Both answered alike, and are alike. -/
def ActD (W : World) (pb M : Nat) (e : Ending) (w' : World) : Prop :=
  e = .returned (.bool true) ∧ ∃ g h d, Duo W w' g h d d [(pb, pairC g h, 31)] ∧ BndD d (M + 1000) ∧ FuB d
theorem BoxC.three {w : World} {g : Nat} {c0 c1 c2 : Value} {t : TypeId} (h : BoxC w g #[c0, c1, c2] t) : w.cell? ⟨g, 0, none⟩ = some c0 ∧ w.cell? ⟨g, 1, none⟩ = some c1 ∧ w.cell? ⟨g, 2, none⟩ = some c2 :=
  ⟨h.cell 0 c0 rfl, h.cell 1 c1 rfl, h.cell 2 c2 rfl⟩
theorem ActD.of {W V : World} {pb M : Nat} {e : Ending} {g h : Nat} {d : Dk} {b : Nat × Array Value × TypeId} (he : e = .returned (.bool true)) (T : Duo W V g h d d [(pb, pairC g h, 31), b]) (B : BndD d (M + 1000)) (F : FuB d) : ActD W pb M e V :=
  ⟨he, g, h, d, T.sub _ (fun b hb => by simp at hb; simp [hb]), B, F⟩
theorem Duo.flip {W V : World} {g h : Nat} {d e : Dk} {a b : Nat × Array Value × TypeId} (T : Duo W V g h d e [a, b]) : Duo W V g h d e [b, a] := T.sub _ (fun x hx => by simp at hx ⊢; rcases hx with h | h <;> simp [h])

set_option maxRecDepth 100000 in
set_option maxHeartbeats 4000000 in
theorem act1_any (W V : World) (g h pb M : Nat) (d : Dk) (n : Int) (a : Option Addr) (m c : Nat) (l : List UInt8) (T : Duo W V g h d d [(pb, pairC g h, 31)]) (B : BndD d M) (hM : M ≤ 1000000) (F : FuB d) (hb : BAt W W.heap.size a m l) (hm : m ≤ 1000) (hn1 : -9223372036854775808 ≤ n) (hn2 : n < 9223372036854775808) :
    Calls Try.prog 12 #[.pointer (some ⟨pb, 0, none⟩), .agg #[.int .i64 1, .int .i64 n, .slice a m c]] V (ActD W pb M) := by
  have TT : Hid (Duo W (V.alloc (.cells #[.int .i64 1, .int .i64 n, .slice a m c] 35)) g h d d [(pb, pairC g h, 31), (V.heap.size, #[.int .i64 1, .int .i64 n, .slice a m c], 35)]) := (T.more #[.int .i64 1, .int .i64 n, .slice a m c] 35).flip
  have NE : Hid (pb ≠ V.heap.size) := by have := (T.box 0 _ _ _ rfl).lt; unfold Hid; omega
  have BB : Hid (BndD d 1099511627776) := B.mono (by omega)
  have B0 := Lib.hid B
  have FF := Lib.hid F
  have HB := Lib.hid hb
  have hll : l.length ≤ 1000 := by rw [hb.len]; exact hm
  have HL := Lib.hid hll
  clear T B F hb hll
  go_enter Try.func12, Try.ntmps12
  go_upto_region 3 with fail
  obtain ⟨ob, hob⟩ : ∃ ob, ob = V.heap.size := ⟨_, rfl⟩
  generalize V.alloc (.cells #[.int .i64 1, .int .i64 n, .slice a m c] 35) = V1 at *
  rw [← hob] at TT
  rw [← hob]
  clear hob
  have TD := Lib.hid TT.out.drew
  have z := (TD.out.box 0 _ _ _ rfl).two
  have y := (TD.out.box 1 _ _ _ rfl).three
  have s0 : V1.drew.cell? ⟨pb, 0, none⟩ = some (.pointer (some ⟨g, 0, none⟩)) ∧ V1.drew.cell? ⟨pb, 1, none⟩ = some (.pointer (some ⟨h, 0, none⟩)) ∧ V1.drew.cell? ⟨ob, 2, none⟩ = some (.slice a m c) := ⟨z.1, z.2, y.2.2⟩
  clear z y
  go_region_held3 (fun w' => w'.cell? ⟨pb, 0, none⟩ = some (.pointer (some ⟨g, 0, none⟩)) ∧ w'.cell? ⟨pb, 1, none⟩ = some (.pointer (some ⟨h, 0, none⟩)) ∧ w'.cell? ⟨ob, 2, none⟩ = some (.slice a m c)) (first | exact s0 | exact s1 | exact s2)
    (first | (go_at_call 18; ((with_reducible refine (pAppend (n := m) (c := c) TD.out FF.out BB.out HB.out (by omega)).mono ?_); rintro e w1 ⟨rfl, hT⟩; have T2 := Lib.hid hT; clear hT; have z := (T2.out.box 0 _ _ _ rfl).two; have y := (T2.out.box 1 _ _ _ rfl).three; have s1 : w1.cell? ⟨pb, 0, none⟩ = some (.pointer (some ⟨g, 0, none⟩)) ∧ w1.cell? ⟨pb, 1, none⟩ = some (.pointer (some ⟨h, 0, none⟩)) ∧ w1.cell? ⟨ob, 2, none⟩ = some (.slice a m c) := ⟨z.1, z.2, y.2.2⟩; clear z y)) | (go_at_call 24; ((with_reducible refine (dAppend (n := m) (c := c) T2.out FF.out BB.out HB.out (by omega)).mono ?_); rintro e w2 ⟨rfl, hT⟩; have T3 := Lib.hid hT; clear hT; have z := (T3.out.box 0 _ _ _ rfl).two; have y := (T3.out.box 1 _ _ _ rfl).three; have s2 : w2.cell? ⟨pb, 0, none⟩ = some (.pointer (some ⟨g, 0, none⟩)) ∧ w2.cell? ⟨pb, 1, none⟩ = some (.pointer (some ⟨h, 0, none⟩)) ∧ w2.cell? ⟨ob, 2, none⟩ = some (.slice a m c) := ⟨z.1, z.2, y.2.2⟩; clear z y)))
  go_wp2
  go_ret
  exact ActD.of (by simp) T3.out (B0.out.app HL.out) FF.out.app

set_option maxRecDepth 100000 in
set_option maxHeartbeats 4000000 in
theorem act2_any (W V : World) (g h pb M : Nat) (d : Dk) (n : Int) (a : Option Addr) (m c : Nat) (l : List UInt8) (T : Duo W V g h d d [(pb, pairC g h, 31)]) (B : BndD d M) (hM : M ≤ 1000000) (F : FuB d) (hb : BAt W W.heap.size a m l) (hm : m ≤ 1000) (hn1 : -9223372036854775808 ≤ n) (hn2 : n < 9223372036854775808) :
    Calls Try.prog 12 #[.pointer (some ⟨pb, 0, none⟩), .agg #[.int .i64 2, .int .i64 n, .slice a m c]] V (ActD W pb M) := by
  have TT : Hid (Duo W (V.alloc (.cells #[.int .i64 2, .int .i64 n, .slice a m c] 35)) g h d d [(pb, pairC g h, 31), (V.heap.size, #[.int .i64 2, .int .i64 n, .slice a m c], 35)]) := (T.more #[.int .i64 2, .int .i64 n, .slice a m c] 35).flip
  have NE : Hid (pb ≠ V.heap.size) := by have := (T.box 0 _ _ _ rfl).lt; unfold Hid; omega
  have BB : Hid (BndD d 1099511627776) := B.mono (by omega)
  have B0 := Lib.hid B
  have FF := Lib.hid F
  have HB := Lib.hid hb
  have hll : l.length ≤ 1000 := by rw [hb.len]; exact hm
  have HL := Lib.hid hll
  clear T B F hb hll
  go_enter Try.func12, Try.ntmps12
  go_upto_region 5 with fail
  obtain ⟨ob, hob⟩ : ∃ ob, ob = V.heap.size := ⟨_, rfl⟩
  generalize V.alloc (.cells #[.int .i64 2, .int .i64 n, .slice a m c] 35) = V1 at *
  rw [← hob] at TT
  rw [← hob]
  clear hob
  have TD := Lib.hid TT.out.drew
  have z := (TD.out.box 0 _ _ _ rfl).two
  have y := (TD.out.box 1 _ _ _ rfl).three
  have s0 : V1.drew.cell? ⟨pb, 0, none⟩ = some (.pointer (some ⟨g, 0, none⟩)) ∧ V1.drew.cell? ⟨pb, 1, none⟩ = some (.pointer (some ⟨h, 0, none⟩)) := ⟨z.1, z.2⟩
  clear z y
  go_region_held3 (fun w' => w'.cell? ⟨pb, 0, none⟩ = some (.pointer (some ⟨g, 0, none⟩)) ∧ w'.cell? ⟨pb, 1, none⟩ = some (.pointer (some ⟨h, 0, none⟩))) (first | exact s0 | exact s1 | exact s2)
    (first | (go_at_call 19; ((with_reducible refine (pSync TD.out FF.out).mono ?_); rintro e w1 ⟨rfl, hT⟩; have T2 := Lib.hid hT; clear hT; have z := (T2.out.box 0 _ _ _ rfl).two; have y := (T2.out.box 1 _ _ _ rfl).three; have s1 : w1.cell? ⟨pb, 0, none⟩ = some (.pointer (some ⟨g, 0, none⟩)) ∧ w1.cell? ⟨pb, 1, none⟩ = some (.pointer (some ⟨h, 0, none⟩)) := ⟨z.1, z.2⟩; clear z y)) | (go_at_call 25; ((with_reducible refine (dSync T2.out FF.out BB.out).mono ?_); rintro e w2 ⟨rfl, hT⟩; have T3 := Lib.hid hT; clear hT; have z := (T3.out.box 0 _ _ _ rfl).two; have y := (T3.out.box 1 _ _ _ rfl).three; have s2 : w2.cell? ⟨pb, 0, none⟩ = some (.pointer (some ⟨g, 0, none⟩)) ∧ w2.cell? ⟨pb, 1, none⟩ = some (.pointer (some ⟨h, 0, none⟩)) := ⟨z.1, z.2⟩; clear z y)))
  go_wp2
  go_ret
  exact ActD.of (by simp) T3.out ((B0.out.syn).mono (by omega)) FF.out.syn

set_option maxRecDepth 100000 in
set_option maxHeartbeats 4000000 in
theorem act3_any (W V : World) (g h pb M : Nat) (d : Dk) (n : Int) (a : Option Addr) (m c : Nat) (l : List UInt8) (T : Duo W V g h d d [(pb, pairC g h, 31)]) (B : BndD d M) (hM : M ≤ 1000000) (F : FuB d) (hb : BAt W W.heap.size a m l) (hm : m ≤ 1000) (hn1 : -9223372036854775808 ≤ n) (hn2 : n < 9223372036854775808) :
    Calls Try.prog 12 #[.pointer (some ⟨pb, 0, none⟩), .agg #[.int .i64 3, .int .i64 n, .slice a m c]] V (ActD W pb M) := by
  have TT : Hid (Duo W (V.alloc (.cells #[.int .i64 3, .int .i64 n, .slice a m c] 35)) g h d d [(pb, pairC g h, 31), (V.heap.size, #[.int .i64 3, .int .i64 n, .slice a m c], 35)]) := (T.more #[.int .i64 3, .int .i64 n, .slice a m c] 35).flip
  have NE : Hid (pb ≠ V.heap.size) := by have := (T.box 0 _ _ _ rfl).lt; unfold Hid; omega
  have BB : Hid (BndD d 1099511627776) := B.mono (by omega)
  have B0 := Lib.hid B
  have FF := Lib.hid F
  have HB := Lib.hid hb
  have hll : l.length ≤ 1000 := by rw [hb.len]; exact hm
  have HL := Lib.hid hll
  clear T B F hb hll
  go_enter Try.func12, Try.ntmps12
  go_upto_region 7 with fail
  obtain ⟨ob, hob⟩ : ∃ ob, ob = V.heap.size := ⟨_, rfl⟩
  generalize V.alloc (.cells #[.int .i64 3, .int .i64 n, .slice a m c] 35) = V1 at *
  rw [← hob] at TT
  rw [← hob]
  clear hob
  have TD := Lib.hid TT.out.drew
  have z := (TD.out.box 0 _ _ _ rfl).two
  have y := (TD.out.box 1 _ _ _ rfl).three
  have s0 : V1.drew.cell? ⟨pb, 0, none⟩ = some (.pointer (some ⟨g, 0, none⟩)) ∧ V1.drew.cell? ⟨pb, 1, none⟩ = some (.pointer (some ⟨h, 0, none⟩)) ∧ V1.drew.cell? ⟨ob, 2, none⟩ = some (.slice a m c) := ⟨z.1, z.2, y.2.2⟩
  clear z y
  go_region_held3 (fun w' => w'.cell? ⟨pb, 0, none⟩ = some (.pointer (some ⟨g, 0, none⟩)) ∧ w'.cell? ⟨pb, 1, none⟩ = some (.pointer (some ⟨h, 0, none⟩)) ∧ w'.cell? ⟨ob, 2, none⟩ = some (.slice a m c)) (first | exact s0 | exact s1 | exact s2)
    (first | (go_at_call 23; ((with_reducible refine (pReplace (n := m) (c := c) TD.out FF.out HB.out (by omega)).mono ?_); rintro e w1 ⟨rfl, hT⟩; have T2 := Lib.hid hT; clear hT; have z := (T2.out.box 0 _ _ _ rfl).two; have y := (T2.out.box 1 _ _ _ rfl).three; have s1 : w1.cell? ⟨pb, 0, none⟩ = some (.pointer (some ⟨g, 0, none⟩)) ∧ w1.cell? ⟨pb, 1, none⟩ = some (.pointer (some ⟨h, 0, none⟩)) ∧ w1.cell? ⟨ob, 2, none⟩ = some (.slice a m c) := ⟨z.1, z.2, y.2.2⟩; clear z y)) | (go_at_call 26; ((with_reducible refine (dReplace (n := m) (c := c) T2.out FF.out HB.out (by omega)).mono ?_); rintro e w2 ⟨rfl, hT⟩; have T3 := Lib.hid hT; clear hT; have z := (T3.out.box 0 _ _ _ rfl).two; have y := (T3.out.box 1 _ _ _ rfl).three; have s2 : w2.cell? ⟨pb, 0, none⟩ = some (.pointer (some ⟨g, 0, none⟩)) ∧ w2.cell? ⟨pb, 1, none⟩ = some (.pointer (some ⟨h, 0, none⟩)) ∧ w2.cell? ⟨ob, 2, none⟩ = some (.slice a m c) := ⟨z.1, z.2, y.2.2⟩; clear z y)))
  go_wp2
  go_ret
  exact ActD.of (by simp) T3.out (B0.out.rep HL.out) FF.out.rep

set_option maxRecDepth 100000 in
set_option maxHeartbeats 4000000 in
theorem act4_any (W V : World) (g h pb M : Nat) (d : Dk) (n : Int) (a : Option Addr) (m c : Nat) (l : List UInt8) (T : Duo W V g h d d [(pb, pairC g h, 31)]) (B : BndD d M) (hM : M ≤ 1000000) (F : FuB d) (hb : BAt W W.heap.size a m l) (hm : m ≤ 1000) (hn1 : -9223372036854775808 ≤ n) (hn2 : n < 9223372036854775808) :
    Calls Try.prog 12 #[.pointer (some ⟨pb, 0, none⟩), .agg #[.int .i64 4, .int .i64 n, .slice a m c]] V (ActD W pb M) := by
  have TT : Hid (Duo W (V.alloc (.cells #[.int .i64 4, .int .i64 n, .slice a m c] 35)) g h d d [(pb, pairC g h, 31), (V.heap.size, #[.int .i64 4, .int .i64 n, .slice a m c], 35)]) := (T.more #[.int .i64 4, .int .i64 n, .slice a m c] 35).flip
  have NE : Hid (pb ≠ V.heap.size) := by have := (T.box 0 _ _ _ rfl).lt; unfold Hid; omega
  have BB : Hid (BndD d 1099511627776) := B.mono (by omega)
  have B0 := Lib.hid B
  have FF := Lib.hid F
  have HB := Lib.hid hb
  have hll : l.length ≤ 1000 := by rw [hb.len]; exact hm
  have HL := Lib.hid hll
  clear T B F hb hll
  go_enter Try.func12, Try.ntmps12
  go_upto_region 9 with fail
  obtain ⟨ob, hob⟩ : ∃ ob, ob = V.heap.size := ⟨_, rfl⟩
  generalize V.alloc (.cells #[.int .i64 4, .int .i64 n, .slice a m c] 35) = V1 at *
  rw [← hob] at TT
  rw [← hob]
  clear hob
  have TD := Lib.hid TT.out.drew
  have z := (TD.out.box 0 _ _ _ rfl).two
  have y := (TD.out.box 1 _ _ _ rfl).three
  have s0 : V1.drew.cell? ⟨pb, 0, none⟩ = some (.pointer (some ⟨g, 0, none⟩)) ∧ V1.drew.cell? ⟨ob, 1, none⟩ = some (.int .i64 n) := ⟨z.1, y.2.1⟩
  clear z y
  go_region_held3 (fun w' => w'.cell? ⟨pb, 0, none⟩ = some (.pointer (some ⟨g, 0, none⟩)) ∧ w'.cell? ⟨ob, 1, none⟩ = some (.int .i64 n)) (first | exact s0 | exact s1)
    (first | (go_at_call 22; ((with_reducible refine (pFuse n TD.out).mono ?_); rintro e w1 ⟨rfl, hT⟩; have T2 := Lib.hid hT; clear hT; have z := (T2.out.box 0 _ _ _ rfl).two; have y := (T2.out.box 1 _ _ _ rfl).three; have s1 : w1.cell? ⟨pb, 0, none⟩ = some (.pointer (some ⟨g, 0, none⟩)) ∧ w1.cell? ⟨ob, 1, none⟩ = some (.int .i64 n) := ⟨z.1, y.2.1⟩; clear z y)))
  go_upto_region 10 with fail
  have T3 := Lib.hid T2.out.drew
  obtain ⟨vl, vr, vh, hR⟩ := T3.out.rbox
  obtain ⟨x0, x1, x2, x3, x4, x5, x6⟩ := hR.box.seven
  have z3 := hR.box.frozen 3
  obtain ⟨y0, y1⟩ := (T3.out.box 0 _ _ _ rfl).two
  obtain ⟨u0, u1, u2⟩ := (T3.out.box 1 _ _ _ rfl).three
  have HR : Hid (∀ x : Int, x = max n (-1) → Duo W (w1.drew.setCell ⟨h, 3, none⟩ (.int .i64 x)) g h (fusD d n) (fusD d n) [(pb, pairC g h, 31), (ob, #[.int .i64 4, .int .i64 n, .slice a m c], 35)]) := fun x hx => by subst hx; exact T3.out.dFuse n
  clear hR
  have FN : Hid (n < 9223372036854775808) := hn2
  go_region
  all_goals (try go_wp2)
  all_goals (go_ret; exact ActD.of rfl (HR.out _ (by omega)) ((B0.out.fus n).mono (by omega)) (FuB.fus FN.out))

set_option maxRecDepth 100000 in
set_option maxHeartbeats 4000000 in
theorem act5_any (W V : World) (g h pb M : Nat) (d : Dk) (n : Int) (a : Option Addr) (m c : Nat) (l : List UInt8) (T : Duo W V g h d d [(pb, pairC g h, 31)]) (B : BndD d M) (hM : M ≤ 1000000) (F : FuB d) (hb : BAt W W.heap.size a m l) (hm : m ≤ 1000) (hn1 : -9223372036854775808 ≤ n) (hn2 : n < 9223372036854775808) :
    Calls Try.prog 12 #[.pointer (some ⟨pb, 0, none⟩), .agg #[.int .i64 5, .int .i64 n, .slice a m c]] V (ActD W pb M) := by
  have TT : Hid (Duo W (V.alloc (.cells #[.int .i64 5, .int .i64 n, .slice a m c] 35)) g h d d [(pb, pairC g h, 31), (V.heap.size, #[.int .i64 5, .int .i64 n, .slice a m c], 35)]) := (T.more #[.int .i64 5, .int .i64 n, .slice a m c] 35).flip
  have NE : Hid (pb ≠ V.heap.size) := by have := (T.box 0 _ _ _ rfl).lt; unfold Hid; omega
  have BB : Hid (BndD d 1099511627776) := B.mono (by omega)
  have B0 := Lib.hid B
  have FF := Lib.hid F
  have HB := Lib.hid hb
  have hll : l.length ≤ 1000 := by rw [hb.len]; exact hm
  have HL := Lib.hid hll
  clear T B F hb hll
  go_enter Try.func12, Try.ntmps12
  go_upto_region 12 with fail
  obtain ⟨ob, hob⟩ : ∃ ob, ob = V.heap.size := ⟨_, rfl⟩
  generalize V.alloc (.cells #[.int .i64 5, .int .i64 n, .slice a m c] 35) = V1 at *
  rw [← hob] at TT NE
  rw [← hob]
  clear hob
  have TD := Lib.hid TT.out.drew
  have z := (TD.out.box 0 _ _ _ rfl).two
  have y := (TD.out.box 1 _ _ _ rfl).three
  have s0 : V1.drew.cell? ⟨pb, 0, none⟩ = some (.pointer (some ⟨g, 0, none⟩)) ∧ V1.drew.cell? ⟨ob, 1, none⟩ = some (.int .i64 n) := ⟨z.1, y.2.1⟩
  clear z y
  go_region_held3 (fun w' => w'.cell? ⟨pb, 0, none⟩ = some (.pointer (some ⟨g, 0, none⟩)) ∧ w'.cell? ⟨ob, 1, none⟩ = some (.int .i64 n)) (first | exact s0 | exact s1)
    (first | (go_at_call 20; ((with_reducible refine (pCut n TD.out BB.out hn1 hn2).mono ?_); rintro e w1 ⟨g1, rfl, hT, own1, hpd⟩; have T2 := Lib.hid hT; have P2 := Lib.hid hpd; clear hT hpd; have z := (T2.out.box 0 _ _ _ rfl).two; have y := (T2.out.box 1 _ _ _ rfl).three; have s1 : w1.cell? ⟨pb, 0, none⟩ = some (.pointer (some ⟨g, 0, none⟩)) ∧ w1.cell? ⟨ob, 1, none⟩ = some (.int .i64 n) := ⟨z.1, y.2.1⟩; clear z y)))
  have cD : Calls Try.prog 13 #[.pointer (some ⟨g, 0, none⟩)] w1 fun x w' => x = .returned (.bool true) ∧ w1 = w' := pd_down P2.out
  obtain ⟨y0, y1⟩ := (T2.out.box 0 _ _ _ rfl).two
  obtain ⟨u0, u1, u2⟩ := (T2.out.box 1 _ _ _ rfl).three
  have f0 := (T2.out.box 0 _ _ _ rfl).frozen 0
  go_upto_region 16 with (first | (go_at_call 13; ((with_reducible refine cD.mono ?_); rintro e w2 ⟨rfl, rfl⟩)))
  have T3 : Hid (Duo W (w1.setCell ⟨pb, 0, none⟩ (.pointer (some ⟨g1, 0, none⟩))) g1 h (cutD d n) d [(pb, pairC g1 h, 31), (ob, #[.int .i64 5, .int .i64 n, .slice a m c], 35)]) := T2.out.set (fun b hb => by simp at hb; rw [hb]; exact fun e => NE.out e.symm) 0 _
  generalize w1.setCell ⟨pb, 0, none⟩ (.pointer (some ⟨g1, 0, none⟩)) = w3 at *
  clear y0 y1 u0 u1 u2 f0 cD
  have T3d := Lib.hid T3.out.drew
  obtain ⟨y0, y1⟩ := (T3d.out.box 0 _ _ _ rfl).two
  obtain ⟨u0, u1, u2⟩ := (T3d.out.box 1 _ _ _ rfl).three
  have f1 := (T3d.out.box 0 _ _ _ rfl).frozen 1
  go_region_law (first | (go_simp; go_at_call 27; ((with_reducible refine (dCut n T3d.out BB.out hn1 hn2).mono ?_); rintro e w4 ⟨h1, rfl, hT⟩; have T4 := Lib.hid hT; obtain ⟨t0, t1⟩ := (hT.box 0 _ _ _ rfl).two; have f2 := (hT.box 0 _ _ _ rfl).frozen 1; have T5 : Hid (Duo W (w4.setCell ⟨pb, 1, none⟩ (.pointer (some ⟨h1, 0, none⟩))) g1 h1 (cutD d n) (cutD d n) [(pb, pairC g1 h1, 31), (ob, #[.int .i64 5, .int .i64 n, .slice a m c], 35)]) := hT.set (fun b hb => by simp at hb; rw [hb]; exact fun e => NE.out e.symm) 1 _; clear hT)))
  all_goals (try go_wp2)
  all_goals (go_ret; exact ActD.of rfl T5.out ((B0.out.cut n).mono (by omega)) (FuB.cut d n))

set_option maxRecDepth 100000 in
set_option maxHeartbeats 4000000 in
theorem act0_any (W V : World) (g h pb M : Nat) (d : Dk) (n : Int) (a : Option Addr) (m c : Nat) (l : List UInt8) (k : Int) (hk : k ≠ 1 ∧ k ≠ 2 ∧ k ≠ 3 ∧ k ≠ 4 ∧ k ≠ 5) (T : Duo W V g h d d [(pb, pairC g h, 31)]) (B : BndD d M) (hM : M ≤ 1000000) (F : FuB d) (hb : BAt W W.heap.size a m l) (hm : m ≤ 1000) (hn1 : -9223372036854775808 ≤ n) (hn2 : n < 9223372036854775808) :
    Calls Try.prog 12 #[.pointer (some ⟨pb, 0, none⟩), .agg #[.int .i64 k, .int .i64 n, .slice a m c]] V (ActD W pb M) := by
  have TT : Hid (Duo W (V.alloc (.cells #[.int .i64 k, .int .i64 n, .slice a m c] 35)) g h d d [(pb, pairC g h, 31), (V.heap.size, #[.int .i64 k, .int .i64 n, .slice a m c], 35)]) := (T.more #[.int .i64 k, .int .i64 n, .slice a m c] 35).flip
  have NE : Hid (pb ≠ V.heap.size) := by have := (T.box 0 _ _ _ rfl).lt; unfold Hid; omega
  have BB : Hid (BndD d 1099511627776) := B.mono (by omega)
  have B0 := Lib.hid B
  have FF := Lib.hid F
  have HB := Lib.hid hb
  have hll : l.length ≤ 1000 := by rw [hb.len]; exact hm
  have HL := Lib.hid hll
  clear T B F hb hll
  have y := (TT.out.box 1 _ _ _ rfl).three
  obtain ⟨y0, y1, y2⟩ := y
  have q1 : (k == 1) = false := by simp; exact hk.1
  have q2 : (k == 2) = false := by simp; exact hk.2.1
  have q3 : (k == 3) = false := by simp; exact hk.2.2.1
  have q4 : (k == 4) = false := by simp; exact hk.2.2.2.1
  have q5 : (k == 5) = false := by simp; exact hk.2.2.2.2
  clear hk
  go_enter Try.func12, Try.ntmps12
  go_wp2
  go_ret
  exact ActD.of rfl TT.out (B0.out.mono (by omega)) FF.out

theorem act_any (W V : World) (g h pb M : Nat) (d : Dk) (k n : Int) (a : Option Addr) (m c : Nat) (l : List UInt8) (T : Duo W V g h d d [(pb, pairC g h, 31)]) (B : BndD d M) (hM : M ≤ 1000000) (F : FuB d) (hb : BAt W W.heap.size a m l) (hm : m ≤ 1000) (hn1 : -9223372036854775808 ≤ n) (hn2 : n < 9223372036854775808) :
    Calls Try.prog 12 #[.pointer (some ⟨pb, 0, none⟩), .agg #[.int .i64 k, .int .i64 n, .slice a m c]] V (ActD W pb M) := by
  by_cases h1 : k = 1
  · subst h1; exact act1_any W V g h pb M d n a m c l T B hM F hb hm hn1 hn2
  by_cases h2 : k = 2
  · subst h2; exact act2_any W V g h pb M d n a m c l T B hM F hb hm hn1 hn2
  by_cases h3 : k = 3
  · subst h3; exact act3_any W V g h pb M d n a m c l T B hM F hb hm hn1 hn2
  by_cases h4 : k = 4
  · subst h4; exact act4_any W V g h pb M d n a m c l T B hM F hb hm hn1 hn2
  by_cases h5 : k = 5
  · subst h5; exact act5_any W V g h pb M d n a m c l T B hM F hb hm hn1 hn2
  exact act0_any W V g h pb M d n a m c l k ⟨h1, h2, h3, h4, h5⟩ T B hM F hb hm hn1 hn2
end Go.Proofs.Ytclfgkeepmdmjaa
