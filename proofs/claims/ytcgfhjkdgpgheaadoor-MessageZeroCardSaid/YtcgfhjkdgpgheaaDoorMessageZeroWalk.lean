/- The walk of the statement MessageZero. Conditions: the message's lists lie in memory; the tables of utf8 lie there. -/
import Derived.Test.YtcgfhjkdgpgheaaDoorMessageFormsWalk
import Derived.Test.YtcgfhjkdgpgheaaDoorHB
namespace Go.Proofs.YtcgfhjkdgpgheaaDoor

open Go.RowKit

set_option linter.unusedVariables false

/-- A message in a box that is not formed, unless U. -/
def ZeroR (w : World) (G : Nat) (U : Bool) (W : World) : Prop := Below w.heap.size w W ∧ ∃ (y : MgM) (L' : MgL), BoxC W G (mgV y) 39 ∧ MgAt W y L' ∧ MgF y ∧ (U = false → formMg (mgT y L') = false)
theorem not_form {m : Mg} (h : ¬ FormMg m) : formMg m = false := by
  cases e : formMg m
  · rfl
  · exact absurd ((formMg_iff m).1 e) h
section

variable {w W : World} {x : MgM} {L : MgL} {G : Nat}

theorem bset (hb : Below w.heap.size w W) (hG : w.heap.size < G) (i : Nat) (v : Value) : Below w.heap.size w (W.setCell ⟨G, i, none⟩ v) := hb.setCell (Nat.le_of_lt hG) v
theorem zr_0 (h : MgAt w x L) (hf : MgF x) (hG : w.heap.size < G) (hb : Below w.heap.size w W) (H : BoxC W G (mgV x) 39) (xx : Nat) :
    ZeroR w G (decide (x.k ≤ 5)) ((W.setCell ⟨G, 1, none⟩ (.int .u32 (1 + ((xx : Nat) : Int) % 1000))).setCell ⟨G, 2, none⟩ (.int .i64 0)) := by
  have b := bset (bset hb hG 1 (.int .u32 (1 + ((xx : Nat) : Int) % 1000))) hG 2 (.int .i64 0)
  have e : 1 + ((xx : Nat) : Int) % 1000 = ((1 + xx % 1000 : Nat) : Int) := by omega
  refine ⟨b, {x with br := 1 + xx % 1000, bn := 0}, L, ?_, ?_, ⟨hf.n, hf.m, hf.tn, hf.tm, hf.dn⟩, fun hu => not_form fun F => ?_⟩
  · rw [e]; exact (H.set 1 _).set 2 _
  · have h1 := h.later b
    exact ⟨h1.cm, h1.tx, h1.da, ⟨by show 1 + xx % 1000 < 4294967296; omega, h.nb.vr, h.nb.st, h.nb.ver, h.nb.vb, h.nb.key, h.nb.vt⟩⟩
  · have hk := of_decide_eq_false hu
    have := F.ba0 (show uBal x.k = false by unfold uBal; rw [decide_eq_false (p := x.k ≤ 5) hk, Bool.and_false])
    have := congrArg Prod.fst this
    have e2 : ((1 + xx % 1000 : Nat) : Int) = 0 := this
    omega
theorem zr_1 (h : MgAt w x L) (hf : MgF x) (hG : w.heap.size < G) (hb : Below w.heap.size w W) (H : BoxC W G (mgV x) 39) (xx : Nat) :
    ZeroR w G (x.k == 8) (W.setCell ⟨G, 17, none⟩ (.int .i64 (1 + ((xx : Nat) : Int) % 8))) := by
  have b := bset hb hG 17 (.int .i64 (1 + ((xx : Nat) : Int) % 8))
  refine ⟨b, {x with s := 1 + ((xx : Nat) : Int) % 8}, L, H.set 17 _, ?_, ⟨hf.n, hf.m, hf.tn, hf.tm, hf.dn⟩, fun hu => not_form fun F => ?_⟩
  · have h1 := h.later b
    exact ⟨h1.cm, h1.tx, h1.da, ⟨h.nb.br, h.nb.vr, h.nb.st, h.nb.ver, h.nb.vb, h.nb.key, h.nb.vt⟩⟩
  · have := F.tx0 (show uTxn x.k = false by unfold uTxn; exact hu)
    have := congrArg (fun t : Tx Val => t.id.1) this
    have e2 : 1 + ((xx : Nat) : Int) % 8 = 0 := this
    omega
theorem zr_2 (h : MgAt w x L) (hf : MgF x) (hG : w.heap.size < G) (hb : Below w.heap.size w W) (H : BoxC W G (mgV x) 39) (xx : Nat) (hx : xx < 18446744073709551616) (h0 : xx ≠ 0) :
    ZeroR w G (x.k == 13) (W.setCell ⟨G, 28, none⟩ (.int .u64 ((xx : Nat) : Int))) := by
  have b := bset hb hG 28 (.int .u64 ((xx : Nat) : Int))
  refine ⟨b, {x with ver := xx}, L, H.set 28 _, ?_, ⟨hf.n, hf.m, hf.tn, hf.tm, hf.dn⟩, fun hu => not_form fun F => ?_⟩
  · have h1 := h.later b
    exact ⟨h1.cm, h1.tx, h1.da, ⟨h.nb.br, h.nb.vr, h.nb.st, hx, h.nb.vb, h.nb.key, h.nb.vt⟩⟩
  · exact h0 (F.val.1 (show uVal x.k = false by unfold uVal; exact hu)).1
theorem zr_3 (h : MgAt w x L) (hf : MgF x) (hG : w.heap.size < G) (hb : Below w.heap.size w W) (H : BoxC W G (mgV x) 39) (xx : Nat) :
    ZeroR w G false ((((((((((W.setCell ⟨G, 7, none⟩ (.int .i64 0)).setCell ⟨G, 8, none⟩ (.int .i64 0)).setCell ⟨G, 9, none⟩ (.int .i64 0)).setCell ⟨G, 10, none⟩ (.slice none 0 0)).setCell ⟨G, 11, none⟩ (.slice none 0 0)).setCell ⟨G, 12, none⟩ (.int .i64 0)).setCell ⟨G, 13, none⟩ (.int .i64 0)).setCell ⟨G, 14, none⟩ (.int .i64 (1 + ((xx : Nat) : Int) % 1000))).setCell ⟨G, 15, none⟩ (.int .u64 0)).setCell ⟨G, 16, none⟩ (.bool false)) := by
  have b : Below w.heap.size w ((((((((((W.setCell ⟨G, 7, none⟩ (.int .i64 0)).setCell ⟨G, 8, none⟩ (.int .i64 0)).setCell ⟨G, 9, none⟩ (.int .i64 0)).setCell ⟨G, 10, none⟩ (.slice none 0 0)).setCell ⟨G, 11, none⟩ (.slice none 0 0)).setCell ⟨G, 12, none⟩ (.int .i64 0)).setCell ⟨G, 13, none⟩ (.int .i64 0)).setCell ⟨G, 14, none⟩ (.int .i64 (1 + ((xx : Nat) : Int) % 1000))).setCell ⟨G, 15, none⟩ (.int .u64 0)).setCell ⟨G, 16, none⟩ (.bool false)) :=
    bset (bset (bset (bset (bset (bset (bset (bset (bset (bset hb hG _ _) hG _ _) hG _ _) hG _ _) hG _ _) hG _ _) hG _ _) hG _ _) hG _ _) hG _ _
  have b0 : BoxC (W.setCell ⟨G, 7, none⟩ (.int .i64 0)) G (mgV {x with cm := {x.cm with k := 0}}) 39 := H.set 7 (.int .i64 0)
  have b1 : BoxC ((W.setCell ⟨G, 7, none⟩ (.int .i64 0)).setCell ⟨G, 8, none⟩ (.int .i64 0)) G (mgV {x with cm := {x.cm with k := 0, s := 0}}) 39 := b0.set 8 (.int .i64 0)
  have b2 : BoxC (((W.setCell ⟨G, 7, none⟩ (.int .i64 0)).setCell ⟨G, 8, none⟩ (.int .i64 0)).setCell ⟨G, 9, none⟩ (.int .i64 0)) G (mgV {x with cm := {x.cm with k := 0, s := 0, q := 0}}) 39 := b1.set 9 (.int .i64 0)
  have b3 : BoxC ((((W.setCell ⟨G, 7, none⟩ (.int .i64 0)).setCell ⟨G, 8, none⟩ (.int .i64 0)).setCell ⟨G, 9, none⟩ (.int .i64 0)).setCell ⟨G, 10, none⟩ (.slice none 0 0)) G (mgV {x with cm := {x.cm with k := 0, s := 0, q := 0, a := none, n := 0, c := 0}}) 39 := b2.set 10 (.slice none 0 0)
  have b4 : BoxC (((((W.setCell ⟨G, 7, none⟩ (.int .i64 0)).setCell ⟨G, 8, none⟩ (.int .i64 0)).setCell ⟨G, 9, none⟩ (.int .i64 0)).setCell ⟨G, 10, none⟩ (.slice none 0 0)).setCell ⟨G, 11, none⟩ (.slice none 0 0)) G (mgV {x with cm := {x.cm with k := 0, s := 0, q := 0, a := none, n := 0, c := 0, b := none, m := 0, d := 0}}) 39 := b3.set 11 (.slice none 0 0)
  have b5 : BoxC ((((((W.setCell ⟨G, 7, none⟩ (.int .i64 0)).setCell ⟨G, 8, none⟩ (.int .i64 0)).setCell ⟨G, 9, none⟩ (.int .i64 0)).setCell ⟨G, 10, none⟩ (.slice none 0 0)).setCell ⟨G, 11, none⟩ (.slice none 0 0)).setCell ⟨G, 12, none⟩ (.int .i64 0)) G (mgV {x with cm := {x.cm with k := 0, s := 0, q := 0, a := none, n := 0, c := 0, b := none, m := 0, d := 0, i := 0}}) 39 := b4.set 12 (.int .i64 0)
  have b6 : BoxC (((((((W.setCell ⟨G, 7, none⟩ (.int .i64 0)).setCell ⟨G, 8, none⟩ (.int .i64 0)).setCell ⟨G, 9, none⟩ (.int .i64 0)).setCell ⟨G, 10, none⟩ (.slice none 0 0)).setCell ⟨G, 11, none⟩ (.slice none 0 0)).setCell ⟨G, 12, none⟩ (.int .i64 0)).setCell ⟨G, 13, none⟩ (.int .i64 0)) G (mgV {x with cm := {x.cm with k := 0, s := 0, q := 0, a := none, n := 0, c := 0, b := none, m := 0, d := 0, i := 0, j := 0}}) 39 := b5.set 13 (.int .i64 0)
  have b7 : BoxC ((((((((W.setCell ⟨G, 7, none⟩ (.int .i64 0)).setCell ⟨G, 8, none⟩ (.int .i64 0)).setCell ⟨G, 9, none⟩ (.int .i64 0)).setCell ⟨G, 10, none⟩ (.slice none 0 0)).setCell ⟨G, 11, none⟩ (.slice none 0 0)).setCell ⟨G, 12, none⟩ (.int .i64 0)).setCell ⟨G, 13, none⟩ (.int .i64 0)).setCell ⟨G, 14, none⟩ (.int .i64 (1 + ((xx : Nat) : Int) % 1000))) G (mgV {x with cm := {x.cm with k := 0, s := 0, q := 0, a := none, n := 0, c := 0, b := none, m := 0, d := 0, i := 0, j := 0, g := 1 + ((xx : Nat) : Int) % 1000}}) 39 := b6.set 14 (.int .i64 (1 + ((xx : Nat) : Int) % 1000))
  have b8 : BoxC (((((((((W.setCell ⟨G, 7, none⟩ (.int .i64 0)).setCell ⟨G, 8, none⟩ (.int .i64 0)).setCell ⟨G, 9, none⟩ (.int .i64 0)).setCell ⟨G, 10, none⟩ (.slice none 0 0)).setCell ⟨G, 11, none⟩ (.slice none 0 0)).setCell ⟨G, 12, none⟩ (.int .i64 0)).setCell ⟨G, 13, none⟩ (.int .i64 0)).setCell ⟨G, 14, none⟩ (.int .i64 (1 + ((xx : Nat) : Int) % 1000))).setCell ⟨G, 15, none⟩ (.int .u64 0)) G (mgV {x with cm := {x.cm with k := 0, s := 0, q := 0, a := none, n := 0, c := 0, b := none, m := 0, d := 0, i := 0, j := 0, g := 1 + ((xx : Nat) : Int) % 1000, st := 0}}) 39 := b7.set 15 (.int .u64 0)
  have b9 : BoxC ((((((((((W.setCell ⟨G, 7, none⟩ (.int .i64 0)).setCell ⟨G, 8, none⟩ (.int .i64 0)).setCell ⟨G, 9, none⟩ (.int .i64 0)).setCell ⟨G, 10, none⟩ (.slice none 0 0)).setCell ⟨G, 11, none⟩ (.slice none 0 0)).setCell ⟨G, 12, none⟩ (.int .i64 0)).setCell ⟨G, 13, none⟩ (.int .i64 0)).setCell ⟨G, 14, none⟩ (.int .i64 (1 + ((xx : Nat) : Int) % 1000))).setCell ⟨G, 15, none⟩ (.int .u64 0)).setCell ⟨G, 16, none⟩ (.bool false)) G (mgV {x with cm := {x.cm with k := 0, s := 0, q := 0, a := none, n := 0, c := 0, b := none, m := 0, d := 0, i := 0, j := 0, g := 1 + ((xx : Nat) : Int) % 1000, st := 0, y := false}}) 39 := b8.set 16 (.bool false)
  refine ⟨b, {x with cm := {zeroM with g := 1 + ((xx : Nat) : Int) % 1000}}, {L with rs := [], ws := []}, b9, ?_, ⟨Nat.zero_le _, Nat.zero_le _, hf.tn, hf.tm, hf.dn⟩, fun _ => not_form fun F => ?_⟩
  · have h1 := h.later b
    exact ⟨⟨TxAt.nil, by show 0 < 18446744073709551616; decide⟩, h1.tx, h1.da, ⟨h.nb.br, h.nb.vr, h.nb.st, h.nb.ver, h.nb.vb, h.nb.key, h.nb.vt⟩⟩
  · have hz : ¬ cmT {zeroM with g := 1 + ((xx : Nat) : Int) % 1000} [] [] = zeroC := fun e => by
      have e2 : 1 + ((xx : Nat) : Int) % 1000 = 0 := congrArg Cm.g e
      omega
    cases hu : (x.has || uCmd x.k)
    · exact hz (F.cm0 hu)
    · have h1 := F.cm hu
      have h2 := doc_zero {zeroM with g := 1 + ((xx : Nat) : Int) % 1000} [] [] rfl
      have h3 : formCm (cmT {zeroM with g := 1 + ((xx : Nat) : Int) % 1000} [] []) = true := h1
      rw [h2, sameC_eqB] at h3
      exact hz (eqB_of h3)
theorem zr_4 (h : MgAt w x L) (hf : MgF x) (hG : w.heap.size < G) (hb : Below w.heap.size w W) (H : BoxC W G (mgV x) 39) (xx : Nat) :
    ZeroR w G (decide (12 ≤ x.k) && decide (x.k ≤ 14)) (W.setCell ⟨G, 26, none⟩ (.int .i64 (1 + ((xx : Nat) : Int) % 1000))) := by
  have b := bset hb hG 26 (.int .i64 (1 + ((xx : Nat) : Int) % 1000))
  refine ⟨b, {x with nu := 1 + ((xx : Nat) : Int) % 1000}, L, H.set 26 _, ?_, ⟨hf.n, hf.m, hf.tn, hf.tm, hf.dn⟩, fun hu => not_form fun F => ?_⟩
  · have h1 := h.later b
    exact ⟨h1.cm, h1.tx, h1.da, ⟨h.nb.br, h.nb.vr, h.nb.st, h.nb.ver, h.nb.vb, h.nb.key, h.nb.vt⟩⟩
  · have e2 : 1 + ((xx : Nat) : Int) % 1000 = 0 := F.nu.2.2 hu
    omega
theorem zr_5 (h : MgAt w x L) (hf : MgF x) (hG : w.heap.size < G) (hb : Below w.heap.size w W) (H : BoxC W G (mgV x) 39) (xx : Nat) :
    ZeroR w G (x.k == 15) ((W.setCell ⟨G, 33, none⟩ (.slice (some ⟨W.heap.size, 0, none⟩) 1 1)).alloc (.cells #[.int .u8 (((xx : Nat) : Int) % 256)] 5)) := by
  have b1 := bset hb hG 33 (.slice (some ⟨W.heap.size, 0, none⟩) 1 1)
  have b := b1.alloc b1.size (.cells #[.int .u8 (((xx : Nat) : Int) % 256)] 5)
  have hs : (W.setCell ⟨G, 33, none⟩ (.slice (some ⟨W.heap.size, 0, none⟩) 1 1)).heap.size = W.heap.size := by simp [World.setCell]
  refine ⟨b, {x with da := some ⟨W.heap.size, 0, none⟩, dn := 1, dc := 1}, {L with dl := [UInt8.ofNat (xx % 256)]}, (H.set 33 _).alloc _, ?_, ⟨hf.n, hf.m, hf.tn, hf.tm, by show 1 ≤ 1000000; omega⟩, fun hu => not_form fun F => ?_⟩
  · have h1 := h.later b
    refine ⟨h1.cm, h1.tx, ?_, ⟨h.nb.br, h.nb.vr, h.nb.st, h.nb.ver, h.nb.vb, h.nb.key, h.nb.vt⟩⟩
    have h2 := BAt.one (W.setCell ⟨G, 33, none⟩ (.slice (some ⟨W.heap.size, 0, none⟩) 1 1)) (((xx : Nat) : Int) % 256) (UInt8.ofNat (xx % 256)) 5 (by rw [UInt8.toNat_ofNat']; omega)
    rw [hs] at h2
    exact h2.more (by simp [World.setCell])
  · have := F.data.2 (show uDat x.k = false by unfold uDat; exact hu)
    cases this
end

set_option maxRecDepth 100000 in
set_option maxHeartbeats 8000000 in
theorem zero10_walk (x : MgM) (L : MgL) (k xx : Nat) (w : World) (h : MgAt w x L) (hk : k < 256) (hxx : xx < 18446744073709551616) (hU : Tabs w) :
    Calls Tryd.prog 6 #[.agg (mgV x), .int .u8 ((k : Nat) : Int), .int .u64 ((xx : Nat) : Int)] w (Says w true) := by
  have H0 := Lib.hid ((Boxs.start w).more (mgV x) 39)
  have cA := fun W (hW : Below w.heap.size w W) => awake10_any W (hU.below hW)
  have cW := fun W (hW : Below w.heap.size w W) => fewG_any x L W (h.later hW)
  have x0 := (H0.out.get 0 _ _ _ rfl).ldG
  cases hf : fewG x L
  · rw [hf] at cW
    clear hf h hU
    go_enter Tryd.func6, Tryd.ntmps6
    go_wp2_with (first | (go_at_call 8; ((with_reducible refine (cA _ H0.out.bel).mono ?_); rintro e w1 ⟨rfl, hb1⟩; have H1 := Lib.hid (H0.out.below hb1); clear x0; have x0 := (H1.out.get 0 _ _ _ rfl).ldG)) | (go_at_call 9; ((with_reducible refine (cW _ H1.out.bel).mono ?_); rintro e w2 ⟨rfl, hb2⟩; have H2 := Lib.hid (H1.out.below hb2))) | (go_at_call 8; ((with_reducible refine (cA _ H2.out.bel).mono ?_); rintro e w3 ⟨rfl, hb3⟩; have H3 := Lib.hid (H2.out.below hb3))))
    go_ret
    exact ⟨rfl, H3.out.bel⟩
  rw [hf] at cW
  have fx := fewG_F h hf
  have cF := fun W (hW : Below w.heap.size w W) => gFormed_any x L W (h.later hW) fx (hU.below hW)
  clear hf
  cases hm : formMg (mgT x L)
  · rw [hm] at cF
    clear hm h hU fx
    go_enter Tryd.func6, Tryd.ntmps6
    go_wp2_with (first | (go_at_call 8; ((with_reducible refine (cA _ H0.out.bel).mono ?_); rintro e w1 ⟨rfl, hb1⟩; have H1 := Lib.hid (H0.out.below hb1); clear x0; have x0 := (H1.out.get 0 _ _ _ rfl).ldG)) | (go_at_call 9; ((with_reducible refine (cW _ H1.out.bel).mono ?_); rintro e w2 ⟨rfl, hb2⟩; have H2 := Lib.hid (H1.out.below hb2); clear x0; have x0 := (H2.out.get 0 _ _ _ rfl).ldG)) | (go_at_call 10; ((with_reducible refine (cF _ H2.out.bel).mono ?_); rintro e w3 ⟨rfl, hb3⟩; have H3 := Lib.hid (H2.out.below hb3))) | (go_at_call 8; ((with_reducible refine (cA _ H3.out.bel).mono ?_); rintro e w4 ⟨rfl, hb4⟩; have H4 := Lib.hid (H3.out.below hb4))))
    go_ret
    exact ⟨rfl, H4.out.bel⟩
  rw [hm] at cF
  by_cases h0 : xx = 0
  · have qx : (((xx : Nat) : Int) == 0) = true := by simp only [beq_iff_eq]; omega
    clear hm h hU fx h0
    go_enter Tryd.func6, Tryd.ntmps6
    go_wp2_with (first | (go_at_call 8; ((with_reducible refine (cA _ H0.out.bel).mono ?_); rintro e w1 ⟨rfl, hb1⟩; have H1 := Lib.hid (H0.out.below hb1); clear x0; have x0 := (H1.out.get 0 _ _ _ rfl).ldG)) | (go_at_call 9; ((with_reducible refine (cW _ H1.out.bel).mono ?_); rintro e w2 ⟨rfl, hb2⟩; have H2 := Lib.hid (H1.out.below hb2); clear x0; have x0 := (H2.out.get 0 _ _ _ rfl).ldG)) | (go_at_call 10; ((with_reducible refine (cF _ H2.out.bel).mono ?_); rintro e w3 ⟨rfl, hb3⟩; have H3 := Lib.hid (H2.out.below hb3))) | (go_at_call 8; ((with_reducible refine (cA _ H3.out.bel).mono ?_); rintro e w4 ⟨rfl, hb4⟩; have H4 := Lib.hid (H3.out.below hb4))))
    go_ret
    exact ⟨rfl, H4.out.bel⟩
  have qx : (((xx : Nat) : Int) == 0) = false := by simp only [beq_eq_false_iff_ne, ne_eq]; omega
  have HX := Lib.hid h
  have FX := Lib.hid fx
  have UU := Lib.hid hU
  have Q0 := Lib.hid h0
  have cN : Hid (∀ y L' W, MgAt W y L' → MgF y → Below w.heap.size w W → formMg (mgT y L') = false → Calls Tryd.prog 10 #[.agg (mgV y)] W (Says W false)) := fun y L' W hy hfy hW e => by
    have h1 := gFormed_any y L' W hy hfy (hU.below hW)
    rw [e] at h1; exact h1
  clear h fx hU h0 hm
  have hr : k % 6 = 0 ∨ k % 6 = 1 ∨ k % 6 = 2 ∨ k % 6 = 3 ∨ k % 6 = 4 ∨ k % 6 = 5 := by omega
  rcases hr with hr | hr | hr | hr | hr | hr
  · have r0 : (((k : Nat) : Int) % 6 == 0) = true := by rw [show ((k : Nat) : Int) % 6 = 0 by omega]; decide
    have r1 : (((k : Nat) : Int) % 6 == 1) = false := by rw [show ((k : Nat) : Int) % 6 = 0 by omega]; decide
    have r2 : (((k : Nat) : Int) % 6 == 2) = false := by rw [show ((k : Nat) : Int) % 6 = 0 by omega]; decide
    have r3 : (((k : Nat) : Int) % 6 == 3) = false := by rw [show ((k : Nat) : Int) % 6 = 0 by omega]; decide
    have r4 : (((k : Nat) : Int) % 6 == 4) = false := by rw [show ((k : Nat) : Int) % 6 = 0 by omega]; decide
    have r5 : (((k : Nat) : Int) % 6 == 5) = false := by rw [show ((k : Nat) : Int) % 6 = 0 by omega]; decide
    clear hr
    go_enter Tryd.func6, Tryd.ntmps6
    go_upto_region 3 with (first | (go_at_call 8; ((with_reducible refine (cA _ H0.out.bel).mono ?_); rintro e w1 ⟨rfl, hb1⟩; have H1 := Lib.hid (H0.out.below hb1); clear x0; have x0 := (H1.out.get 0 _ _ _ rfl).ldG)) | (go_at_call 9; ((with_reducible refine (cW _ H1.out.bel).mono ?_); rintro e w2 ⟨rfl, hb2⟩; have H2 := Lib.hid (H1.out.below hb2); clear x0; have x0 := (H2.out.get 0 _ _ _ rfl).ldG)) | (go_at_call 10; ((with_reducible refine (cF _ H2.out.bel).mono ?_); rintro e w3 ⟨rfl, hb3⟩; have H3 := Lib.hid (H2.out.below hb3); clear x0; have x0 := (H3.out.get 0 _ _ _ rfl).ldG)))
    have HZ : Hid (BoxC (w3.alloc (.cells (zeroGV 0) 39)) w3.heap.size (mgV (zeroG 0)) 39) := BoxC.new w3 (zeroGV 0) 39
    go_upto_region 4 with (refine wpList_store_box rfl _ _ rfl w3.heap.size x rfl rfl (zeroG 0) HZ.out ?_)
    have HN := Lib.hid (HZ.out.fill (mgV x))
    have HM : Hid (BoxC ((w3.alloc (.cells (zeroGV 0) 39)).setRow w3.heap.size (mgV x)) w.heap.size (mgV x) 39) := ((H3.out.get 0 _ _ _ rfl).alloc _).only (only_fill _ _ _) (by have := (H3.out.get 0 _ _ _ rfl).lt; omega)
    have hG : w.heap.size < w3.heap.size := (H3.out.get 0 _ _ _ rfl).lt
    have HB : Hid (Below w.heap.size w ((w3.alloc (.cells (zeroGV 0) 39)).setRow w3.heap.size (mgV x))) := by
      have b3 := H3.out.bel
      have b4 := b3.alloc b3.size (.cells (zeroGV 0) 39)
      exact Only.below b4 (only_fill _ _ _) b3.size b4.size
    clear H0 H1 H2 H3 HZ x0 hb1 hb2 hb3 cA cW cF
    generalize (w3.alloc (.cells (zeroGV 0) 39)).setRow w3.heap.size (mgV x) = W4 at *
    generalize w3.heap.size = G at *
    have hne : w.heap.size ≠ G := by omega
    have hGW : G < W4.heap.size := HN.out.lt
    have hwW : w.heap.size < W4.heap.size := by omega
    have x0 : W4.cell? ⟨w.heap.size, 0, none⟩ = some (.int .i64 x.k) := HM.out.cell 0 _ rfl
    have y1 := HN.out.cell 1 _ rfl; have f1 := HN.out.frozen 1; have y2 := HN.out.cell 2 _ rfl; have f2 := HN.out.frozen 2
    have Z := Lib.hid (zr_0 HX.out FX.out hG HB.out HN.out xx)
    go_upto_region 24 with (fail)
    generalize ((W4.setCell ⟨G, 1, none⟩ (.int .u32 (1 + ((xx : Nat) : Int) % 1000))).setCell ⟨G, 2, none⟩ (.int .i64 0)) = W5 at *
    obtain ⟨ZB, y, L', hY, hYM, hYF, hYn⟩ := Z.out
    have YB := Lib.hid ZB
    cases hu : decide (x.k ≤ 5)
    · have cY := cN.out y L' _ hYM hYF ZB (hYn hu)
      have yW := hY.ldG
      clear Z hYM hYF hYn ZB hY
      go_wp2_with (go_at_call 10; ((with_reducible refine (cY).mono ?_); rintro e w6 ⟨rfl, hb6⟩; have B6 : Hid (Below w.heap.size w w6) := YB.out.trans (hb6.mono YB.out.size)))
      go_ret
      exact ⟨rfl, B6.out⟩
    · clear Z hYM hYF hYn ZB hY
      go_wp2
      go_ret
      exact ⟨rfl, YB.out⟩
  · have r0 : (((k : Nat) : Int) % 6 == 0) = false := by rw [show ((k : Nat) : Int) % 6 = 1 by omega]; decide
    have r1 : (((k : Nat) : Int) % 6 == 1) = true := by rw [show ((k : Nat) : Int) % 6 = 1 by omega]; decide
    have r2 : (((k : Nat) : Int) % 6 == 2) = false := by rw [show ((k : Nat) : Int) % 6 = 1 by omega]; decide
    have r3 : (((k : Nat) : Int) % 6 == 3) = false := by rw [show ((k : Nat) : Int) % 6 = 1 by omega]; decide
    have r4 : (((k : Nat) : Int) % 6 == 4) = false := by rw [show ((k : Nat) : Int) % 6 = 1 by omega]; decide
    have r5 : (((k : Nat) : Int) % 6 == 5) = false := by rw [show ((k : Nat) : Int) % 6 = 1 by omega]; decide
    clear hr
    go_enter Tryd.func6, Tryd.ntmps6
    go_upto_region 3 with (first | (go_at_call 8; ((with_reducible refine (cA _ H0.out.bel).mono ?_); rintro e w1 ⟨rfl, hb1⟩; have H1 := Lib.hid (H0.out.below hb1); clear x0; have x0 := (H1.out.get 0 _ _ _ rfl).ldG)) | (go_at_call 9; ((with_reducible refine (cW _ H1.out.bel).mono ?_); rintro e w2 ⟨rfl, hb2⟩; have H2 := Lib.hid (H1.out.below hb2); clear x0; have x0 := (H2.out.get 0 _ _ _ rfl).ldG)) | (go_at_call 10; ((with_reducible refine (cF _ H2.out.bel).mono ?_); rintro e w3 ⟨rfl, hb3⟩; have H3 := Lib.hid (H2.out.below hb3); clear x0; have x0 := (H3.out.get 0 _ _ _ rfl).ldG)))
    have HZ : Hid (BoxC (w3.alloc (.cells (zeroGV 0) 39)) w3.heap.size (mgV (zeroG 0)) 39) := BoxC.new w3 (zeroGV 0) 39
    go_upto_region 4 with (refine wpList_store_box rfl _ _ rfl w3.heap.size x rfl rfl (zeroG 0) HZ.out ?_)
    have HN := Lib.hid (HZ.out.fill (mgV x))
    have HM : Hid (BoxC ((w3.alloc (.cells (zeroGV 0) 39)).setRow w3.heap.size (mgV x)) w.heap.size (mgV x) 39) := ((H3.out.get 0 _ _ _ rfl).alloc _).only (only_fill _ _ _) (by have := (H3.out.get 0 _ _ _ rfl).lt; omega)
    have hG : w.heap.size < w3.heap.size := (H3.out.get 0 _ _ _ rfl).lt
    have HB : Hid (Below w.heap.size w ((w3.alloc (.cells (zeroGV 0) 39)).setRow w3.heap.size (mgV x))) := by
      have b3 := H3.out.bel
      have b4 := b3.alloc b3.size (.cells (zeroGV 0) 39)
      exact Only.below b4 (only_fill _ _ _) b3.size b4.size
    clear H0 H1 H2 H3 HZ x0 hb1 hb2 hb3 cA cW cF
    generalize (w3.alloc (.cells (zeroGV 0) 39)).setRow w3.heap.size (mgV x) = W4 at *
    generalize w3.heap.size = G at *
    have hne : w.heap.size ≠ G := by omega
    have hGW : G < W4.heap.size := HN.out.lt
    have hwW : w.heap.size < W4.heap.size := by omega
    have x0 : W4.cell? ⟨w.heap.size, 0, none⟩ = some (.int .i64 x.k) := HM.out.cell 0 _ rfl
    have y17 := HN.out.cell 17 _ rfl; have f17 := HN.out.frozen 17
    have Z := Lib.hid (zr_1 HX.out FX.out hG HB.out HN.out xx)
    go_upto_region 24 with (fail)
    generalize (W4.setCell ⟨G, 17, none⟩ (.int .i64 (1 + ((xx : Nat) : Int) % 8))) = W5 at *
    obtain ⟨ZB, y, L', hY, hYM, hYF, hYn⟩ := Z.out
    have YB := Lib.hid ZB
    cases hu : (x.k == 8)
    · have cY := cN.out y L' _ hYM hYF ZB (hYn hu)
      have yW := hY.ldG
      clear Z hYM hYF hYn ZB hY
      go_wp2_with (go_at_call 10; ((with_reducible refine (cY).mono ?_); rintro e w6 ⟨rfl, hb6⟩; have B6 : Hid (Below w.heap.size w w6) := YB.out.trans (hb6.mono YB.out.size)))
      go_ret
      exact ⟨rfl, B6.out⟩
    · clear Z hYM hYF hYn ZB hY
      go_wp2
      go_ret
      exact ⟨rfl, YB.out⟩
  · have r0 : (((k : Nat) : Int) % 6 == 0) = false := by rw [show ((k : Nat) : Int) % 6 = 2 by omega]; decide
    have r1 : (((k : Nat) : Int) % 6 == 1) = false := by rw [show ((k : Nat) : Int) % 6 = 2 by omega]; decide
    have r2 : (((k : Nat) : Int) % 6 == 2) = true := by rw [show ((k : Nat) : Int) % 6 = 2 by omega]; decide
    have r3 : (((k : Nat) : Int) % 6 == 3) = false := by rw [show ((k : Nat) : Int) % 6 = 2 by omega]; decide
    have r4 : (((k : Nat) : Int) % 6 == 4) = false := by rw [show ((k : Nat) : Int) % 6 = 2 by omega]; decide
    have r5 : (((k : Nat) : Int) % 6 == 5) = false := by rw [show ((k : Nat) : Int) % 6 = 2 by omega]; decide
    clear hr
    go_enter Tryd.func6, Tryd.ntmps6
    go_upto_region 3 with (first | (go_at_call 8; ((with_reducible refine (cA _ H0.out.bel).mono ?_); rintro e w1 ⟨rfl, hb1⟩; have H1 := Lib.hid (H0.out.below hb1); clear x0; have x0 := (H1.out.get 0 _ _ _ rfl).ldG)) | (go_at_call 9; ((with_reducible refine (cW _ H1.out.bel).mono ?_); rintro e w2 ⟨rfl, hb2⟩; have H2 := Lib.hid (H1.out.below hb2); clear x0; have x0 := (H2.out.get 0 _ _ _ rfl).ldG)) | (go_at_call 10; ((with_reducible refine (cF _ H2.out.bel).mono ?_); rintro e w3 ⟨rfl, hb3⟩; have H3 := Lib.hid (H2.out.below hb3); clear x0; have x0 := (H3.out.get 0 _ _ _ rfl).ldG)))
    have HZ : Hid (BoxC (w3.alloc (.cells (zeroGV 0) 39)) w3.heap.size (mgV (zeroG 0)) 39) := BoxC.new w3 (zeroGV 0) 39
    go_upto_region 4 with (refine wpList_store_box rfl _ _ rfl w3.heap.size x rfl rfl (zeroG 0) HZ.out ?_)
    have HN := Lib.hid (HZ.out.fill (mgV x))
    have HM : Hid (BoxC ((w3.alloc (.cells (zeroGV 0) 39)).setRow w3.heap.size (mgV x)) w.heap.size (mgV x) 39) := ((H3.out.get 0 _ _ _ rfl).alloc _).only (only_fill _ _ _) (by have := (H3.out.get 0 _ _ _ rfl).lt; omega)
    have hG : w.heap.size < w3.heap.size := (H3.out.get 0 _ _ _ rfl).lt
    have HB : Hid (Below w.heap.size w ((w3.alloc (.cells (zeroGV 0) 39)).setRow w3.heap.size (mgV x))) := by
      have b3 := H3.out.bel
      have b4 := b3.alloc b3.size (.cells (zeroGV 0) 39)
      exact Only.below b4 (only_fill _ _ _) b3.size b4.size
    clear H0 H1 H2 H3 HZ x0 hb1 hb2 hb3 cA cW cF
    generalize (w3.alloc (.cells (zeroGV 0) 39)).setRow w3.heap.size (mgV x) = W4 at *
    generalize w3.heap.size = G at *
    have hne : w.heap.size ≠ G := by omega
    have hGW : G < W4.heap.size := HN.out.lt
    have hwW : w.heap.size < W4.heap.size := by omega
    have x0 : W4.cell? ⟨w.heap.size, 0, none⟩ = some (.int .i64 x.k) := HM.out.cell 0 _ rfl
    have y28 := HN.out.cell 28 _ rfl; have f28 := HN.out.frozen 28
    have Z := Lib.hid (zr_2 HX.out FX.out hG HB.out HN.out xx hxx Q0.out)
    go_upto_region 24 with (fail)
    generalize (W4.setCell ⟨G, 28, none⟩ (.int .u64 ((xx : Nat) : Int))) = W5 at *
    obtain ⟨ZB, y, L', hY, hYM, hYF, hYn⟩ := Z.out
    have YB := Lib.hid ZB
    cases hu : (x.k == 13)
    · have cY := cN.out y L' _ hYM hYF ZB (hYn hu)
      have yW := hY.ldG
      clear Z hYM hYF hYn ZB hY
      go_wp2_with (go_at_call 10; ((with_reducible refine (cY).mono ?_); rintro e w6 ⟨rfl, hb6⟩; have B6 : Hid (Below w.heap.size w w6) := YB.out.trans (hb6.mono YB.out.size)))
      go_ret
      exact ⟨rfl, B6.out⟩
    · clear Z hYM hYF hYn ZB hY
      go_wp2
      go_ret
      exact ⟨rfl, YB.out⟩
  · have r0 : (((k : Nat) : Int) % 6 == 0) = false := by rw [show ((k : Nat) : Int) % 6 = 3 by omega]; decide
    have r1 : (((k : Nat) : Int) % 6 == 1) = false := by rw [show ((k : Nat) : Int) % 6 = 3 by omega]; decide
    have r2 : (((k : Nat) : Int) % 6 == 2) = false := by rw [show ((k : Nat) : Int) % 6 = 3 by omega]; decide
    have r3 : (((k : Nat) : Int) % 6 == 3) = true := by rw [show ((k : Nat) : Int) % 6 = 3 by omega]; decide
    have r4 : (((k : Nat) : Int) % 6 == 4) = false := by rw [show ((k : Nat) : Int) % 6 = 3 by omega]; decide
    have r5 : (((k : Nat) : Int) % 6 == 5) = false := by rw [show ((k : Nat) : Int) % 6 = 3 by omega]; decide
    clear hr
    go_enter Tryd.func6, Tryd.ntmps6
    go_upto_region 3 with (first | (go_at_call 8; ((with_reducible refine (cA _ H0.out.bel).mono ?_); rintro e w1 ⟨rfl, hb1⟩; have H1 := Lib.hid (H0.out.below hb1); clear x0; have x0 := (H1.out.get 0 _ _ _ rfl).ldG)) | (go_at_call 9; ((with_reducible refine (cW _ H1.out.bel).mono ?_); rintro e w2 ⟨rfl, hb2⟩; have H2 := Lib.hid (H1.out.below hb2); clear x0; have x0 := (H2.out.get 0 _ _ _ rfl).ldG)) | (go_at_call 10; ((with_reducible refine (cF _ H2.out.bel).mono ?_); rintro e w3 ⟨rfl, hb3⟩; have H3 := Lib.hid (H2.out.below hb3); clear x0; have x0 := (H3.out.get 0 _ _ _ rfl).ldG)))
    have HZ : Hid (BoxC (w3.alloc (.cells (zeroGV 0) 39)) w3.heap.size (mgV (zeroG 0)) 39) := BoxC.new w3 (zeroGV 0) 39
    go_upto_region 4 with (refine wpList_store_box rfl _ _ rfl w3.heap.size x rfl rfl (zeroG 0) HZ.out ?_)
    have HN := Lib.hid (HZ.out.fill (mgV x))
    have HM : Hid (BoxC ((w3.alloc (.cells (zeroGV 0) 39)).setRow w3.heap.size (mgV x)) w.heap.size (mgV x) 39) := ((H3.out.get 0 _ _ _ rfl).alloc _).only (only_fill _ _ _) (by have := (H3.out.get 0 _ _ _ rfl).lt; omega)
    have hG : w.heap.size < w3.heap.size := (H3.out.get 0 _ _ _ rfl).lt
    have HB : Hid (Below w.heap.size w ((w3.alloc (.cells (zeroGV 0) 39)).setRow w3.heap.size (mgV x))) := by
      have b3 := H3.out.bel
      have b4 := b3.alloc b3.size (.cells (zeroGV 0) 39)
      exact Only.below b4 (only_fill _ _ _) b3.size b4.size
    clear H0 H1 H2 H3 HZ x0 hb1 hb2 hb3 cA cW cF
    generalize (w3.alloc (.cells (zeroGV 0) 39)).setRow w3.heap.size (mgV x) = W4 at *
    generalize w3.heap.size = G at *
    have hne : w.heap.size ≠ G := by omega
    have hGW : G < W4.heap.size := HN.out.lt
    have hwW : w.heap.size < W4.heap.size := by omega
    have x0 : W4.cell? ⟨w.heap.size, 0, none⟩ = some (.int .i64 x.k) := HM.out.cell 0 _ rfl
    have y7 := HN.out.cell 7 _ rfl; have f7 := HN.out.frozen 7; have y8 := HN.out.cell 8 _ rfl; have f8 := HN.out.frozen 8; have y9 := HN.out.cell 9 _ rfl; have f9 := HN.out.frozen 9; have y10 := HN.out.cell 10 _ rfl; have f10 := HN.out.frozen 10; have y11 := HN.out.cell 11 _ rfl; have f11 := HN.out.frozen 11; have y12 := HN.out.cell 12 _ rfl; have f12 := HN.out.frozen 12; have y13 := HN.out.cell 13 _ rfl; have f13 := HN.out.frozen 13; have y14 := HN.out.cell 14 _ rfl; have f14 := HN.out.frozen 14; have y15 := HN.out.cell 15 _ rfl; have f15 := HN.out.frozen 15; have y16 := HN.out.cell 16 _ rfl; have f16 := HN.out.frozen 16
    have Z := Lib.hid (zr_3 HX.out FX.out hG HB.out HN.out xx)
    go_upto_region 24 with (fail)
    generalize ((((((((((W4.setCell ⟨G, 7, none⟩ (.int .i64 0)).setCell ⟨G, 8, none⟩ (.int .i64 0)).setCell ⟨G, 9, none⟩ (.int .i64 0)).setCell ⟨G, 10, none⟩ (.slice none 0 0)).setCell ⟨G, 11, none⟩ (.slice none 0 0)).setCell ⟨G, 12, none⟩ (.int .i64 0)).setCell ⟨G, 13, none⟩ (.int .i64 0)).setCell ⟨G, 14, none⟩ (.int .i64 (1 + ((xx : Nat) : Int) % 1000))).setCell ⟨G, 15, none⟩ (.int .u64 0)).setCell ⟨G, 16, none⟩ (.bool false)) = W5 at *
    obtain ⟨ZB, y, L', hY, hYM, hYF, hYn⟩ := Z.out
    have YB := Lib.hid ZB
    have cY := cN.out y L' _ hYM hYF ZB (hYn rfl)
    have yW := hY.ldG
    clear Z hYM hYF hYn ZB hY
    go_wp2_with (go_at_call 10; ((with_reducible refine (cY).mono ?_); rintro e w6 ⟨rfl, hb6⟩; have B6 : Hid (Below w.heap.size w w6) := YB.out.trans (hb6.mono YB.out.size)))
    go_ret
    exact ⟨rfl, B6.out⟩
  · have r0 : (((k : Nat) : Int) % 6 == 0) = false := by rw [show ((k : Nat) : Int) % 6 = 4 by omega]; decide
    have r1 : (((k : Nat) : Int) % 6 == 1) = false := by rw [show ((k : Nat) : Int) % 6 = 4 by omega]; decide
    have r2 : (((k : Nat) : Int) % 6 == 2) = false := by rw [show ((k : Nat) : Int) % 6 = 4 by omega]; decide
    have r3 : (((k : Nat) : Int) % 6 == 3) = false := by rw [show ((k : Nat) : Int) % 6 = 4 by omega]; decide
    have r4 : (((k : Nat) : Int) % 6 == 4) = true := by rw [show ((k : Nat) : Int) % 6 = 4 by omega]; decide
    have r5 : (((k : Nat) : Int) % 6 == 5) = false := by rw [show ((k : Nat) : Int) % 6 = 4 by omega]; decide
    clear hr
    go_enter Tryd.func6, Tryd.ntmps6
    go_upto_region 3 with (first | (go_at_call 8; ((with_reducible refine (cA _ H0.out.bel).mono ?_); rintro e w1 ⟨rfl, hb1⟩; have H1 := Lib.hid (H0.out.below hb1); clear x0; have x0 := (H1.out.get 0 _ _ _ rfl).ldG)) | (go_at_call 9; ((with_reducible refine (cW _ H1.out.bel).mono ?_); rintro e w2 ⟨rfl, hb2⟩; have H2 := Lib.hid (H1.out.below hb2); clear x0; have x0 := (H2.out.get 0 _ _ _ rfl).ldG)) | (go_at_call 10; ((with_reducible refine (cF _ H2.out.bel).mono ?_); rintro e w3 ⟨rfl, hb3⟩; have H3 := Lib.hid (H2.out.below hb3); clear x0; have x0 := (H3.out.get 0 _ _ _ rfl).ldG)))
    have HZ : Hid (BoxC (w3.alloc (.cells (zeroGV 0) 39)) w3.heap.size (mgV (zeroG 0)) 39) := BoxC.new w3 (zeroGV 0) 39
    go_upto_region 4 with (refine wpList_store_box rfl _ _ rfl w3.heap.size x rfl rfl (zeroG 0) HZ.out ?_)
    have HN := Lib.hid (HZ.out.fill (mgV x))
    have HM : Hid (BoxC ((w3.alloc (.cells (zeroGV 0) 39)).setRow w3.heap.size (mgV x)) w.heap.size (mgV x) 39) := ((H3.out.get 0 _ _ _ rfl).alloc _).only (only_fill _ _ _) (by have := (H3.out.get 0 _ _ _ rfl).lt; omega)
    have hG : w.heap.size < w3.heap.size := (H3.out.get 0 _ _ _ rfl).lt
    have HB : Hid (Below w.heap.size w ((w3.alloc (.cells (zeroGV 0) 39)).setRow w3.heap.size (mgV x))) := by
      have b3 := H3.out.bel
      have b4 := b3.alloc b3.size (.cells (zeroGV 0) 39)
      exact Only.below b4 (only_fill _ _ _) b3.size b4.size
    clear H0 H1 H2 H3 HZ x0 hb1 hb2 hb3 cA cW cF
    generalize (w3.alloc (.cells (zeroGV 0) 39)).setRow w3.heap.size (mgV x) = W4 at *
    generalize w3.heap.size = G at *
    have hne : w.heap.size ≠ G := by omega
    have hGW : G < W4.heap.size := HN.out.lt
    have hwW : w.heap.size < W4.heap.size := by omega
    have x0 : W4.cell? ⟨w.heap.size, 0, none⟩ = some (.int .i64 x.k) := HM.out.cell 0 _ rfl
    have y26 := HN.out.cell 26 _ rfl; have f26 := HN.out.frozen 26
    have Z := Lib.hid (zr_4 HX.out FX.out hG HB.out HN.out xx)
    by_cases u1 : 12 ≤ x.k
    · by_cases u2 : x.k ≤ 14
      · clear Z
        go_wp2
        go_ret
        exact ⟨rfl, bset HB.out hG _ _⟩
      · have d2 : decide (x.k ≤ 14) = false := decide_eq_false u2
        rw [d2, Bool.and_false] at Z
        obtain ⟨ZB, y, L', hY, hYM, hYF, hYn⟩ := Z.out
        have cY := cN.out y L' _ hYM hYF ZB (hYn rfl)
        go_upto_region 24 with (fail)
        have YB := Lib.hid ZB
        clear Z hYM hYF hYn ZB
        generalize (W4.setCell ⟨G, 26, none⟩ (.int .i64 (1 + ((xx : Nat) : Int) % 1000))) = W5 at *
        have yW := hY.ldG
        go_wp2_with (go_at_call 10; ((with_reducible refine (cY).mono ?_); rintro e w5 ⟨rfl, hb5⟩; have B5 : Hid (Below w.heap.size w w5) := YB.out.trans (hb5.mono YB.out.size)))
        go_ret
        exact ⟨rfl, B5.out⟩
    · have d1 : decide (12 ≤ x.k) = false := decide_eq_false u1
      rw [d1, Bool.false_and] at Z
      obtain ⟨ZB, y, L', hY, hYM, hYF, hYn⟩ := Z.out
      have cY := cN.out y L' _ hYM hYF ZB (hYn rfl)
      go_upto_region 24 with (fail)
      have YB := Lib.hid ZB
      clear Z hYM hYF hYn ZB
      generalize (W4.setCell ⟨G, 26, none⟩ (.int .i64 (1 + ((xx : Nat) : Int) % 1000))) = W5 at *
      have yW := hY.ldG
      go_wp2_with (go_at_call 10; ((with_reducible refine (cY).mono ?_); rintro e w5 ⟨rfl, hb5⟩; have B5 : Hid (Below w.heap.size w w5) := YB.out.trans (hb5.mono YB.out.size)))
      go_ret
      exact ⟨rfl, B5.out⟩
  · have r0 : (((k : Nat) : Int) % 6 == 0) = false := by rw [show ((k : Nat) : Int) % 6 = 5 by omega]; decide
    have r1 : (((k : Nat) : Int) % 6 == 1) = false := by rw [show ((k : Nat) : Int) % 6 = 5 by omega]; decide
    have r2 : (((k : Nat) : Int) % 6 == 2) = false := by rw [show ((k : Nat) : Int) % 6 = 5 by omega]; decide
    have r3 : (((k : Nat) : Int) % 6 == 3) = false := by rw [show ((k : Nat) : Int) % 6 = 5 by omega]; decide
    have r4 : (((k : Nat) : Int) % 6 == 4) = false := by rw [show ((k : Nat) : Int) % 6 = 5 by omega]; decide
    have r5 : (((k : Nat) : Int) % 6 == 5) = true := by rw [show ((k : Nat) : Int) % 6 = 5 by omega]; decide
    clear hr
    go_enter Tryd.func6, Tryd.ntmps6
    go_upto_region 3 with (first | (go_at_call 8; ((with_reducible refine (cA _ H0.out.bel).mono ?_); rintro e w1 ⟨rfl, hb1⟩; have H1 := Lib.hid (H0.out.below hb1); clear x0; have x0 := (H1.out.get 0 _ _ _ rfl).ldG)) | (go_at_call 9; ((with_reducible refine (cW _ H1.out.bel).mono ?_); rintro e w2 ⟨rfl, hb2⟩; have H2 := Lib.hid (H1.out.below hb2); clear x0; have x0 := (H2.out.get 0 _ _ _ rfl).ldG)) | (go_at_call 10; ((with_reducible refine (cF _ H2.out.bel).mono ?_); rintro e w3 ⟨rfl, hb3⟩; have H3 := Lib.hid (H2.out.below hb3); clear x0; have x0 := (H3.out.get 0 _ _ _ rfl).ldG)))
    have HZ : Hid (BoxC (w3.alloc (.cells (zeroGV 0) 39)) w3.heap.size (mgV (zeroG 0)) 39) := BoxC.new w3 (zeroGV 0) 39
    go_upto_region 4 with (refine wpList_store_box rfl _ _ rfl w3.heap.size x rfl rfl (zeroG 0) HZ.out ?_)
    have HN := Lib.hid (HZ.out.fill (mgV x))
    have HM : Hid (BoxC ((w3.alloc (.cells (zeroGV 0) 39)).setRow w3.heap.size (mgV x)) w.heap.size (mgV x) 39) := ((H3.out.get 0 _ _ _ rfl).alloc _).only (only_fill _ _ _) (by have := (H3.out.get 0 _ _ _ rfl).lt; omega)
    have hG : w.heap.size < w3.heap.size := (H3.out.get 0 _ _ _ rfl).lt
    have HB : Hid (Below w.heap.size w ((w3.alloc (.cells (zeroGV 0) 39)).setRow w3.heap.size (mgV x))) := by
      have b3 := H3.out.bel
      have b4 := b3.alloc b3.size (.cells (zeroGV 0) 39)
      exact Only.below b4 (only_fill _ _ _) b3.size b4.size
    clear H0 H1 H2 H3 HZ x0 hb1 hb2 hb3 cA cW cF
    generalize (w3.alloc (.cells (zeroGV 0) 39)).setRow w3.heap.size (mgV x) = W4 at *
    generalize w3.heap.size = G at *
    have hne : w.heap.size ≠ G := by omega
    have hGW : G < W4.heap.size := HN.out.lt
    have hwW : w.heap.size < W4.heap.size := by omega
    have x0 : W4.cell? ⟨w.heap.size, 0, none⟩ = some (.int .i64 x.k) := HM.out.cell 0 _ rfl
    have y33 := HN.out.cell 33 _ rfl; have f33 := HN.out.frozen 33
    have Z := Lib.hid (zr_5 HX.out FX.out hG HB.out HN.out xx)
    go_upto_region 24 with (fail)
    generalize ((W4.setCell ⟨G, 33, none⟩ (.slice (some ⟨W4.heap.size, 0, none⟩) 1 1)).alloc (.cells #[.int .u8 (((xx : Nat) : Int) % 256)] 5)) = W5 at *
    obtain ⟨ZB, y, L', hY, hYM, hYF, hYn⟩ := Z.out
    have YB := Lib.hid ZB
    cases hu : (x.k == 15)
    · have cY := cN.out y L' _ hYM hYF ZB (hYn hu)
      have yW := hY.ldG
      clear Z hYM hYF hYn ZB hY
      go_wp2_with (go_at_call 10; ((with_reducible refine (cY).mono ?_); rintro e w6 ⟨rfl, hb6⟩; have B6 : Hid (Below w.heap.size w w6) := YB.out.trans (hb6.mono YB.out.size)))
      go_ret
      exact ⟨rfl, B6.out⟩
    · clear Z hYM hYF hYn ZB hY
      go_wp2
      go_ret
      exact ⟨rfl, YB.out⟩
end Go.Proofs.YtcgfhjkdgpgheaaDoor
