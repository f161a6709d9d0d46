/- The law's walk of DiskPlays. Condition: the script lies in memory. -/
import Derived.Test.YtclfgkeepmdmjaaDiskPlaysOpen

import Derived.Test.YtclfgkeepmdmjaaCodeSame

import Derived.Deep.RegionHeld3

import Derived.Deep.RegionWith

namespace Go.Proofs.Ytclfgkeepmdmjaa

open Go.RowKit

set_option linter.unusedVariables false
set_option linter.unusedSimpArgs false

/-- Three cells of the script. -/
def Trd (w : World) (b off : Nat) (x : DoM) : Prop := w.cell? ⟨b, off, none⟩ = some (.int .i64 x.k) ∧ w.cell? ⟨b, off + 1, none⟩ = some (.int .i64 x.n) ∧ w.cell? ⟨b, off + 2, none⟩ = some (.slice x.a x.m x.c)
theorem Trd.below {w w' : World} {b off : Nat} {x : DoM} (h : Trd w b off x) (hb : b < w.heap.size) (H : Below w.heap.size w w') : Trd w' b off x :=
  ⟨(H.cell (p := ⟨b, off, none⟩) hb).trans h.1, (H.cell (p := ⟨b, off + 1, none⟩) hb).trans h.2.1, (H.cell (p := ⟨b, off + 2, none⟩) hb).trans h.2.2⟩
/-- What the law reads of the pair and of the document's disk. -/
def Seen (w : World) (pb g h : Nat) (d : Dk) (al : Option Addr) (cl : Nat) : Prop :=
  w.cell? ⟨pb, 0, none⟩ = some (.pointer (some ⟨g, 0, none⟩)) ∧ w.cell? ⟨pb, 1, none⟩ = some (.pointer (some ⟨h, 0, none⟩)) ∧ w.cell? ⟨h, 4, none⟩ = some (.bool d.down) ∧ w.cell? ⟨h, 1, none⟩ = some (.slice al d.la.length cl)
theorem Duo.seen {W V : World} {g h pb : Nat} {d : Dk} (T : Duo W V g h d d [(pb, pairC g h, 31)]) : ∃ al cl, Seen V pb g h d al cl ∧ ∀ V', Below V.heap.size V V' → Seen V' pb g h d al cl := by
  obtain ⟨vl, vr, vh, hR⟩ := T.rbox
  obtain ⟨al, cl, rfl, _, _⟩ := hR.rl.form
  have key : ∀ V', Below V.heap.size V V' → Seen V' pb g h d al cl := fun V' hb => by
    have z := ((T.later hb).box 0 _ _ _ rfl).two
    have y := (hR.below hb).box.seven
    exact ⟨z.1, z.2, y.2.2.2.2.1, y.2.1⟩
  exact ⟨al, cl, key V (Below.refl _ _), key⟩
theorem Seen.below {w w' : World} {pb g h : Nat} {d : Dk} {al : Option Addr} {cl : Nat} (S : Seen w pb g h d al cl) (H : Below w.heap.size w w') : Seen w' pb g h d al cl :=
  ⟨(H.cell (World.block_lt_of_cell? w _ S.1)).trans S.1, (H.cell (World.block_lt_of_cell? w _ S.2.1)).trans S.2.1, (H.cell (World.block_lt_of_cell? w _ S.2.2.1)).trans S.2.2.1, (H.cell (World.block_lt_of_cell? w _ S.2.2.2)).trans S.2.2.2⟩
/-- The condition may be chosen anew in the midst of a region: what holds with more holds with less. -/
theorem wpAnyH_strong {P : Program} {md : Region.Mode} {ops : Array Oper} {Q : Exit → Act → World → Prop} {S S' : World → Prop} (hs : ∀ w, S' w → S w) : ∀ (fuel : Nat) (listed : Array Bool) (a : Act) (w : World), wpAnyH P md ops Q S' fuel listed a w → wpAnyH P md ops Q S fuel listed a w
  | 0, _, _, _, h => h
  | fuel + 1, _, _, _, h => ⟨h.1, fun i hi => wpOp_mono (fun a' w' h' => ⟨hs _ h'.1, wpAnyH_strong hs fuel _ a' w' h'.2⟩) (h.2 i hi)⟩
theorem bne_self (b : Bool) : (b != b) = false := by cases b <;> rfl

set_option maxRecDepth 100000 in
set_option maxHeartbeats 16000000 in
theorem plays_walk (s : Int) (hs1 : -9223372036854775808 ≤ s) (hs2 : s < 9223372036854775808) (a : Option Addr) (n c : Nat) (xs : List DoM) (W : World) (hl : xs.length = n) (hr : RowAt W W.heap.size a n 3 (xs.flatMap doC)) (hx : ∀ x ∈ xs, DoW W x) (hn : n ≤ maxLen) :
    Calls Try.prog 3 #[.int .i64 s, .slice a n c] W (Quiet2 W (.bool true)) := by
  have cF := fun (w : World) (hb : Below W.heap.size W w) => few12_any a n c xs w hl ((hr.below hb (Nat.le_refl _)).more hb.size) hn
  by_cases hF : FewD xs n
  · rw [decide_eq_true hF] at cF
    have HR := Lib.hid hr
    have HL := Lib.hid hl
    have HX := Lib.hid hx
    have HF := Lib.hid hF
    clear hl hr hx hn hF
    go_enter Try.func3, Try.ntmps3
    go_wp2_with (first
      | (go_at_call 8; ((with_reducible refine (awake12_any _).mono ?_); rintro e w1 ⟨rfl, hb1⟩; have B1 := Lib.hid hb1; clear hb1))
      | (go_at_call 9; ((with_reducible refine (cF _ B1.out).mono ?_); rintro e w2 ⟨rfl, rfl⟩))
      | (go_at_call 10; ((with_reducible refine (new_any s hs2 _).mono ?_); rintro e w3 ⟨rfl, hb3, hd3⟩; have M3 := Lib.hid (And.intro hb3 hd3); clear hb3 hd3))
      | (go_at_call 11; ((with_reducible refine (rnew_any s hs2 _).mono ?_); rintro e w4 ⟨rfl, hb4, hd4⟩; have T4 := Lib.hid ((Duo.made B1.out M3.out.1 M3.out.2 hb4 hd4).more (pairC w1.heap.size w3.heap.size) 31); clear hb4 hd4)))
    obtain ⟨pb, hpb⟩ : ∃ pb, pb = w4.heap.size := ⟨_, rfl⟩
    rw [← hpb] at T4 ⊢
    clear hpb cF
    go_loopw [6] (fun i wr => ∃ (k g h : Nat) (d : Dk), i = .int .i64 k ∧ k ≤ n ∧ Duo W wr g h d d [(pb, pairC g h, 31)] ∧ BndD d (1000 * k) ∧ FuB d) (fun i _ => n - (intOf i).toNat)
    case atStart => exact ⟨0, _, _, _, rfl, Nat.zero_le _, T4.out, (BndD.new s).mono (by omega), show (-1 : Int) < 9223372036854775808 by decide⟩
    case round =>
      obtain ⟨k, g, h, d, rfl, hk, hT, hB, hFu⟩ := hrel
      clear T4 M3
      have T := Lib.hid hT
      have B := Lib.hid hB
      have F := Lib.hid hFu
      have h100 := HF.out.1
      clear hT hB hFu
      by_cases hlt : k < n
      · have hd : decide ((k : Int) < (n : Int)) = true := decide_eq_true (by omega)
        obtain ⟨b, off, rfl, hb, y0, y1, y2⟩ := do_cells HR.out (j := k) (by have := HL.out; omega) (by omega)
        have hin : (k : Int) < (n : Int) := by omega
        have HJ : Hid (k < xs.length) := by have := HL.out; unfold Hid; omega
        have Y : Hid (Trd W b (off + k * 3) (xs[k]'HJ.out)) := ⟨y0, y1, y2⟩
        have OX := Lib.hid (HX.out _ (List.getElem_mem HJ.out))
        have NX := Lib.hid (HF.out.2 _ (List.getElem_mem HJ.out))
        clear y0 y1 y2
        generalize (xs[k]'HJ.out) = x at *
        have cA := fun V1 (T1 : Duo W V1 g h d d [(pb, pairC g h, 31)]) => act_any W V1 g h pb (1000 * k) d x.k x.n x.a x.m x.c x.l T1 B.out (by omega) F.out OX.out.1 NX.out OX.out.2.2.1 OX.out.2.2.2
        have hkM : 1000 * k + 1000 ≤ 1099511627776 := by omega
        go_upto_region 7 with fail
        have TD := Lib.hid T.out.drew
        have s0 : Trd wr.drew b (off + k * 3) x := Y.out.below hb TD.out.bel
        obtain ⟨z0, z1, z2⟩ := s0
        refine wp_region_held_drew (S := fun w' => w'.cell? ⟨b, off + k * 3, none⟩ = some (.int .i64 x.k) ∧ w'.cell? ⟨b, off + k * 3 + 1, none⟩ = some (.int .i64 x.n) ∧ w'.cell? ⟨b, off + k * 3 + 2, none⟩ = some (.slice x.a x.m x.c)) (by kernel_rfl) ⟨z0, z1, z2⟩ (fun hHeld => ?_)
        refine wpAnyH_take (i := 0) (oi := { dst := some 27, op := Op.move (Operand.tmp 5), type := 25, pos := "law.go:69", after := #[], guard := none }) (v := ?v0) rfl (by kernel_rfl) (by kernel_rfl) (by kernel_rfl) (fun _ _ _ h => h) (Or.inl ⟨by rfl, ?hy0⟩) hHeld ?rest0
        case hy0 => (intro w hSw; (try dsimp only at hSw); go_simp; (try (with_reducible rfl)))
        (try simp only [Act.put, List.setIfInBounds_toArray, List.set_cons_zero, List.set_cons_succ])
        refine wpAnyH_take (i := 1) (oi := { dst := some 28, op := Op.move (Operand.tmp 1), type := 22, pos := "law.go:69", after := #[], guard := none }) (v := ?v1) rfl (by kernel_rfl) (by kernel_rfl) (by kernel_rfl) (fun _ _ _ h => h) (Or.inl ⟨by rfl, ?hy1⟩) hHeld ?rest1
        case hy1 => (intro w hSw; (try dsimp only at hSw); go_simp; (try (with_reducible rfl)))
        (try simp only [Act.put, List.setIfInBounds_toArray, List.set_cons_zero, List.set_cons_succ])
        refine wpAnyH_take (i := 2) (oi := { dst := some 29, op := Op.move (Operand.tmp 6), type := 3, pos := "law.go:69", after := #[], guard := none }) (v := ?v2) rfl (by kernel_rfl) (by kernel_rfl) (by kernel_rfl) (fun _ _ _ h => h) (Or.inl ⟨by rfl, ?hy2⟩) hHeld ?rest2
        case hy2 => (intro w hSw; (try dsimp only at hSw); go_simp; (try (with_reducible rfl)))
        (try simp only [Act.put, List.setIfInBounds_toArray, List.set_cons_zero, List.set_cons_succ])
        refine wpAnyH_take (i := 3) (oi := { dst := some 30, op := Op.indexAddr 22 (Operand.tmp 28) (Operand.tmp 29), type := 0, pos := "law.go:69", after := #[{ on := 1, ground := Ground.data }, { on := 2, ground := Ground.data }], guard := none }) (v := ?v3) rfl (by kernel_rfl) (by kernel_rfl) (by kernel_rfl) (fun _ _ _ h => h) (Or.inl ⟨by rfl, ?hy3⟩) hHeld ?rest3
        case hy3 => (intro w hSw; (try dsimp only at hSw); go_simp; (try (with_reducible rfl)))
        (try simp only [Act.put, List.setIfInBounds_toArray, List.set_cons_zero, List.set_cons_succ])
        refine wpAnyH_take (i := 4) (oi := { dst := some 31, op := Op.load 35 (Operand.tmp 30), type := 35, pos := "law.go:69", after := #[{ on := 3, ground := Ground.data }], guard := none }) (v := ?v4) rfl (by kernel_rfl) (by kernel_rfl) (by kernel_rfl) (fun _ _ _ h => h) (Or.inl ⟨by rfl, ?hy4⟩) hHeld ?rest4
        case hy4 => (intro w hSw; (try dsimp only at hSw); go_simp; (try (with_reducible rfl)))
        (try simp only [Act.put, List.setIfInBounds_toArray, List.set_cons_zero, List.set_cons_succ])
        refine wpAnyH_ready (rs := [5]) (by kernel_rfl) (by simp) ?_
        refine AllReadyH.cons (o := { dst := some 32, op := Op.call { callee := Callee.value (Operand.func 12), args := #[Operand.tmp 27, Operand.tmp 31], argTypes := #[25, 35] }, type := 4, pos := "law.go:69", after := #[{ on := 0, ground := Ground.data }, { on := 4, ground := Ground.data }], guard := none }) rfl (fun K hK => ?_) AllReadyH.nil
        go_simp
        (go_at_call 12; ((with_reducible refine (cA _ TD.out).mono ?_); rintro e w3 ⟨rfl, g3, h3, d3, hT3, hB3, hF3⟩; have T3 := Lib.hid hT3; have B3 := Lib.hid (hB3.mono hkM); have C3 := Lib.hid hB3; have F3 := Lib.hid hF3; obtain ⟨al, cl, hS, hS'⟩ := hT3.seen; have S3 := Lib.hid hS'; have G3 := Lib.hid hS; have Y3 := Lib.hid (Y.out.below hb hT3.bel); clear hT3 hB3 hF3 hS' hS))
        refine hK.out _ _ (Y3.out) (fun hHeld => ?_)
        clear hK K
        (try simp only [Act.put, List.setIfInBounds_toArray, List.set_cons_zero, List.set_cons_succ])
        clear hHeld
        have hHeld := G3.out
        unfold Seen at hHeld
        refine wpAnyH_strong (S' := fun w' => (w'.cell? ⟨pb, 0, none⟩ = some (.pointer (some ⟨g3, 0, none⟩)) ∧ w'.cell? ⟨pb, 1, none⟩ = some (.pointer (some ⟨h3, 0, none⟩)) ∧ w'.cell? ⟨h3, 4, none⟩ = some (.bool d3.down) ∧ w'.cell? ⟨h3, 1, none⟩ = some (.slice al d3.la.length cl)) ∧ Trd w' b (off + k * 3) x) (fun w' h => h.2) _ _ _ _ ?_
        replace hHeld := And.intro hHeld Y3.out
        refine wpAnyH_take (i := 6) (oi := { dst := some 33, op := Op.unOp UnOp.not 4 (Operand.tmp 32), type := 4, pos := "law.go:69", after := #[{ on := 5, ground := Ground.data }], guard := none }) (v := ?v6) rfl (by kernel_rfl) (by kernel_rfl) (by kernel_rfl) (fun _ _ _ h => h) (Or.inl ⟨by rfl, ?hy6⟩) hHeld ?rest6
        case hy6 => (intro w hSw; (try dsimp only at hSw); go_simp; (try (with_reducible rfl)))
        (try simp only [Act.put, List.setIfInBounds_toArray, List.set_cons_zero, List.set_cons_succ])
        refine wpAnyH_take (i := 7) (oi := { dst := some 34, op := Op.move (Operand.tmp 33), type := 4, pos := "law.go:69", after := #[{ on := 6, ground := Ground.data }, { on := 5, ground := Ground.chain }], guard := none }) (v := ?v7) rfl (by kernel_rfl) (by kernel_rfl) (by kernel_rfl) (fun _ _ _ h => h) (Or.inl ⟨by rfl, ?hy7⟩) hHeld ?rest7
        case hy7 => (intro w hSw; (try dsimp only at hSw); go_simp; (try (with_reducible rfl)))
        (try simp only [Act.put, List.setIfInBounds_toArray, List.set_cons_zero, List.set_cons_succ])
        refine wpAnyH_take (i := 8) (oi := { dst := some 35, op := Op.move (Operand.tmp 5), type := 25, pos := "law.go:69", after := #[{ on := 7, ground := Ground.guard }], guard := some (7, false) }) (v := ?v8) rfl (by kernel_rfl) (by kernel_rfl) (by kernel_rfl) (fun _ _ _ h => h) (Or.inl ⟨by rfl, ?hy8⟩) hHeld ?rest8
        case hy8 => (intro w hSw; (try dsimp only at hSw); go_simp; (try (with_reducible rfl)))
        (try simp only [Act.put, List.setIfInBounds_toArray, List.set_cons_zero, List.set_cons_succ])
        refine wpAnyH_take (i := 9) (oi := { dst := some 36, op := Op.nilCheck (Operand.tmp 35), type := 0, pos := "law.go:69", after := #[{ on := 8, ground := Ground.data }, { on := 7, ground := Ground.guard }], guard := some (7, false) }) (v := ?v9) rfl (by kernel_rfl) (by kernel_rfl) (by kernel_rfl) (fun _ _ _ h => h) (Or.inl ⟨by rfl, ?hy9⟩) hHeld ?rest9
        case hy9 => (intro w hSw; (try dsimp only at hSw); go_simp; (try (with_reducible rfl)))
        (try simp only [Act.put, List.setIfInBounds_toArray, List.set_cons_zero, List.set_cons_succ])
        refine wpAnyH_take (i := 10) (oi := { dst := some 37, op := Op.fieldAddr 31 (Operand.tmp 36) 0, type := 0, pos := "law.go:69", after := #[{ on := 9, ground := Ground.data }, { on := 7, ground := Ground.guard }], guard := some (7, false) }) (v := ?v10) rfl (by kernel_rfl) (by kernel_rfl) (by kernel_rfl) (fun _ _ _ h => h) (Or.inl ⟨by rfl, ?hy10⟩) hHeld ?rest10
        case hy10 => (intro w hSw; (try dsimp only at hSw); go_simp; (try (with_reducible rfl)))
        (try simp only [Act.put, List.setIfInBounds_toArray, List.set_cons_zero, List.set_cons_succ])
        refine wpAnyH_take (i := 11) (oi := { dst := some 38, op := Op.load 26 (Operand.tmp 37), type := 26, pos := "law.go:69", after := #[{ on := 10, ground := Ground.data }, { on := 7, ground := Ground.guard }], guard := some (7, false) }) (v := ?v11) rfl (by kernel_rfl) (by kernel_rfl) (by kernel_rfl) (fun _ _ _ h => h) (Or.inl ⟨by rfl, ?hy11⟩) hHeld ?rest11
        case hy11 => (intro w hSw; (try dsimp only at hSw); go_simp; (try (with_reducible rfl)))
        (try simp only [Act.put, List.setIfInBounds_toArray, List.set_cons_zero, List.set_cons_succ])
        refine wpAnyH_take (i := 13) (oi := { dst := some 40, op := Op.move (Operand.tmp 5), type := 25, pos := "law.go:69", after := #[{ on := 7, ground := Ground.guard }], guard := some (7, false) }) (v := ?v13) rfl (by kernel_rfl) (by kernel_rfl) (by kernel_rfl) (fun _ _ _ h => h) (Or.inl ⟨by rfl, ?hy13⟩) hHeld ?rest13
        case hy13 => (intro w hSw; (try dsimp only at hSw); go_simp; (try (with_reducible rfl)))
        (try simp only [Act.put, List.setIfInBounds_toArray, List.set_cons_zero, List.set_cons_succ])
        refine wpAnyH_take (i := 14) (oi := { dst := some 41, op := Op.nilCheck (Operand.tmp 40), type := 0, pos := "law.go:69", after := #[{ on := 13, ground := Ground.data }, { on := 7, ground := Ground.guard }], guard := some (7, false) }) (v := ?v14) rfl (by kernel_rfl) (by kernel_rfl) (by kernel_rfl) (fun _ _ _ h => h) (Or.inl ⟨by rfl, ?hy14⟩) hHeld ?rest14
        case hy14 => (intro w hSw; (try dsimp only at hSw); go_simp; (try (with_reducible rfl)))
        (try simp only [Act.put, List.setIfInBounds_toArray, List.set_cons_zero, List.set_cons_succ])
        refine wpAnyH_take (i := 15) (oi := { dst := some 42, op := Op.fieldAddr 31 (Operand.tmp 41) 1, type := 0, pos := "law.go:69", after := #[{ on := 14, ground := Ground.data }, { on := 7, ground := Ground.guard }], guard := some (7, false) }) (v := ?v15) rfl (by kernel_rfl) (by kernel_rfl) (by kernel_rfl) (fun _ _ _ h => h) (Or.inl ⟨by rfl, ?hy15⟩) hHeld ?rest15
        case hy15 => (intro w hSw; (try dsimp only at hSw); go_simp; (try (with_reducible rfl)))
        (try simp only [Act.put, List.setIfInBounds_toArray, List.set_cons_zero, List.set_cons_succ])
        refine wpAnyH_take (i := 16) (oi := { dst := some 43, op := Op.load 28 (Operand.tmp 42), type := 28, pos := "law.go:69", after := #[{ on := 15, ground := Ground.data }, { on := 7, ground := Ground.guard }], guard := some (7, false) }) (v := ?v16) rfl (by kernel_rfl) (by kernel_rfl) (by kernel_rfl) (fun _ _ _ h => h) (Or.inl ⟨by rfl, ?hy16⟩) hHeld ?rest16
        case hy16 => (intro w hSw; (try dsimp only at hSw); go_simp; (try (with_reducible rfl)))
        (try simp only [Act.put, List.setIfInBounds_toArray, List.set_cons_zero, List.set_cons_succ])
        refine wpAnyH_take (i := 17) (oi := { dst := some 44, op := Op.nilCheck (Operand.tmp 43), type := 0, pos := "law.go:69", after := #[{ on := 16, ground := Ground.data }, { on := 7, ground := Ground.guard }], guard := some (7, false) }) (v := ?v17) rfl (by kernel_rfl) (by kernel_rfl) (by kernel_rfl) (fun _ _ _ h => h) (Or.inl ⟨by rfl, ?hy17⟩) hHeld ?rest17
        case hy17 => (intro w hSw; (try dsimp only at hSw); go_simp; (try (with_reducible rfl)))
        (try simp only [Act.put, List.setIfInBounds_toArray, List.set_cons_zero, List.set_cons_succ])
        refine wpAnyH_take (i := 18) (oi := { dst := some 45, op := Op.fieldAddr 37 (Operand.tmp 44) 4, type := 0, pos := "law.go:69", after := #[{ on := 17, ground := Ground.data }, { on := 7, ground := Ground.guard }], guard := some (7, false) }) (v := ?v18) rfl (by kernel_rfl) (by kernel_rfl) (by kernel_rfl) (fun _ _ _ h => h) (Or.inl ⟨by rfl, ?hy18⟩) hHeld ?rest18
        case hy18 => (intro w hSw; (try dsimp only at hSw); go_simp; (try (with_reducible rfl)))
        (try simp only [Act.put, List.setIfInBounds_toArray, List.set_cons_zero, List.set_cons_succ])
        refine wpAnyH_take (i := 19) (oi := { dst := some 46, op := Op.load 4 (Operand.tmp 45), type := 4, pos := "law.go:69", after := #[{ on := 18, ground := Ground.data }, { on := 7, ground := Ground.guard }], guard := some (7, false) }) (v := ?v19) rfl (by kernel_rfl) (by kernel_rfl) (by kernel_rfl) (fun _ _ _ h => h) (Or.inl ⟨by rfl, ?hy19⟩) hHeld ?rest19
        case hy19 => (intro w hSw; (try dsimp only at hSw); go_simp; (try (with_reducible rfl)))
        (try simp only [Act.put, List.setIfInBounds_toArray, List.set_cons_zero, List.set_cons_succ])
        refine wpAnyH_ready (rs := [12]) (by kernel_rfl) (by simp) ?_
        refine AllReadyH.cons (o := { dst := some 39, op := Op.call { callee := Callee.value (Operand.func 13), args := #[Operand.tmp 38], argTypes := #[26] }, type := 4, pos := "law.go:69", after := #[{ on := 11, ground := Ground.data }, { on := 7, ground := Ground.chain }, { on := 7, ground := Ground.guard }], guard := some (7, false) }) rfl (fun K hK => ?_) AllReadyH.nil
        go_simp
        (go_at_call 13; ((with_reducible refine (pDown T3.out).mono ?_); rintro e w4 ⟨rfl, rfl⟩))
        refine hK.out _ _ (hHeld) (fun hHeld => ?_)
        clear hK K
        (try simp only [Act.put, List.setIfInBounds_toArray, List.set_cons_zero, List.set_cons_succ])
        refine wpAnyH_take (i := 20) (oi := { dst := some 47, op := Op.binOp BinOp.neq 4 (Operand.tmp 39) (Operand.tmp 46) 4, type := 4, pos := "law.go:69", after := #[{ on := 12, ground := Ground.data }, { on := 19, ground := Ground.data }, { on := 7, ground := Ground.guard }], guard := some (7, false) }) (v := ?v20) rfl (by kernel_rfl) (by kernel_rfl) (by kernel_rfl) (fun _ _ _ h => h) (Or.inl ⟨by rfl, ?hy20⟩) hHeld ?rest20
        case hy20 => (intro w hSw; (try dsimp only at hSw); go_simp; (try (with_reducible rfl)))
        (try simp only [Act.put, List.setIfInBounds_toArray, List.set_cons_zero, List.set_cons_succ])
        refine wpAnyH_take (i := 21) (oi := { dst := some 48, op := Op.pick (Operand.tmp 34) (Operand.const (Value.bool true)) (Operand.tmp 47), type := 4, pos := "law.go:69", after := #[{ on := 7, ground := Ground.data }, { on := 20, ground := Ground.data }], guard := none }) (v := ?v21) rfl (by kernel_rfl) (by kernel_rfl) (by kernel_rfl) (fun _ _ _ h => h) (Or.inl ⟨by rfl, ?hy21⟩) hHeld ?rest21
        case hy21 => (intro w hSw; (try dsimp only at hSw); go_simp; (try (with_reducible rfl)))
        (try simp only [Act.put, List.setIfInBounds_toArray, List.set_cons_zero, List.set_cons_succ])
        refine wpAnyH_take (i := 22) (oi := { dst := some 49, op := Op.move (Operand.tmp 48), type := 4, pos := "law.go:69", after := #[{ on := 21, ground := Ground.data }, { on := 12, ground := Ground.chain }], guard := none }) (v := ?v22) rfl (by kernel_rfl) (by kernel_rfl) (by kernel_rfl) (fun _ _ _ h => h) (Or.inl ⟨by rfl, ?hy22⟩) hHeld ?rest22
        case hy22 => (intro w hSw; (try dsimp only at hSw); go_simp; (try (with_reducible rfl)))
        (try simp only [Act.put, List.setIfInBounds_toArray, List.set_cons_zero, List.set_cons_succ])
        refine wpAnyH_take (i := 23) (oi := { dst := some 50, op := Op.move (Operand.tmp 5), type := 25, pos := "law.go:69", after := #[{ on := 22, ground := Ground.guard }], guard := some (22, false) }) (v := ?v23) rfl (by kernel_rfl) (by kernel_rfl) (by kernel_rfl) (fun _ _ _ h => h) (Or.inl ⟨by rfl, ?hy23⟩) hHeld ?rest23
        case hy23 => (intro w hSw; (try dsimp only at hSw); go_simp; (try (with_reducible rfl)))
        (try simp only [Act.put, List.setIfInBounds_toArray, List.set_cons_zero, List.set_cons_succ])
        refine wpAnyH_take (i := 24) (oi := { dst := some 51, op := Op.nilCheck (Operand.tmp 50), type := 0, pos := "law.go:69", after := #[{ on := 23, ground := Ground.data }, { on := 22, ground := Ground.guard }], guard := some (22, false) }) (v := ?v24) rfl (by kernel_rfl) (by kernel_rfl) (by kernel_rfl) (fun _ _ _ h => h) (Or.inl ⟨by rfl, ?hy24⟩) hHeld ?rest24
        case hy24 => (intro w hSw; (try dsimp only at hSw); go_simp; (try (with_reducible rfl)))
        (try simp only [Act.put, List.setIfInBounds_toArray, List.set_cons_zero, List.set_cons_succ])
        refine wpAnyH_take (i := 25) (oi := { dst := some 52, op := Op.fieldAddr 31 (Operand.tmp 51) 0, type := 0, pos := "law.go:69", after := #[{ on := 24, ground := Ground.data }, { on := 22, ground := Ground.guard }], guard := some (22, false) }) (v := ?v25) rfl (by kernel_rfl) (by kernel_rfl) (by kernel_rfl) (fun _ _ _ h => h) (Or.inl ⟨by rfl, ?hy25⟩) hHeld ?rest25
        case hy25 => (intro w hSw; (try dsimp only at hSw); go_simp; (try (with_reducible rfl)))
        (try simp only [Act.put, List.setIfInBounds_toArray, List.set_cons_zero, List.set_cons_succ])
        refine wpAnyH_take (i := 26) (oi := { dst := some 53, op := Op.load 26 (Operand.tmp 52), type := 26, pos := "law.go:69", after := #[{ on := 25, ground := Ground.data }, { on := 22, ground := Ground.guard }], guard := some (22, false) }) (v := ?v26) rfl (by kernel_rfl) (by kernel_rfl) (by kernel_rfl) (fun _ _ _ h => h) (Or.inl ⟨by rfl, ?hy26⟩) hHeld ?rest26
        case hy26 => (intro w hSw; (try dsimp only at hSw); go_simp; (try (with_reducible rfl)))
        (try simp only [Act.put, List.setIfInBounds_toArray, List.set_cons_zero, List.set_cons_succ])
        refine wpAnyH_take (i := 28) (oi := { dst := some 55, op := Op.move (Operand.tmp 5), type := 25, pos := "law.go:69", after := #[{ on := 22, ground := Ground.guard }], guard := some (22, false) }) (v := ?v28) rfl (by kernel_rfl) (by kernel_rfl) (by kernel_rfl) (fun _ _ _ h => h) (Or.inl ⟨by rfl, ?hy28⟩) hHeld ?rest28
        case hy28 => (intro w hSw; (try dsimp only at hSw); go_simp; (try (with_reducible rfl)))
        (try simp only [Act.put, List.setIfInBounds_toArray, List.set_cons_zero, List.set_cons_succ])
        refine wpAnyH_take (i := 29) (oi := { dst := some 56, op := Op.nilCheck (Operand.tmp 55), type := 0, pos := "law.go:69", after := #[{ on := 28, ground := Ground.data }, { on := 22, ground := Ground.guard }], guard := some (22, false) }) (v := ?v29) rfl (by kernel_rfl) (by kernel_rfl) (by kernel_rfl) (fun _ _ _ h => h) (Or.inl ⟨by rfl, ?hy29⟩) hHeld ?rest29
        case hy29 => (intro w hSw; (try dsimp only at hSw); go_simp; (try (with_reducible rfl)))
        (try simp only [Act.put, List.setIfInBounds_toArray, List.set_cons_zero, List.set_cons_succ])
        refine wpAnyH_take (i := 30) (oi := { dst := some 57, op := Op.fieldAddr 31 (Operand.tmp 56) 1, type := 0, pos := "law.go:69", after := #[{ on := 29, ground := Ground.data }, { on := 22, ground := Ground.guard }], guard := some (22, false) }) (v := ?v30) rfl (by kernel_rfl) (by kernel_rfl) (by kernel_rfl) (fun _ _ _ h => h) (Or.inl ⟨by rfl, ?hy30⟩) hHeld ?rest30
        case hy30 => (intro w hSw; (try dsimp only at hSw); go_simp; (try (with_reducible rfl)))
        (try simp only [Act.put, List.setIfInBounds_toArray, List.set_cons_zero, List.set_cons_succ])
        refine wpAnyH_take (i := 31) (oi := { dst := some 58, op := Op.load 28 (Operand.tmp 57), type := 28, pos := "law.go:69", after := #[{ on := 30, ground := Ground.data }, { on := 22, ground := Ground.guard }], guard := some (22, false) }) (v := ?v31) rfl (by kernel_rfl) (by kernel_rfl) (by kernel_rfl) (fun _ _ _ h => h) (Or.inl ⟨by rfl, ?hy31⟩) hHeld ?rest31
        case hy31 => (intro w hSw; (try dsimp only at hSw); go_simp; (try (with_reducible rfl)))
        (try simp only [Act.put, List.setIfInBounds_toArray, List.set_cons_zero, List.set_cons_succ])
        refine wpAnyH_take (i := 32) (oi := { dst := some 59, op := Op.nilCheck (Operand.tmp 58), type := 0, pos := "law.go:69", after := #[{ on := 31, ground := Ground.data }, { on := 22, ground := Ground.guard }], guard := some (22, false) }) (v := ?v32) rfl (by kernel_rfl) (by kernel_rfl) (by kernel_rfl) (fun _ _ _ h => h) (Or.inl ⟨by rfl, ?hy32⟩) hHeld ?rest32
        case hy32 => (intro w hSw; (try dsimp only at hSw); go_simp; (try (with_reducible rfl)))
        (try simp only [Act.put, List.setIfInBounds_toArray, List.set_cons_zero, List.set_cons_succ])
        refine wpAnyH_take (i := 33) (oi := { dst := some 60, op := Op.fieldAddr 37 (Operand.tmp 59) 1, type := 0, pos := "law.go:69", after := #[{ on := 32, ground := Ground.data }, { on := 22, ground := Ground.guard }], guard := some (22, false) }) (v := ?v33) rfl (by kernel_rfl) (by kernel_rfl) (by kernel_rfl) (fun _ _ _ h => h) (Or.inl ⟨by rfl, ?hy33⟩) hHeld ?rest33
        case hy33 => (intro w hSw; (try dsimp only at hSw); go_simp; (try (with_reducible rfl)))
        (try simp only [Act.put, List.setIfInBounds_toArray, List.set_cons_zero, List.set_cons_succ])
        refine wpAnyH_take (i := 34) (oi := { dst := some 61, op := Op.load 33 (Operand.tmp 60), type := 33, pos := "law.go:69", after := #[{ on := 33, ground := Ground.data }, { on := 22, ground := Ground.guard }], guard := some (22, false) }) (v := ?v34) rfl (by kernel_rfl) (by kernel_rfl) (by kernel_rfl) (fun _ _ _ h => h) (Or.inl ⟨by rfl, ?hy34⟩) hHeld ?rest34
        case hy34 => (intro w hSw; (try dsimp only at hSw); go_simp; (try (with_reducible rfl)))
        (try simp only [Act.put, List.setIfInBounds_toArray, List.set_cons_zero, List.set_cons_succ])
        refine wpAnyH_take (i := 35) (oi := { dst := some 62, op := Op.call { callee := Callee.builtin Builtin.len, args := #[Operand.tmp 61], argTypes := #[33] }, type := 3, pos := "law.go:69", after := #[{ on := 34, ground := Ground.data }, { on := 22, ground := Ground.guard }], guard := some (22, false) }) (v := ?v35) rfl (by kernel_rfl) (by kernel_rfl) (by kernel_rfl) (fun _ _ _ h => h) (Or.inl ⟨by rfl, ?hy35⟩) hHeld ?rest35
        case hy35 => (intro w hSw; (try dsimp only at hSw); go_simp; (try (with_reducible rfl)))
        (try simp only [Act.put, List.setIfInBounds_toArray, List.set_cons_zero, List.set_cons_succ])
        refine wpAnyH_ready (rs := [27]) (by kernel_rfl) (by simp) ?_
        refine AllReadyH.cons (o := { dst := some 54, op := Op.call { callee := Callee.value (Operand.func 14), args := #[Operand.tmp 53], argTypes := #[26] }, type := 3, pos := "law.go:69", after := #[{ on := 26, ground := Ground.data }, { on := 22, ground := Ground.chain }, { on := 22, ground := Ground.guard }], guard := some (22, false) }) rfl (fun K hK => ?_) AllReadyH.nil
        go_simp
        (go_at_call 14; ((with_reducible refine (pLasting T3.out).mono ?_); rintro e w4 ⟨rfl, rfl⟩))
        refine hK.out _ _ (hHeld) (fun hHeld => ?_)
        clear hK K
        (try simp only [Act.put, List.setIfInBounds_toArray, List.set_cons_zero, List.set_cons_succ])
        refine wpAnyH_take (i := 36) (oi := { dst := some 63, op := Op.binOp BinOp.neq 3 (Operand.tmp 54) (Operand.tmp 62) 3, type := 4, pos := "law.go:69", after := #[{ on := 27, ground := Ground.data }, { on := 35, ground := Ground.data }, { on := 22, ground := Ground.guard }], guard := some (22, false) }) (v := ?v36) rfl (by kernel_rfl) (by kernel_rfl) (by kernel_rfl) (fun _ _ _ h => h) (Or.inl ⟨by rfl, ?hy36⟩) hHeld ?rest36
        case hy36 => (intro w hSw; (try dsimp only at hSw); go_simp; (try (with_reducible rfl)))
        (try simp only [Act.put, List.setIfInBounds_toArray, List.set_cons_zero, List.set_cons_succ])
        refine wpAnyH_take (i := 37) (oi := { dst := some 64, op := Op.pick (Operand.tmp 49) (Operand.const (Value.bool true)) (Operand.tmp 63), type := 4, pos := "law.go:69", after := #[{ on := 22, ground := Ground.data }, { on := 36, ground := Ground.data }], guard := none }) (v := ?v37) rfl (by kernel_rfl) (by kernel_rfl) (by kernel_rfl) (fun _ _ _ h => h) (Or.inl ⟨by rfl, ?hy37⟩) hHeld ?rest37
        case hy37 => (intro w hSw; (try dsimp only at hSw); go_simp; (try (with_reducible rfl)))
        (try simp only [Act.put, List.setIfInBounds_toArray, List.set_cons_zero, List.set_cons_succ])
        refine wpAnyH_take (i := 38) (oi := { dst := some 65, op := Op.move (Operand.tmp 64), type := 4, pos := "law.go:69", after := #[{ on := 37, ground := Ground.data }, { on := 27, ground := Ground.chain }], guard := none }) (v := ?v38) rfl (by kernel_rfl) (by kernel_rfl) (by kernel_rfl) (fun _ _ _ h => h) (Or.inl ⟨by rfl, ?hy38⟩) hHeld ?rest38
        case hy38 => (intro w hSw; (try dsimp only at hSw); go_simp; (try (with_reducible rfl)))
        (try simp only [Act.put, List.setIfInBounds_toArray, List.set_cons_zero, List.set_cons_succ])
        refine wpAnyH_take (i := 39) (oi := { dst := some 66, op := Op.move (Operand.tmp 5), type := 25, pos := "law.go:69", after := #[{ on := 38, ground := Ground.guard }], guard := some (38, false) }) (v := ?v39) rfl (by kernel_rfl) (by kernel_rfl) (by kernel_rfl) (fun _ _ _ h => h) (Or.inl ⟨by rfl, ?hy39⟩) hHeld ?rest39
        case hy39 => (intro w hSw; (try dsimp only at hSw); go_simp; (try (with_reducible rfl)))
        (try simp only [Act.put, List.setIfInBounds_toArray, List.set_cons_zero, List.set_cons_succ])
        refine wpAnyH_take (i := 40) (oi := { dst := some 67, op := Op.nilCheck (Operand.tmp 66), type := 0, pos := "law.go:69", after := #[{ on := 39, ground := Ground.data }, { on := 38, ground := Ground.guard }], guard := some (38, false) }) (v := ?v40) rfl (by kernel_rfl) (by kernel_rfl) (by kernel_rfl) (fun _ _ _ h => h) (Or.inl ⟨by rfl, ?hy40⟩) hHeld ?rest40
        case hy40 => (intro w hSw; (try dsimp only at hSw); go_simp; (try (with_reducible rfl)))
        (try simp only [Act.put, List.setIfInBounds_toArray, List.set_cons_zero, List.set_cons_succ])
        refine wpAnyH_take (i := 41) (oi := { dst := some 68, op := Op.fieldAddr 31 (Operand.tmp 67) 0, type := 0, pos := "law.go:69", after := #[{ on := 40, ground := Ground.data }, { on := 38, ground := Ground.guard }], guard := some (38, false) }) (v := ?v41) rfl (by kernel_rfl) (by kernel_rfl) (by kernel_rfl) (fun _ _ _ h => h) (Or.inl ⟨by rfl, ?hy41⟩) hHeld ?rest41
        case hy41 => (intro w hSw; (try dsimp only at hSw); go_simp; (try (with_reducible rfl)))
        (try simp only [Act.put, List.setIfInBounds_toArray, List.set_cons_zero, List.set_cons_succ])
        refine wpAnyH_take (i := 42) (oi := { dst := some 69, op := Op.load 26 (Operand.tmp 68), type := 26, pos := "law.go:69", after := #[{ on := 41, ground := Ground.data }, { on := 38, ground := Ground.guard }], guard := some (38, false) }) (v := ?v42) rfl (by kernel_rfl) (by kernel_rfl) (by kernel_rfl) (fun _ _ _ h => h) (Or.inl ⟨by rfl, ?hy42⟩) hHeld ?rest42
        case hy42 => (intro w hSw; (try dsimp only at hSw); go_simp; (try (with_reducible rfl)))
        (try simp only [Act.put, List.setIfInBounds_toArray, List.set_cons_zero, List.set_cons_succ])
        refine wpAnyH_take (i := 44) (oi := { dst := some 71, op := Op.move (Operand.tmp 5), type := 25, pos := "law.go:69", after := #[{ on := 38, ground := Ground.guard }], guard := some (38, false) }) (v := ?v44) rfl (by kernel_rfl) (by kernel_rfl) (by kernel_rfl) (fun _ _ _ h => h) (Or.inl ⟨by rfl, ?hy44⟩) hHeld ?rest44
        case hy44 => (intro w hSw; (try dsimp only at hSw); go_simp; (try (with_reducible rfl)))
        (try simp only [Act.put, List.setIfInBounds_toArray, List.set_cons_zero, List.set_cons_succ])
        refine wpAnyH_take (i := 45) (oi := { dst := some 72, op := Op.nilCheck (Operand.tmp 71), type := 0, pos := "law.go:69", after := #[{ on := 44, ground := Ground.data }, { on := 38, ground := Ground.guard }], guard := some (38, false) }) (v := ?v45) rfl (by kernel_rfl) (by kernel_rfl) (by kernel_rfl) (fun _ _ _ h => h) (Or.inl ⟨by rfl, ?hy45⟩) hHeld ?rest45
        case hy45 => (intro w hSw; (try dsimp only at hSw); go_simp; (try (with_reducible rfl)))
        (try simp only [Act.put, List.setIfInBounds_toArray, List.set_cons_zero, List.set_cons_succ])
        refine wpAnyH_take (i := 46) (oi := { dst := some 73, op := Op.fieldAddr 31 (Operand.tmp 72) 1, type := 0, pos := "law.go:69", after := #[{ on := 45, ground := Ground.data }, { on := 38, ground := Ground.guard }], guard := some (38, false) }) (v := ?v46) rfl (by kernel_rfl) (by kernel_rfl) (by kernel_rfl) (fun _ _ _ h => h) (Or.inl ⟨by rfl, ?hy46⟩) hHeld ?rest46
        case hy46 => (intro w hSw; (try dsimp only at hSw); go_simp; (try (with_reducible rfl)))
        (try simp only [Act.put, List.setIfInBounds_toArray, List.set_cons_zero, List.set_cons_succ])
        refine wpAnyH_take (i := 47) (oi := { dst := some 74, op := Op.load 28 (Operand.tmp 73), type := 28, pos := "law.go:69", after := #[{ on := 46, ground := Ground.data }, { on := 38, ground := Ground.guard }], guard := some (38, false) }) (v := ?v47) rfl (by kernel_rfl) (by kernel_rfl) (by kernel_rfl) (fun _ _ _ h => h) (Or.inl ⟨by rfl, ?hy47⟩) hHeld ?rest47
        case hy47 => (intro w hSw; (try dsimp only at hSw); go_simp; (try (with_reducible rfl)))
        (try simp only [Act.put, List.setIfInBounds_toArray, List.set_cons_zero, List.set_cons_succ])
        refine wpAnyH_ready (rs := [43]) (by kernel_rfl) (by simp) ?_
        refine AllReadyH.cons (o := { dst := some 70, op := Op.call { callee := Callee.value (Operand.func 16), args := #[Operand.tmp 69], argTypes := #[26] }, type := 33, pos := "law.go:69", after := #[{ on := 42, ground := Ground.data }, { on := 38, ground := Ground.chain }, { on := 38, ground := Ground.guard }], guard := some (38, false) }) rfl (fun K hK => ?_) AllReadyH.nil
        go_simp
        (go_at_call 16; ((with_reducible refine (pBytes T3.out B3.out).mono ?_); rintro e w4 ⟨a4, n4, c4, rfl, hb4, hn4, hT4, hbel⟩; have T4 := Lib.hid hT4; have Q4 := Lib.hid hb4; have N4 := Lib.hid hn4; have S4 := Lib.hid (And.intro (S3.out w4 hbel) (Y.out.below hb hT4.bel)); clear hb4 hn4 hT4 hbel))
        refine hK.out _ _ (S4.out) (fun hHeld => ?_)
        clear hK K
        (try simp only [Act.put, List.setIfInBounds_toArray, List.set_cons_zero, List.set_cons_succ])
        refine wpAnyH_ready (rs := [48]) (by kernel_rfl) (by simp) ?_
        refine AllReadyH.cons (o := { dst := some 75, op := Op.call { callee := Callee.value (Operand.func 17), args := #[Operand.tmp 74], argTypes := #[28] }, type := 33, pos := "law.go:69", after := #[{ on := 47, ground := Ground.data }, { on := 43, ground := Ground.chain }, { on := 38, ground := Ground.guard }], guard := some (38, false) }) rfl (fun K hK => ?_) AllReadyH.nil
        go_simp
        (go_at_call 17; ((with_reducible refine (dBytes T4.out B3.out).mono ?_); rintro e w5 ⟨a5, n5, c5, rfl, hb5, hn5, hT5, hbel⟩; have T5 := Lib.hid hT5; have cS := same_any a4 a5 n4 n5 c4 c5 _ _ _ _ w5 (Q4.out.below hbel (Nat.le_refl _)) hb5 N4.out hn5; rw [decide_eq_true rfl] at cS; have S5 := Lib.hid (And.intro (S4.out.1.below hbel) (Y.out.below hb hT5.bel)); clear hb5 hn5 hT5 hbel))
        refine hK.out _ _ (S5.out) (fun hHeld => ?_)
        clear hK K
        (try simp only [Act.put, List.setIfInBounds_toArray, List.set_cons_zero, List.set_cons_succ])
        refine wpAnyH_ready (rs := [49]) (by kernel_rfl) (by simp) ?_
        refine AllReadyH.cons (o := { dst := some 76, op := Op.call { callee := Callee.value (Operand.func 15), args := #[Operand.tmp 70, Operand.tmp 75], argTypes := #[33, 33] }, type := 4, pos := "law.go:69", after := #[{ on := 43, ground := Ground.data }, { on := 48, ground := Ground.data }, { on := 48, ground := Ground.chain }, { on := 38, ground := Ground.guard }], guard := some (38, false) }) rfl (fun K hK => ?_) AllReadyH.nil
        go_simp
        (go_at_call 15; ((with_reducible refine cS.mono ?_); rintro e w6 ⟨rfl, q, rfl⟩))
        refine hK.out _ _ (S5.out) (fun hHeld => ?_)
        clear hK K
        (try simp only [Act.put, List.setIfInBounds_toArray, List.set_cons_zero, List.set_cons_succ])
        refine wpAnyH_take (i := 50) (oi := { dst := some 77, op := Op.unOp UnOp.not 4 (Operand.tmp 76), type := 4, pos := "law.go:69", after := #[{ on := 49, ground := Ground.data }, { on := 38, ground := Ground.guard }], guard := some (38, false) }) (v := ?v50) rfl (by kernel_rfl) (by kernel_rfl) (by kernel_rfl) (fun _ _ _ h => h) (Or.inl ⟨by rfl, ?hy50⟩) hHeld ?rest50
        case hy50 => (intro w hSw; (try dsimp only at hSw); go_simp; (try (with_reducible rfl)))
        (try simp only [Act.put, List.setIfInBounds_toArray, List.set_cons_zero, List.set_cons_succ])
        refine wpAnyH_take (i := 51) (oi := { dst := some 78, op := Op.pick (Operand.tmp 65) (Operand.const (Value.bool true)) (Operand.tmp 77), type := 4, pos := "law.go:69", after := #[{ on := 38, ground := Ground.data }, { on := 50, ground := Ground.data }], guard := none }) (v := ?v51) rfl (by kernel_rfl) (by kernel_rfl) (by kernel_rfl) (fun _ _ _ h => h) (Or.inl ⟨by rfl, ?hy51⟩) hHeld ?rest51
        case hy51 => (intro w hSw; (try dsimp only at hSw); go_simp; (try (with_reducible rfl)))
        (try simp only [Act.put, List.setIfInBounds_toArray, List.set_cons_zero, List.set_cons_succ])
        refine wpAnyH_done (by kernel_rfl) ?_ _
        go_wp2
        go_roundw
        case rel => exact ⟨k + 1, g3, h3, d3, by go_num, hlt, T5.out.drewN q, C3.out.mono (by omega), F3.out⟩
        case measure => simp [intOf]; omega
      · have hd : decide ((k : Int) < (n : Int)) = false := decide_eq_false (by omega)
        go_wp2
        go_ret
        exact ⟨rfl, T.out.bel⟩
  · rw [decide_eq_false hF] at cF
    clear hl hr hx hn hF
    go_enter Try.func3, Try.ntmps3
    go_wp2_with (first
      | (go_at_call 9; ((with_reducible refine (cF _ B1.out).mono ?_); rintro e w2 ⟨rfl, rfl⟩))
      | (go_at_call 8; ((with_reducible refine (awake12_any _).mono ?_); rintro e w1 ⟨rfl, hb1⟩; first | (have B2 := Lib.hid (B1.out.trans (hb1.mono B1.out.size)); clear hb1) | (have B1 := Lib.hid hb1; clear hb1))))
    go_ret
    exact ⟨rfl, B2.out⟩
end Go.Proofs.Ytclfgkeepmdmjaa
