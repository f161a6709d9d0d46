
/- Contracts of wal.fail, takeSlot and takeData. Conditions: the reader lies in memory, and has no more than a million bytes left. -/
import Derived.Test.YtcfmifongbapkaaGreatDoorQZH
import Derived.Test.YtcfmifongbapkaaGreatDoorQZI
/- WalData -/
namespace Go.Proofs.YtcfmifongbapkaaGreatDoor

open Go.RowKit

set_option linter.unusedVariables false
set_option linter.unusedSimpArgs false

set_option maxHeartbeats 1000000 in
theorem wfail_any (g : Nat) (st : St) (W : World) (h : RS g st W) :
    Calls Tryz.prog 114 #[.pointer (some ⟨g, 0, none⟩)] W fun e w' => e = .returned (.tuple #[]) ∧ RS g none w' ∧ Only g W w' := by
  obtain ⟨l, ok, hr⟩ := h.rd
  have c := take_no g l ok (-1) W hr (.inr (.inl (by omega)))
  clear hr h
  go_enter Tryz.func114, Tryz.ntmps114
  go_wp2_with (go_at_call 80; ((with_reducible refine c.mono ?_); rintro e w1 ⟨rfl, hr1, ho1⟩))
  go_end0
  exact ⟨rfl, hr1, ho1⟩
def TookSl (g : Nat) (st : St) (w : World) (e : Ending) (w' : World) : Prop := ∃ (z : Nat) (st' : St), e = .returned (.int .i64 ((z : Nat) : Int)) ∧ RS g st' w' ∧ Only g w w' ∧ Res (numP 4) st z st' ∧ z < 4294967296
set_option maxHeartbeats 1000000 in
theorem wTakeSlot_any (g : Nat) (st : St) (w : World) (h : RS g st w) :
    Calls Tryz.prog 82 #[.pointer (some ⟨g, 0, none⟩)] w (TookSl g st w) := by
  have c4 : Calls Tryz.prog 80 #[.pointer (some ⟨g, 0, none⟩), .int .i64 4] w (Took1 (RS g) g numV (numP 4) 0 st w) := takeS_any g 4 st w h (by omega)
  clear h
  go_enter Tryz.func82, Tryz.ntmps82
  go_wp2_with (go_at_call 80; ((with_reducible refine c4.mono ?_); rintro e w1 ⟨n, st1, rfl, hr1, ho1, hR1, hz1⟩; have D1 := Lib.hid hr1; have O1 := Lib.hid ho1; have R1 := Lib.hid hR1; have hn : n < 4294967296 := num_lt hR1 hz1 (by decide); have ez := wrap_i64 n (by omega); clear hr1 ho1 hR1 hz1))
  go_ret
  exact ⟨n, st1, by first | rfl | (rw [← ez]; rfl), D1.out, O1.out, R1.out, hn⟩
/-- Data are taken, all that is left; none where it fails. -/
def TookDt (g : Nat) (st : St) (w : World) (e : Ending) (w' : World) : Prop :=
  ∃ (a : Option Addr) (m c : Nat) (d : List UInt8) (st' : St), e = .returned (.slice a m c) ∧ RS g st' w' ∧ Only g w w' ∧ BAt w' w'.heap.size a m d ∧ (m ≤ 1000000 ∧ NewP w.heap.size a) ∧ Res dataR st d st'
theorem dataR_no {st st1 : St} {n : Nat} (h : Res (numP 4) st n st1) (hz : st1 = none → n = 0) (hn : n ≠ lenS st1) : Res dataR st [] none := by
  refine .no [] fun l e => ?_
  rcases h with ⟨l', r, e1, hp, e2⟩ | ⟨_, e1⟩
  · rw [e] at e1; injection e1 with e1; subst e1; subst e2
    unfold numP at hp
    split at hp
    · rename_i hl
      injection hp with hp; injection hp with h1 h2
      subst h1; subst h2
      unfold dataR
      rw [if_neg]
      rintro ⟨_, h3⟩
      exact hn (by rw [h3]; show _ = (l.drop 4).length; rw [List.length_drop])
    · cases hp
  · subst e1; exact absurd (hz rfl) hn
theorem dataR_none {st : St} {n : Nat} (h : Res (numP 4) st n none) : Res dataR st [] none := by
  refine .no [] fun l e => ?_
  rcases h with ⟨l', r, e1, hp, e2⟩ | ⟨hp, _⟩
  · cases e2
  · have := hp l e
    unfold numP at this
    split at this
    · cases this
    · rename_i hl
      unfold dataR; rw [if_neg (fun h => hl h.1)]
theorem dataR_all {st : St} {n : Nat} {r : List UInt8} (h : Res (numP 4) st n (some r)) (hn : n = r.length) : Res dataR st r (some []) := by
  rcases h with ⟨l, r', rfl, hp, e⟩ | ⟨_, e⟩
  · injection e with e; subst e
    refine .yes ?_
    unfold numP at hp
    split at hp
    · rename_i hl
      injection hp with hp; injection hp with h1 h2
      subst h1; subst h2
      unfold dataR
      rw [if_pos ⟨hl, by rw [hn, List.length_drop]⟩]
    · cases hp
  · cases e
theorem make_w (w : World) (n : Nat) (hn : n ≤ 1000000) : (Instr.makeSlice 34 (.int .i64 ((n : Nat) : Int)) (.int .i64 ((n : Nat) : Int))).run Tryz.prog w = .ok (.slice (some ⟨w.heap.size, 0, none⟩) n n) (w.alloc (.cells (madeCells #[Value.int .u8 0] n) 5)) := by
  obtain ⟨i0, hi, hz0, hz1, hz2⟩ := info_parts Tryz.info5
  have hr := run_make (P := Tryz.prog) w 34 5 i0 (.int .u8 0) Tryz.underlying34 hi hz0 .i64 .i64 ((n : Nat) : Int) ((n : Nat) : Int) (by omega) (by omega) (by rw [hz2]; omega) (by omega)
  have e1 : ((n : Nat) : Int).toNat = n := by omega
  rw [hr, hz1, e1, Nat.mul_one]; rfl
theorem new_made (W : World) {B n : Nat} (h : B ≤ n) : NewP B (some ⟨n, 0, none⟩) := fun p e => by injection e with e; subst e; exact h
set_option maxRecDepth 100000 in
set_option maxHeartbeats 4000000 in
theorem wTakeData_any (g : Nat) (st : St) (w : World) (h : RS g st w) (hb : ∀ l, st = some l → l.length ≤ 1000000) :
    Calls Tryz.prog 84 #[.pointer (some ⟨g, 0, none⟩)] w (TookDt g st w) := by
  have c4 : Calls Tryz.prog 80 #[.pointer (some ⟨g, 0, none⟩), .int .i64 4] w (Took1 (RS g) g numV (numP 4) 0 st w) := takeS_any g 4 st w h (by omega)
  have hgw := h.lt
  clear h
  have hlb : ∀ (s1 : St) (n : Nat), Res (numP 4) st n s1 → lenS s1 ≤ 1000000 := fun s1 n h => by
    rcases h with ⟨l, r, rfl, hp, rfl⟩ | ⟨_, rfl⟩
    · have := hb l rfl
      unfold numP at hp
      split at hp
      · injection hp with hp; injection hp with h1 h2
        subst h2
        show (l.drop 4).length ≤ _
        rw [List.length_drop]; omega
      · cases hp
    · exact Nat.zero_le _
  clear hb
  have key : ∀ w1 n st1, RS g st1 w1 → Only g w w1 → Res (numP 4) st n st1 → (st1 = none → n = 0) → n < 4294967296 → Calls Tryz.prog 86 #[.pointer (some ⟨g, 0, none⟩)] w1 fun e w' => e = .returned (.int .i64 ((lenS st1 : Nat) : Int)) ∧ w1 = w' := fun w1 n st1 h _ _ _ _ => leftS_any g st1 w1 h
  go_enter Tryz.func84, Tryz.ntmps84
  go_wp2_with (go_at_call 80; ((with_reducible refine c4.mono ?_); rintro e w1 ⟨n, st1, rfl, hr1, ho1, hR1, hz1⟩; have D1 := Lib.hid hr1; have O1 := Lib.hid ho1; have R1 := Lib.hid hR1; have Z1 := Lib.hid hz1; clear hr1 ho1 hR1))
  have hn32 : n < 4294967296 := num_lt R1.out Z1.out (by decide)
  have hls := hlb _ _ R1.out
  have cL : Calls Tryz.prog 86 #[.pointer (some ⟨g, 0, none⟩)] w1 fun e w' => e = .returned (.int .i64 ((lenS st1 : Nat) : Int)) ∧ w1 = w' := leftS_any g st1 w1 D1.out
  have hwr : IntKind.u64.wrap ((lenS st1 : Nat) : Int) = ((lenS st1 : Nat) : Int) := by rw [IntKind.wrap_u64]; omega
  have hw1 := O1.out.size
  clear hz1 c4 hlb key
  by_cases hne : n = lenS st1
  rotate_left
  · have i1 : ¬ ((n : Nat) : Int) = ((lenS st1 : Nat) : Int) := by omega
    have Q := Lib.hid (dataR_no R1.out Z1.out hne)
    generalize lenS st1 = z at *
    go_wp2_with (first | (go_at_call 86; ((with_reducible refine cL.mono ?_); rintro e w' ⟨rfl, rfl⟩)) | (go_at_call 114; ((with_reducible refine (wfail_any g _ _ D1.out).mono ?_); rintro e w2 ⟨rfl, hr2, ho2⟩; have D2 := Lib.hid hr2; have O2 := Lib.hid (O1.out.trans ho2); have E0 : Hid (RS g none (w2.alloc (.cells (madeCells #[Value.int .u8 0] 0) 5))) := RdAt.keep D2.out (fun b hb => Below.heap_alloc _ _ _ (by have : g < w2.heap.size := D2.out.lt; omega)); have P0 : Hid (Only g w (w2.alloc (.cells (madeCells #[Value.int .u8 0] 0) 5))) := O2.out.trans (below_only ((Below.refl _ _).alloc (Nat.le_refl _) _)); have N0 : Hid (NewP w.heap.size (some ⟨w2.heap.size, 0, none⟩)) := new_made w2 O2.out.size; have cL0 : Calls Tryz.prog 86 #[.pointer (some ⟨g, 0, none⟩)] w2 fun e w' => e = .returned (.int .i64 0) ∧ w2 = w' := leftS_any g none w2 D2.out; have hmk0 : (Instr.makeSlice 34 (.int .i64 0) (.int .i64 0)).run Tryz.prog w2 = .ok (.slice (some ⟨w2.heap.size, 0, none⟩) 0 0) (w2.alloc (.cells (madeCells #[Value.int .u8 0] 0) 5)) := make_w w2 0 (by omega))) | (go_at_call 86; ((with_reducible refine cL0.mono ?_); rintro e w' ⟨rfl, rfl⟩)))
    generalize w2.alloc (.cells (madeCells #[Value.int .u8 0] 0) 5) = W4 at *
    go_loopw [18] (fun v wr => v = .int .i64 0 ∧ wr = W4) (fun _ _ => 0)
    case atStart => exact ⟨rfl, rfl⟩
    case round =>
      obtain ⟨rfl, rfl⟩ := hrel
      go_wp2
      go_ret
      exact ⟨_, 0, 0, [], none, rfl, E0.out, P0.out, BAt.nil, ⟨by omega, N0.out⟩, Q.out⟩
  subst hne
  cases st1 with
  | none =>
    have Q := Lib.hid (dataR_none R1.out)
    have E0 : Hid (RS g none (w1.alloc (.cells (madeCells #[Value.int .u8 0] 0) 5))) := RdAt.keep D1.out (fun b hb => Below.heap_alloc _ _ _ (by have : g < w1.heap.size := D1.out.lt; omega)); have P0 : Hid (Only g w (w1.alloc (.cells (madeCells #[Value.int .u8 0] 0) 5))) := O1.out.trans (below_only ((Below.refl _ _).alloc (Nat.le_refl _) _)); have N0 : Hid (NewP w.heap.size (some ⟨w1.heap.size, 0, none⟩)) := new_made w1 O1.out.size; have cL0 : Calls Tryz.prog 86 #[.pointer (some ⟨g, 0, none⟩)] w1 fun e w' => e = .returned (.int .i64 0) ∧ w1 = w' := leftS_any g none w1 D1.out; have hmk0 : (Instr.makeSlice 34 (.int .i64 0) (.int .i64 0)).run Tryz.prog w1 = .ok (.slice (some ⟨w1.heap.size, 0, none⟩) 0 0) (w1.alloc (.cells (madeCells #[Value.int .u8 0] 0) 5)) := make_w w1 0 (by omega)
    clear cL hwr hls hn32
    go_wp2_with (first | (go_at_call 86; ((with_reducible refine cL0.mono ?_); rintro e w' ⟨rfl, rfl⟩)))
    generalize w1.alloc (.cells (madeCells #[Value.int .u8 0] 0) 5) = W4 at *
    go_loopw [18] (fun v wr => v = .int .i64 0 ∧ wr = W4) (fun _ _ => 0)
    case atStart => exact ⟨rfl, rfl⟩
    case round =>
      obtain ⟨rfl, rfl⟩ := hrel
      go_wp2
      go_ret
      exact ⟨_, 0, 0, [], none, rfl, E0.out, P0.out, BAt.nil, ⟨by omega, N0.out⟩, Q.out⟩
  | some r =>
    have hrl : r.length ≤ 1000000 := hls
    have Q := Lib.hid (dataR_all R1.out rfl)
    have hmk := make_w w1 r.length hrl
    have cL1 : Calls Tryz.prog 86 #[.pointer (some ⟨g, 0, none⟩)] w1 fun e w' => e = .returned (.int .i64 ((r.length : Nat) : Int)) ∧ w1 = w' := cL
    have hg1 : g < w1.heap.size := D1.out.lt
    have E0 : Hid (DatR g w1.heap.size r r.length 0 w (w1.alloc (.cells (madeCells #[Value.int .u8 0] r.length) 5))) := by
      refine ⟨RdAt.keep D1.out (fun b hb => Below.heap_alloc _ _ _ (by omega)), O1.out.trans (below_only ((Below.refl _ _).alloc (Nat.le_refl _) _)), ?_, hw1⟩
      rw [made_bytes]
      exact BoxC.new w1 _ 5
    have hwr1 : IntKind.u64.wrap ((r.length : Nat) : Int) = ((r.length : Nat) : Int) := hwr
    clear cL hls hwr
    have hn : lenS (some r) = r.length := rfl
    rw [hn] at *
    go_wp2_with (go_at_call 86; ((with_reducible refine cL1.mono ?_); rintro e w' ⟨rfl, rfl⟩))
    clear hmk D1 O1 R1 Z1 cL1
    generalize w1.alloc (.cells (madeCells #[Value.int .u8 0] r.length) 5) = W2 at *
    generalize w1.heap.size = D at *
    generalize hN : r.length = N at *
    go_loopw [18] (fun v wr => ∃ i, i ≤ N ∧ v = .int .i64 ((i : Nat) : Int) ∧ DatR g D r N i w wr) (fun v _ => N - (intOf v).toNat)
    case atStart => exact ⟨0, Nat.zero_le _, rfl, E0.out⟩
    case round =>
      obtain ⟨i, hin, rfl, hE⟩ := hrel
      have E1 := Lib.hid hE
      clear hE E0
      by_cases hlt : i < N
      · have hir : i < r.length := by omega
        have c1 : Calls Tryz.prog 80 #[.pointer (some ⟨g, 0, none⟩), .int .i64 1] wr fun e w' => e = .returned (.int .u64 ((r[i].toNat : Nat) : Int)) ∧ RdAt w' g ((r.drop i).drop 1) true ∧ Only g wr w' := by
          have h1 := take_yes g (r.drop i) 1 wr E1.out.1 (by rw [List.length_drop]; omega) (by omega)
          have e1 : numB ((r.drop i).take 1) = r[i].toNat := by
            rw [List.drop_eq_getElem_cons hir, List.take_succ_cons, List.take_zero, numB_cons, numB_nil]; simp
          rw [e1] at h1; exact h1
        have hb8 : r[i].toNat < 256 := r[i].toNat_lt
        have TK : Hid (bcells (r.take (i + 1)) = bcells (r.take i) ++ [Value.int .u8 ((r[i].toNat : Nat) : Int)]) := by
          unfold Hid
          rw [List.take_succ_eq_append_getElem hir, bcells_app]; rfl
        have LT : Hid ((bcells (r.take i)).length = i) := by unfold Hid; rw [bcells_len, List.length_take]; omega
        have DR : Hid ((r.drop i).drop 1 = r.drop (i + 1)) := by unfold Hid; rw [List.drop_drop]
        generalize r[i].toNat = q at *
        have GD : Hid (g < D) := by have := E1.out.2.2.2; unfold Hid; omega
        clear hN
        go_upto_region 8 with (go_at_call 80; ((with_reducible refine c1.mono ?_); rintro e w3 ⟨rfl, hr3, ho3⟩; have B3 := Lib.hid (E1.out.2.2.1.only ho3 (by have := GD.out; omega)); have D3 := Lib.hid hr3; have O3 := Lib.hid (E1.out.2.1.trans ho3); have y3 : w3.cell? ⟨D, i, none⟩ = some (.int .u8 0) := B3.out.cell i _ (by rw [List.getElem?_toArray, List.getElem?_append_right (by rw [LT.out]; exact Nat.le_refl _), LT.out, Nat.sub_self, List.getElem?_replicate]; simp; omega); have f3 := B3.out.frozen i))
        have E4 : Hid (DatR g D r N (i + 1) w (w3.setCell ⟨D, i, none⟩ (.int .u8 ((q : Nat) : Int)))) := by
          have hD := E1.out.2.2.2
          refine ⟨?_, ?_, ?_, hD⟩
          · rw [← DR.out]
            exact RdAt.keep D3.out (fun b hb => Below.heap_setCell _ _ _ _ (by have := GD.out; show b ≠ D; omega))
          · exact ⟨O3.out.os, O3.out.tape, O3.out.output, by have := O3.out.size; simpa [World.setCell] using this, fun b hb hne => (Below.heap_setCell _ _ _ _ (by show b ≠ D; omega)).trans (O3.out.block b hb hne)⟩
          · rw [TK.out, ← set_at _ _ _ N i LT.out hlt]
            exact B3.out.set i _
        clear y3 f3
        generalize w3.setCell ⟨D, i, none⟩ (.int .u8 ((q : Nat) : Int)) = W4 at *
        go_wp2
        go_roundw
        case rel => exact ⟨i + 1, by omega, by go_num, E4.out⟩
        case measure => simp [intOf]; omega
      · obtain rfl : i = N := by omega
        have LN : Hid (i = r.length) := hN.symm
        clear hN
        go_wp2
        go_ret
        have e1 : r.take i = r := by rw [LN.out, List.take_length]
        have hX := E1.out.2.2.1
        have hD := E1.out.2.2.2
        rw [e1, Nat.sub_self] at hX
        have hS := E1.out.1
        rw [LN.out, List.drop_length] at hS
        refine ⟨_, i, i, r, _, rfl, hS, E1.out.2.1, ⟨LN.out.symm, .inr ⟨D, 0, rfl, hX.lt, fun j hj => ?_⟩⟩, ⟨by have := LN.out; omega, fun p e => by injection e with e; subst e; exact hD⟩, Q.out⟩
        rw [Nat.zero_add]
        refine hX.cell j _ ?_
        rw [List.getElem?_toArray, List.getElem?_append_left (by rw [bcells_len]; exact hj)]
        show (r.map _)[j]? = _
        rw [List.getElem?_map, List.getElem?_eq_getElem hj]
        rfl
end Go.Proofs.YtcfmifongbapkaaGreatDoor
