/- Contract of the document's net's Links. Condition: the net lies in memory. -/
import Derived.Test.YtgdgjgcmglgfmaaNetRef
import Derived.Test.YtgdgjgcmglgfmaaNetLinks
import Derived.Deep.RegionWith
import Derived.BigQuiet
import Derived.Deep.DeepCutAuto
import Derived.Deep.QuietTactic
import Derived.Deep.CutBlock
namespace Go.Proofs.Ytgdgjgcmglgfmaa

open Go.RowKit

set_option linter.unusedVariables false
set_option linter.unusedSimpArgs false

theorem Try.info41 : (Try.prog.info? 41).map (fun i => (i.zero, i.size, i.bytes)) = some (some (.agg #[.int .i64 0, .int .i64 0]), 2, 16) := by kernel_rfl
theorem lkCs_cells (ks : List Lk) : ∀ u ∈ ks.flatMap lkC, u.oneCell' = true := by
  intro u hu
  obtain ⟨k, _, hk⟩ := List.mem_flatMap.1 hu
  simp [lkC] at hk
  rcases hk with rfl | rfl <;> rfl
/-- A link is put in its place. -/
theorem ins_rise {ks : List Lk} {x : Lk} (h : Rise ks) (m : Nat) (hm : m ≤ ks.length) (hlo : ∀ i (hi : i < m), ltL (ks[i]'(by omega)) x = true) (hhi : ∀ hi : m < ks.length, ltL ks[m] x = false ∧ ks[m] ≠ x) : Rise (ks.take m ++ x :: ks.drop m) := by
  unfold Rise at *
  have e : ks = ks.take m ++ ks.drop m := (List.take_append_drop m ks).symm
  have h2 := h
  rw [e, List.pairwise_append] at h2
  obtain ⟨p1, p2, p3⟩ := h2
  have hx : ∀ y ∈ ks.drop m, ltL x y = true := by
    intro y hy
    by_cases hml : m < ks.length
    · obtain ⟨q1, q2⟩ := hhi hml
      have q3 : ltL x ks[m] = true := by
        cases hc : ltL x ks[m]
        · exact absurd (ltL_total _ _ q1 hc) q2
        · rfl
      rw [List.drop_eq_getElem_cons hml] at hy p2
      rcases List.mem_cons.1 hy with rfl | hy
      · exact q3
      · exact ltL_trans _ _ _ q3 ((List.pairwise_cons.1 p2).1 y hy)
    · rw [List.drop_eq_nil_of_le (by omega)] at hy; cases hy
  rw [List.pairwise_append]
  refine ⟨p1, List.pairwise_cons.2 ⟨hx, p2⟩, fun a ha b hb => ?_⟩
  have ha2 : ltL a x = true := by
    obtain ⟨i, hi, rfl⟩ := List.getElem_of_mem ha
    rw [List.getElem_take]
    exact hlo i (by rw [List.length_take] at hi; omega)
  rcases List.mem_cons.1 hb with rfl | hb
  · exact ha2
  · exact ltL_trans _ _ _ ha2 (hx b hb)
theorem ins_mem {ks : List Lk} {x y : Lk} (m : Nat) : y ∈ ks.take m ++ x :: ks.drop m ↔ y ∈ ks ∨ y = x := by
  rw [List.mem_append, List.mem_cons]
  conv => rhs; rw [← List.take_append_drop m ks, List.mem_append]
  constructor
  · rintro (h | h | h)
    · exact .inl (.inl h)
    · exact .inr h
    · exact .inl (.inr h)
  · rintro ((h | h) | h)
    · exact .inl h
    · exact .inr (.inr h)
    · exact .inr (.inl h)
theorem eqR_link (k k' : Lk) (w : World) : (Op.equal 41 (keyV k) (keyV k')).run Try.prog w = .ok (decide (k = k')) w := by
  obtain ⟨a, b⟩ := k
  obtain ⟨c, d⟩ := k'
  have u3 := Try.underlying3
  have z3 := Try.sizeOf3
  have hS : Try.prog.underlying 41 = some (.struct (Try.prog.fieldsOf 41)) := by kernel_rfl
  have hp : Try.prog.stoodInHeld 41 = false := by kernel_rfl
  rw [← dec_link a b c d]
  unfold Op.equal Op.maxDepth keyV
  rw [show (10000 : Nat) = 9999 + 1 from rfl, run_equalIn_agg w 9999 41 _ _ hS hp]
  simp only [Program.fieldsOf, Try.underlying41]
  go_simp
  by_cases h1 : a = c <;> by_cases h2 : b = d <;> simp [h1, h2]
theorem eqR_bin (k k' : Lk) (w : World) : (binOp .eql 41 (.agg #[.int .i64 k.1, .int .i64 k.2]) (.agg #[.int .i64 k'.1, .int .i64 k'.2])).run Try.prog w = .ok (.bool (decide (k = k'))) w := by
  have h := eqR_link k k' w
  unfold keyV at h
  simp only [binOp, Sem.run_bind, h, Result.andThen_ok]
  rfl
def LinkRel (V : World) (ps : List Pc) (wr : World) (o : Value) (j : Nat) : Prop := ∃ (a : Option Addr) (c : Nat) (ks : List Lk), o = .slice a ks.length c ∧ wr.ownsRow V.heap.size 41 2 (.slice a ks.length c) ks.length (ks.flatMap lkC) ∧ Rise ks ∧ (∀ y, y ∈ ks ↔ ∃ p ∈ ps.take j, p.k = y) ∧ ks.length ≤ j ∧ Below V.heap.size V wr
theorem link_mem {ps : List Pc} {ks : List Lk} {j : Nat} (hj : j < ps.length) (h : ∀ y, y ∈ ks ↔ ∃ p ∈ ps.take j, p.k = y) : ∀ y, (∃ p ∈ ps.take (j + 1), p.k = y) ↔ (y ∈ ks ∨ y = ps[j].k) := by
  intro y
  rw [List.take_succ_eq_append_getElem hj, h y]
  constructor
  · rintro ⟨p, hp, rfl⟩
    rcases List.mem_append.1 hp with hp | hp
    · exact .inl ⟨p, hp, rfl⟩
    · simp at hp; subst hp; exact .inr rfl
  · rintro (⟨p, hp, rfl⟩ | rfl)
    · exact ⟨p, List.mem_append_left _ hp, rfl⟩
    · exact ⟨_, List.mem_append_right _ (List.mem_singleton.2 rfl), rfl⟩
/-- Where a link's place is. -/
def Lo (ks : List Lk) (x : Lk) (m : Nat) : Prop := m ≤ ks.length ∧ ∀ i (hi : i < ks.length), i < m → ltL ks[i] x = true
theorem Lo.next {ks : List Lk} {x : Lk} {m : Nat} (h : Lo ks x m) (hm : m < ks.length) (hl : ltL ks[m] x = true) : Lo ks x (m + 1) := by
  refine ⟨hm, fun i hi him => ?_⟩
  rcases Nat.lt_or_ge i m with h1 | h1
  · exact h.2 i hi h1
  · have e : i = m := by omega
    subst e; exact hl
def InsAt (ks : List Lk) (x : Lk) (m : Nat) : Prop := Lo ks x m ∧ ∀ hi : m < ks.length, ltL ks[m] x = false
theorem ltL_cases (y x : Lk) : (y.1 < x.1 ∧ ltL y x = true) ∨ (y.1 = x.1 ∧ y.2 < x.2 ∧ ltL y x = true) ∨ (y.1 = x.1 ∧ ¬ y.2 < x.2 ∧ ltL y x = false) ∨ (¬ y.1 < x.1 ∧ ¬ y.1 = x.1 ∧ ltL y x = false) := by
  unfold ltL
  rcases Int.lt_trichotomy y.1 x.1 with h | h | h
  · exact .inl ⟨h, by simp [h]⟩
  · by_cases h2 : y.2 < x.2
    · exact .inr (.inl ⟨h, h2, by simp [h, h2]⟩)
    · exact .inr (.inr (.inl ⟨h, h2, by simp [h, h2]⟩))
  · exact .inr (.inr (.inr ⟨by omega, by omega, by simp; omega⟩))
theorem ins_row {w : World} {B e m : Nat} {v : Value} {ks : List Lk} {x : Lk} (h : w.ownsRow B e 2 v (m + 1 + (ks.length - m)) ((ks.take m).flatMap lkC ++ lkC x ++ ((ks.drop m).take (ks.length - m)).flatMap lkC)) (hm : m ≤ ks.length) : w.ownsRow B e 2 v (ks.take m ++ x :: ks.drop m).length ((ks.take m ++ x :: ks.drop m).flatMap lkC) := by
  have e1 : (ks.drop m).take (ks.length - m) = ks.drop m := List.take_of_length_le (by rw [List.length_drop]; omega)
  rw [e1] at h
  have e2 : (ks.take m ++ x :: ks.drop m).length = m + 1 + (ks.length - m) := by rw [List.length_append, List.length_cons, List.length_take, List.length_drop]; omega
  rw [e2, List.flatMap_append, List.flatMap_cons]
  rw [List.append_assoc] at h
  exact h
theorem ins_len {ks : List Lk} {x : Lk} {m : Nat} (hm : m ≤ ks.length) : (ks.take m ++ x :: ks.drop m).length = m + 1 + (ks.length - m) := by rw [List.length_append, List.length_cons, List.length_take, List.length_drop]; omega
theorem row_lk (w : World) (x : Lk) (t : TypeId) : RowAt (w.alloc (.cells #[.int .i64 x.1, .int .i64 x.2] t)) (w.heap.size + 1) (some ⟨w.heap.size, 0, none⟩) 1 2 (lkC x) := by
  refine ⟨rfl, .inr ⟨w.heap.size, 0, rfl, by omega, fun j u hu => ?_⟩⟩
  have hb := BoxC.new w #[.int .i64 x.1, .int .i64 x.2] t
  match j with
  | 0 => injection hu with hu; subst hu; exact hb.cell 0 _ rfl
  | 1 => injection hu with hu; subst hu; exact hb.cell 1 _ rfl
  | j + 2 => simp [lkC] at hu
theorem lkC_one (x : Lk) : ∀ u ∈ lkC x, u.oneCell' = true := by
  intro u hu
  simp [lkC] at hu
  rcases hu with rfl | rfl <;> rfl
/-- Blocks that were there stand behind an append onto a row made since. -/
theorem app_below {w1 w2 w3 : World} {N : Nat} {v : Value} (hb : Below N w1 w2) (hv : ∀ k, v.ownBlock = some k → N ≤ k) (hN : N ≤ w2.heap.size) (hg : w2.grownBy w3 v.ownBlock) : Below N w1 w3 := hb.grown hg hN hv
theorem app_new {w2 : World} {N : Nat} {v v' : Value} (hv : ∀ k, v.ownBlock = some k → N ≤ k) (hN : N ≤ w2.heap.size) (hat : v'.ownBlock = v.ownBlock ∨ v'.ownBlock = some w2.heap.size) : ∀ k, v'.ownBlock = some k → N ≤ k := by
  intro k hk
  rcases hat with e | e
  · rw [e] at hk; exact hv k hk
  · rw [e] at hk; injection hk with hk; omega
/-- The links that a row of the call's own holds. -/
theorem own_link {V : World} {base g n c : Nat} {e : TypeId} {ks : List Lk} (H : V.ownsRow base e 2 (.slice (some ⟨g, 0, none⟩) n c) n (ks.flatMap lkC)) {i : Nat} (hi : i < ks.length) : V.cell? ⟨g, i * 2, none⟩ = some (.int .i64 ks[i].1) ∧ V.cell? ⟨g, i * 2 + 1, none⟩ = some (.int .i64 ks[i].2) := by
  have hc : ∀ j u, j < 2 → (lkC ks[i])[j]? = some u → V.cell? ⟨g, i * 2 + j, none⟩ = some u := fun j u hj hu => by
    have h1 := H.cells (g := g) rfl (i * 2 + j) u (by rw [flat_get lkC 2 (fun _ => rfl) ks i j hi hj]; exact hu)
    rw [add_plain] at h1
    simpa using h1
  exact ⟨hc 0 _ (by omega) rfl, hc 1 _ (by omega) rfl⟩
theorem link_part {V : World} {base g n c : Nat} {e : TypeId} {ks : List Lk} (H : V.ownsRow base e 2 (.slice (some ⟨g, 0, none⟩) n c) n (ks.flatMap lkC)) (i m : Nat) (hm : i + m ≤ ks.length) : RowAt V V.heap.size (some ⟨g, i * 2, none⟩) m 2 (((ks.drop i).take m).flatMap lkC) := by
  refine ⟨by rw [lkC_len, List.length_take, List.length_drop]; congr 1; omega, .inr ⟨g, i * 2, rfl, (H.lt g rfl).2, fun j u hu => ?_⟩⟩
  have h1 := H.cells (g := g) rfl (i * 2 + j) u ?_
  · rw [add_plain] at h1
    simpa using h1
  · have e1 : ks = ks.take i ++ ((ks.drop i).take m ++ (ks.drop i).drop m) := by rw [List.take_append_drop, List.take_append_drop]
    have hl : ((ks.take i).flatMap lkC).length = i * 2 := by rw [lkC_len, List.length_take]; congr 1; omega
    have hj : j < (((ks.drop i).take m).flatMap lkC).length := by
      rcases Nat.lt_or_ge j (((ks.drop i).take m).flatMap lkC).length with hlt | hge
      · exact hlt
      · rw [List.getElem?_eq_none hge] at hu; cases hu
    conv => lhs; rw [e1]
    rw [List.flatMap_append, List.getElem?_append_right (by omega), hl, List.flatMap_append, show i * 2 + j - i * 2 = j by omega, List.getElem?_append_left hj]
    exact hu

theorem mea_l (ps : List Lk) (i : Nat) (h1 : wrap64 ((i : Int) + 1) = ((i + 1 : Nat) : Int)) (h2 : i < ps.length) : ps.length - (intOf (Value.int .i64 (wrap64 ((i : Int) + 1)))).toNat < ps.length - (intOf (Value.int .i64 ((i : Nat) : Int))).toNat := by
  rw [h1]
  show ps.length - (i + 1) < ps.length - i
  omega
set_option maxRecDepth 100000 in
set_option maxHeartbeats 8000000 in
theorem linksR_any (W0 V : World) (h : Nat) (v : Value) (ps : List Pc) (H : RefIn W0 V h v ps) (hl : ps.length ≤ 1099511627776) :
    Calls Try.prog 14 #[.pointer (some ⟨h, 0, none⟩)] V fun e w' => ∃ o, e = .returned o ∧ LinkRel V ps w' o ps.length := by
  obtain ⟨iL, hi, hz0, hz1, hz2⟩ := info_parts Try.info41
  obtain ⟨a, c, rfl, hnc, hcm⟩ := H.form
  have HH := Lib.hid H
  have HL := Lib.hid hl
  have c0 := H.cell.1
  clear H hl hnc hcm
  go_enter Try.func14, Try.ntmps14
  go_wp2
  go_loopw [3, 4] (fun o i wr => ∃ (j : Nat), i = .int .i64 j ∧ j ≤ ps.length ∧ LinkRel V ps wr o j) (fun _ i _ => ps.length - (intOf i).toNat)
  case atStart => exact ⟨0, rfl, Nat.zero_le _, none, 0, [], rfl, World.ownsRow_nil _ _ _ _, .nil, fun y => by simp, Nat.le_refl _, Below.refl _ _⟩
  case round =>
    obtain ⟨j, rfl, hj, a1, c1, ks, rfl, hrow, hrise, hmem, hkl, hB⟩ := hrel
    have RO := Lib.hid hrow
    have B := Lib.hid hB
    have RI := Lib.hid hrise
    have ME := Lib.hid hmem
    have KL := Lib.hid hkl
    clear hrow hB hrise hmem hkl c0
    have hV := Lib.hid (HH.out.below B.out)
    have c0 := hV.out.cell.1
    by_cases hlt : j < ps.length
    · obtain ⟨g, c', hv, y0, y1, y2⟩ := hV.out.at_ hlt
      have hd : decide ((j : Int) < (ps.length : Int)) = true := decide_eq_true (by omega)
      have hin : (j : Int) < (ps.length : Int) := by omega
      injection hv with hv1 hv2 hv3
      subst hv1
      clear hv2 hv3 y2
      have EW : Hid (wrap64 ((j : Int) + 1) = ((j + 1 : Nat) : Int)) := by have := HL.out; unfold Hid wrap64; omega
      have LM := Lib.hid (link_mem hlt ME.out)
      obtain ⟨x, hx⟩ : ∃ x : Lk, ps[j].k = x := ⟨_, rfl⟩
      rw [hx] at y0 y1 LM
      clear hx
      go_upto_region 5 with fail
      have q0 : ∀ o, (wr.alloc o).cell? ⟨h, 0, none⟩ = some (.slice (some ⟨g, 0, none⟩) ps.length c) := fun o => ((Below.refl _ _).alloc (Nat.le_refl _) o).cell (p := ⟨h, 0, none⟩) hV.out.box.lt |>.trans c0
      have hgl : g < wr.heap.size := (hV.out.row.lt g rfl).2
      have q1 : ∀ o, (wr.alloc o).cell? ⟨g, j * 3, none⟩ = some (.int .i64 x.1) := fun o => (((Below.refl _ _).alloc (Nat.le_refl _) o).cell (p := ⟨g, j * 3, none⟩) hgl).trans y0
      have q2 : ∀ o, (wr.alloc o).cell? ⟨g, j * 3 + 1, none⟩ = some (.int .i64 x.2) := fun o => (((Below.refl _ _).alloc (Nat.le_refl _) o).cell (p := ⟨g, j * 3 + 1, none⟩) hgl).trans y1
      go_region
      have hBX := (below_drewN 1 ((Below.refl wr.heap.size wr).alloc (Nat.le_refl _) (.cells #[.int .i64 x.1, .int .i64 x.2] 41)))
      have XB : Hid (BoxC (wr.alloc (.cells #[.int .i64 x.1, .int .i64 x.2] 41)).drew wr.heap.size #[.int .i64 x.1, .int .i64 x.2] 41) := BoxC.new wr _ _
      have B2 : Hid (Below V.heap.size V (wr.alloc (.cells #[.int .i64 x.1, .int .i64 x.2] 41)).drew) := B.out.trans (hBX.mono B.out.size)
      have R2 : Hid ((wr.alloc (.cells #[.int .i64 x.1, .int .i64 x.2] 41)).drew.ownsRow V.heap.size 41 2 (.slice a1 ks.length c1) ks.length (ks.flatMap lkC)) := ownk_below RO.out hBX
      have CAP : Hid (ks.length ≤ c1 ∧ c1 ≤ maxLen) := by
        obtain ⟨a2, c2, e2, h1, h2⟩ := ownk_form RO.out
        injection e2 with _ _ e3
        subst e3
        exact ⟨h1, h2⟩
      have KN : Hid (ks.length ≤ 1099511627776) := by have := KL.out; have := HL.out; unfold Hid; omega
      clear hBX q0 q1 q2 c0 y0 y1 RO B
      generalize (wr.alloc (.cells #[.int .i64 x.1, .int .i64 x.2] 41)).drew = wx at *
      generalize wr.heap.size = gx at *
      go_upto_block 2 with (fail)
      go_cut [6] (fun kk wi => ∃ (m q : Nat), kk = .int .i64 m ∧ InsAt ks x m ∧ wi = wx.drewN q)
      case first =>
        go_wp2_with (fail)
        go_loopw [6] (fun kk wi => ∃ (m q : Nat), kk = .int .i64 m ∧ Lo ks x m ∧ wi = wx.drewN q) (fun kk _ => ks.length - (intOf kk).toNat)
        case atStart => exact ⟨0, 0, rfl, ⟨Nat.zero_le _, fun i hi h => by omega⟩, rfl⟩
        case round =>
          obtain ⟨m, q, rfl, hlo, hwi⟩ := hrel
          have LO := Lib.hid hlo
          have WI := Lib.hid hwi
          have hm := hlo.1
          clear hlo hwi
          have EM : Hid (wrap64 ((m : Int) + 1) = ((m + 1 : Nat) : Int)) := by have := KN.out; unfold Hid wrap64; omega
          have b0 : wr.cell? ⟨gx, 0, none⟩ = some (.int .i64 x.1) := by rw [WI.out]; exact XB.out.cell 0 _ rfl
          have b1 : wr.cell? ⟨gx, 1, none⟩ = some (.int .i64 x.2) := by rw [WI.out]; exact XB.out.cell 1 _ rfl
          by_cases hml : m < ks.length
          · obtain ⟨gk, ck, ek, _⟩ := R2.out.form (by omega)
            injection ek with ek1 ek2 ek3
            subst ek1
            clear ek2 ek3
            obtain ⟨z0, z1⟩ := own_link R2.out hml
            have LN := Lib.hid (fun h => LO.out.next hml h)
            have hdm : decide ((m : Int) < (ks.length : Int)) = true := decide_eq_true (by omega)
            have hmi : (m : Int) < (ks.length : Int) := by omega
            have y0 : wr.cell? ⟨gk, m * 2, none⟩ = some (.int .i64 ks[m].1) := by rw [WI.out]; exact z0
            have y1 : wr.cell? ⟨gk, m * 2 + 1, none⟩ = some (.int .i64 ks[m].2) := by rw [WI.out]; exact z1
            have NX : Hid (ltL ks[m] x = false → InsAt ks x m) := fun h => ⟨LO.out, fun _ => h⟩
            have KM := Lib.hid hml
            clear z0 z1
            generalize ks[m] = y at *
            rcases ltL_cases y x with ⟨h1, h3⟩ | ⟨h1, h2, h3⟩ | ⟨h1, h2, h3⟩ | ⟨h1, h2, h3⟩
            · have L3 := Lib.hid (LN.out h3)
              have hb1 : decide (y.1 < x.1) = true := decide_eq_true h1
              clear h3 LN NX
              generalize y.1 = ya at *
              generalize y.2 = yb at *
              go_upto_region 8 with fail
              go_quiet (fail)
              go_wp2
              go_roundw
              case rel => exact ⟨m + 1, q + nq, by rw [EM.out], L3.out, by rw [WI.out, World.drewN_drewN]⟩
              case measure => exact mea_l ks m EM.out KM.out
            · have L3 := Lib.hid (LN.out h3)
              have hb1 : decide (y.1 < x.1) = false := decide_eq_false (by omega)
              have hb2 : (y.1 == x.1) = true := by simp [h1]
              have hb3 : decide (y.2 < x.2) = true := decide_eq_true h2
              clear h3 LN NX
              go_upto_region 8 with fail
              go_quiet (fail)
              go_wp2
              go_roundw
              case rel => exact ⟨m + 1, q + nq, by rw [EM.out], L3.out, by rw [WI.out, World.drewN_drewN]⟩
              case measure => exact mea_l ks m EM.out KM.out
            · have L3 := Lib.hid (NX.out h3)
              have hb1 : decide (y.1 < x.1) = false := decide_eq_false (by omega)
              have hb2 : (y.1 == x.1) = true := by simp [h1]
              have hb3 : decide (y.2 < x.2) = false := decide_eq_false h2
              clear h3 LN NX
              go_upto_region 7 with fail
              go_quiet (fail)
              go_wp2
              go_meet
              case rel => exact ⟨m, q + nq, rfl, L3.out, by rw [WI.out, World.drewN_drewN]⟩
            · have L3 := Lib.hid (NX.out h3)
              have hb1 : decide (y.1 < x.1) = false := decide_eq_false h1
              have hb2 : (y.1 == x.1) = false := by simp [h2]
              clear h3 LN NX
              go_upto_region 7 with fail
              go_quiet (fail)
              go_wp2
              go_meet
              case rel => exact ⟨m, q + nq, rfl, L3.out, by rw [WI.out, World.drewN_drewN]⟩
          · have hdm : decide ((m : Int) < (ks.length : Int)) = false := decide_eq_false (by omega)
            have L3 : Hid (InsAt ks x m) := ⟨LO.out, fun h => absurd h hml⟩
            go_upto_region 7 with fail
            go_quiet (fail)
            go_wp2
            go_meet
            case rel => exact ⟨m, q + nq, rfl, L3.out, by rw [WI.out, World.drewN_drewN]⟩
      case rest =>
        obtain ⟨m, q, rfl, hia, hwi⟩ := hcut
        have IA := Lib.hid hia
        have hm := hia.1.1
        have hwb : Below wx.heap.size wx wc := by rw [hwi]; exact below_drewN q (Below.refl _ _)
        have BB0 : Hid (Below V.heap.size V wc) := B2.out.trans (hwb.mono B2.out.size)
        have R3 : Hid (wc.ownsRow V.heap.size 41 2 (.slice a1 ks.length c1) ks.length (ks.flatMap lkC)) := ownk_below R2.out hwb
        have X3 : Hid (BoxC wc gx #[.int .i64 x.1, .int .i64 x.2] 41) := XB.out.below hwb
        clear hia hwi hwb B2 R2 XB
        have b0 := X3.out.cell 0 _ rfl
        have b1 := X3.out.cell 1 _ rfl
        have hc1 := CAP.out.1
        have hc2 := CAP.out.2
        have hkn := KN.out
        have hi1 : (m : Int) ≤ (c1 : Int) := by omega
        have hi2 : (m : Int) ≤ (ks.length : Int) := by omega
        have hi3 : (ks.length : Int) ≤ (c1 : Int) := by omega
        by_cases hml : m < ks.length
        · obtain ⟨gk, ck, ek, _⟩ := R3.out.form (by omega)
          injection ek with ek1 ek2 ek3
          subst ek1
          clear ek2 ek3
          obtain ⟨z0, z1⟩ := own_link R3.out hml
          have hdm : decide ((m : Int) < (ks.length : Int)) = true := decide_eq_true (by omega)
          have hmi : (m : Int) < (ks.length : Int) := by omega
          by_cases hyx : ks[m] = x
          · have HXM : Hid (x ∈ ks) := by rw [← hyx]; exact List.getElem_mem hml
            rw [hyx] at z0 z1
            clear hyx
            go_upto_region 9 with fail
            go_quiet (fail)
            go_wp2
            go_roundw
            case rel => exact ⟨j + 1, by rw [EW.out], hlt, _, c1, ks, rfl, ownk_below R3.out (below_drewN nq (Below.refl _ _)), RI.out, fun y => ⟨fun hy => (LM.out y).2 (.inl hy), fun hy => by rcases (LM.out y).1 hy with h1 | h1; exact h1; rw [h1]; exact HXM.out⟩, by have := KL.out; omega, below_drewN nq BB0.out⟩
            case measure => exact mea_ps ps j EW.out hlt
          · have NEQ : Hid (∀ hi : m < ks.length, ks[m] ≠ x) := fun _ => hyx
            have hq9 : ∀ w, (binOp .eql 41 (.agg #[.int .i64 ks[m].1, .int .i64 ks[m].2]) (.agg #[.int .i64 x.1, .int .i64 x.2])).run Try.prog w = .ok (.bool false) w := fun w => by rw [eqR_bin, decide_eq_false hyx]
            have hb9 : (ks[m].1 == x.1 && ks[m].2 == x.2) = false := by
              cases hc : (ks[m].1 == x.1 && ks[m].2 == x.2)
              · rfl
              · exact absurd (by simp at hc; exact Prod.ext hc.1 hc.2) hyx
            have P1 := Lib.hid (link_part R3.out 0 m (by omega))
            have P2 := Lib.hid (link_part R3.out m (ks.length - m) (by omega))
            have hcm : ¬ c1 = m := by omega
            clear hyx
            generalize ks[m] = y at *
            go_upto_region 9 with fail
            go_quiet (fail)
            have hwq : Below wc.heap.size wc (wc.drewN nq) := below_drewN nq (Below.refl _ _)
            have BB : Hid (Below V.heap.size V (wc.drewN nq)) := BB0.out.trans (hwq.mono BB0.out.size)
            have XX : Hid (BoxC (wc.drewN nq) gx #[.int .i64 x.1, .int .i64 x.2] 41) := X3.out.below hwq
            have E1 : RowAt (wc.drewN nq) (wc.drewN nq).heap.size (some ⟨gk, 0, none⟩) m 2 ((ks.take m).flatMap lkC) := by have := P1.out.below hwq (Nat.le_refl _); simpa using this
            have E2 : Hid (RowAt (wc.drewN nq) (wc.drewN nq).heap.size (some ⟨gk, m * 2, none⟩) (ks.length - m) 2 (((ks.drop m).take (ks.length - m)).flatMap lkC)) := P2.out.below hwq (Nat.le_refl _)
            clear b0 b1 z0 z1 hwq
            generalize wc.drewN nq = wi at *
            go_upto_region 12 with (at_builtin; (refine wpList_append_rowk _ rfl _ _ 38 rfl V.heap.size 41 iL _ 2 16 Try.underlying38 hi hz0 hz1 hz2 rfl (by omega) _ 0 [] rfl (World.ownsRow_nil _ _ _ _) _ (some ⟨gk, 0, none⟩) m c1 ((ks.take m).flatMap lkC) rfl E1 (lkCs_cells _) (by unfold maxLen; omega) (by omega) (by have := BB.out.size; omega) ?_; intro v3 w3 ho3 hg3 hat3; rw [Nat.zero_add, List.nil_append] at ho3; have L3 := Lib.hid (app_below (Below.refl wi.heap.size wi) (fun k e => by cases e) (Nat.le_refl _) hg3); have N3 := Lib.hid (app_new (N := wi.heap.size) (v := .slice none 0 0) (fun k e => by cases e) (Nat.le_refl _) hat3); obtain ⟨a3, c3, rfl, _⟩ := ownk_form ho3; have O3 := Lib.hid ho3; clear ho3 hg3 hat3))
            have x0 := (XX.out.below L3.out).cell 0 _ rfl
            have x1 := (XX.out.below L3.out).cell 1 _ rfl
            have RW := row_lk w3 x 41
            have hw3 := L3.out.size
            go_upto_region 13 with (at_builtin; (refine wpList_append_rowk _ rfl _ _ 38 rfl V.heap.size 41 iL _ 2 16 Try.underlying38 hi hz0 hz1 hz2 rfl (by omega) _ m ((ks.take m).flatMap lkC) rfl (O3.out.alloc _) (w3.heap.size + 1) (some ⟨w3.heap.size, 0, none⟩) 1 1 (lkC x) rfl RW (lkC_one x) (by unfold maxLen; omega) (by omega) (by have := BB.out.size; simp; omega) ?_; intro v5 w5 ho5 hg5 hat5; have L5 := Lib.hid (app_below (L3.out.alloc hw3 (.cells #[.int .i64 x.1, .int .i64 x.2] 41)) N3.out (by simp; omega) hg5); have N5 := Lib.hid (app_new N3.out (by simp; omega) hat5); obtain ⟨a5, c5, rfl, _⟩ := ownk_form ho5; have O5 := Lib.hid ho5; clear ho5 hg5 hat5))
            have E13 : RowAt w5 wi.heap.size (some ⟨gk, m * 2, none⟩) (ks.length - m) 2 (((ks.drop m).take (ks.length - m)).flatMap lkC) := E2.out.below L5.out (Nat.le_refl _)
            have hw5 := L5.out.size
            go_wp2_with (at_builtin; (refine wpList_append_rowk _ rfl _ _ 38 rfl V.heap.size 41 iL _ 2 16 Try.underlying38 hi hz0 hz1 hz2 rfl (by omega) _ (m + 1) ((ks.take m).flatMap lkC ++ lkC x) rfl O5.out wi.heap.size (some ⟨gk, m * 2, none⟩) (ks.length - m) (c1 - m) (((ks.drop m).take (ks.length - m)).flatMap lkC) rfl E13 (lkCs_cells _) (by unfold maxLen; omega) (by omega) (by have := BB.out.size; omega) ?_; intro v7 w7 ho7 hg7 hat7; have L7 := Lib.hid (app_below L5.out N5.out hw5 hg7); obtain ⟨a7, c7, rfl, _⟩ := ownk_form ho7; have O7 := Lib.hid ho7; clear ho7 hg7 hat7))
            have F7 := Lib.hid (ins_row O7.out IA.out.1.1)
            go_roundw
            case rel => exact ⟨j + 1, by rw [EW.out], hlt, a7, c7, ks.take m ++ x :: ks.drop m, by rw [ins_len IA.out.1.1], by rw [ins_len IA.out.1.1] at F7 ⊢; exact F7.out, ins_rise RI.out m IA.out.1.1 (fun i hi => IA.out.1.2 i _ hi) (fun hi => ⟨IA.out.2 hi, NEQ.out hi⟩), fun y => (ins_mem m).trans (LM.out y).symm, by rw [ins_len IA.out.1.1]; have := KL.out; omega, BB.out.trans (L7.out.mono BB.out.size)⟩
            case measure => exact mea_ps ps j EW.out hlt
        · have hdm : decide ((m : Int) < (ks.length : Int)) = false := decide_eq_false (by omega)
          have NEQ : Hid (∀ hi : m < ks.length, ks[m] ≠ x) := fun h => absurd h hml
          have hz : ks.length - m = 0 := by omega
          go_upto_region 9 with fail
          go_quiet (fail)
          have hwq : Below wc.heap.size wc (wc.drewN nq) := below_drewN nq (Below.refl _ _)
          have BB : Hid (Below V.heap.size V (wc.drewN nq)) := BB0.out.trans (hwq.mono BB0.out.size)
          have XX : Hid (BoxC (wc.drewN nq) gx #[.int .i64 x.1, .int .i64 x.2] 41) := X3.out.below hwq
          have R4 := Lib.hid (ownk_below R3.out hwq)
          have DL : Hid (((ks.drop m).take (ks.length - m)).flatMap lkC = []) := by unfold Hid; rw [hz]; rfl
          have HZ := Lib.hid hz
          clear b0 b1 hwq hz
          generalize wc.drewN nq = wi at *
          rcases R4.out.2 with ⟨hnil, hk0⟩ | ⟨gk, cap, cur, hv, _⟩
          · injection hnil with hn1 hn2 hn3
            subst hn1
            subst hn3
            have eks : ks = [] := List.eq_nil_of_length_eq_zero hk0
            subst eks
            obtain rfl : m = 0 := by simpa using hm
            go_upto_region 12 with (at_builtin; (refine wpList_append_rowk _ rfl _ _ 38 rfl V.heap.size 41 iL _ 2 16 Try.underlying38 hi hz0 hz1 hz2 rfl (by omega) _ 0 [] rfl (World.ownsRow_nil _ _ _ _) wi.heap.size none 0 0 [] rfl RowAt.nil (by intro u hu; cases hu) (by unfold maxLen; omega) (by omega) (by have := BB.out.size; omega) ?_; intro v3 w3 ho3 hg3 hat3; rw [Nat.zero_add, List.nil_append] at ho3; have L3 := Lib.hid (app_below (Below.refl wi.heap.size wi) (fun k e => by cases e) (Nat.le_refl _) hg3); have N3 := Lib.hid (app_new (N := wi.heap.size) (v := .slice none 0 0) (fun k e => by cases e) (Nat.le_refl _) hat3); obtain ⟨a3, c3, rfl, _⟩ := ownk_form ho3; have O3 := Lib.hid ho3; clear ho3 hg3 hat3))
            have x0 := (XX.out.below L3.out).cell 0 _ rfl
            have x1 := (XX.out.below L3.out).cell 1 _ rfl
            have RW := row_lk w3 x 41
            have hw3 := L3.out.size
            go_upto_region 13 with (at_builtin; (refine wpList_append_rowk _ rfl _ _ 38 rfl V.heap.size 41 iL _ 2 16 Try.underlying38 hi hz0 hz1 hz2 rfl (by omega) _ 0 [] rfl (O3.out.alloc _) (w3.heap.size + 1) (some ⟨w3.heap.size, 0, none⟩) 1 1 (lkC x) rfl RW (lkC_one x) (by unfold maxLen; omega) (by omega) (by have := BB.out.size; simp; omega) ?_; intro v5 w5 ho5 hg5 hat5; rw [Nat.zero_add, List.nil_append] at ho5; have L5 := Lib.hid (app_below (L3.out.alloc hw3 (.cells #[.int .i64 x.1, .int .i64 x.2] 41)) N3.out (by simp; omega) hg5); have N5 := Lib.hid (app_new N3.out (by simp; omega) hat5); obtain ⟨a5, c5, rfl, _⟩ := ownk_form ho5; have O5 := Lib.hid ho5; clear ho5 hg5 hat5))
            have hw5 := L5.out.size
            go_wp2_with (at_builtin; (refine wpList_append_rowk _ rfl _ _ 38 rfl V.heap.size 41 iL _ 2 16 Try.underlying38 hi hz0 hz1 hz2 rfl (by omega) _ 1 (lkC x) rfl O5.out wi.heap.size none 0 0 [] rfl RowAt.nil (by intro u hu; cases hu) (by unfold maxLen; omega) (by omega) (by have := BB.out.size; omega) ?_; intro v7 w7 ho7 hg7 hat7; have L7 := Lib.hid (app_below L5.out N5.out hw5 hg7); rw [Nat.add_zero, List.append_nil] at ho7; obtain ⟨a7, c7, rfl, _⟩ := ownk_form ho7; have O7 := Lib.hid ho7; clear ho7 hg7 hat7))
            go_roundw
            case rel => exact ⟨j + 1, by rw [EW.out], hlt, a7, c7, [x], rfl, by simpa using O7.out, List.pairwise_singleton _ _, fun y => by rw [LM.out y]; simp, by simp, BB.out.trans (L7.out.mono BB.out.size)⟩
            case measure => exact mea_ps ps j EW.out hlt
          · injection hv with hv1 hv2 hv3
            subst hv1
            clear hv2 hv3
            have E1 : RowAt wi wi.heap.size (some ⟨gk, 0, none⟩) m 2 ((ks.take m).flatMap lkC) := by have := link_part R4.out 0 m (by omega); simpa using this
            have ET : ∀ (a : Option Addr) (w5 : World), RowAt w5 wi.heap.size a (ks.length - m) 2 (((ks.drop m).take (ks.length - m)).flatMap lkC) := fun a w5 => ⟨by rw [DL.out, HZ.out]; rfl, .inl HZ.out⟩
            by_cases hcm : c1 = m
            · subst hcm
              go_upto_region 12 with (at_builtin; (refine wpList_append_rowk _ rfl _ _ 38 rfl V.heap.size 41 iL _ 2 16 Try.underlying38 hi hz0 hz1 hz2 rfl (by omega) _ 0 [] rfl (World.ownsRow_nil _ _ _ _) _ (some ⟨gk, 0, none⟩) c1 c1 ((ks.take c1).flatMap lkC) rfl E1 (lkCs_cells _) (by unfold maxLen; omega) (by omega) (by have := BB.out.size; omega) ?_; intro v3 w3 ho3 hg3 hat3; rw [Nat.zero_add, List.nil_append] at ho3; have L3 := Lib.hid (app_below (Below.refl wi.heap.size wi) (fun k e => by cases e) (Nat.le_refl _) hg3); have N3 := Lib.hid (app_new (N := wi.heap.size) (v := .slice none 0 0) (fun k e => by cases e) (Nat.le_refl _) hat3); obtain ⟨a3, c3, rfl, _⟩ := ownk_form ho3; have O3 := Lib.hid ho3; clear ho3 hg3 hat3))
              have x0 := (XX.out.below L3.out).cell 0 _ rfl
              have x1 := (XX.out.below L3.out).cell 1 _ rfl
              have RW := row_lk w3 x 41
              have hw3 := L3.out.size
              go_upto_region 13 with (at_builtin; (refine wpList_append_rowk _ rfl _ _ 38 rfl V.heap.size 41 iL _ 2 16 Try.underlying38 hi hz0 hz1 hz2 rfl (by omega) _ c1 ((ks.take c1).flatMap lkC) rfl (O3.out.alloc _) (w3.heap.size + 1) (some ⟨w3.heap.size, 0, none⟩) 1 1 (lkC x) rfl RW (lkC_one x) (by unfold maxLen; omega) (by omega) (by have := BB.out.size; simp; omega) ?_; intro v5 w5 ho5 hg5 hat5; have L5 := Lib.hid (app_below (L3.out.alloc hw3 (.cells #[.int .i64 x.1, .int .i64 x.2] 41)) N3.out (by simp; omega) hg5); have N5 := Lib.hid (app_new N3.out (by simp; omega) hat5); obtain ⟨a5, c5, rfl, _⟩ := ownk_form ho5; have O5 := Lib.hid ho5; clear ho5 hg5 hat5))
              have E13 : RowAt w5 wi.heap.size (some ⟨gk, 0, none⟩) (ks.length - c1) 2 (((ks.drop c1).take (ks.length - c1)).flatMap lkC) := ET _ _
              have hw5 := L5.out.size
              go_wp2_with (at_builtin; (refine wpList_append_rowk _ rfl _ _ 38 rfl V.heap.size 41 iL _ 2 16 Try.underlying38 hi hz0 hz1 hz2 rfl (by omega) _ (c1 + 1) ((ks.take c1).flatMap lkC ++ lkC x) rfl O5.out wi.heap.size (some ⟨gk, 0, none⟩) 0 0 [] rfl RowAt.nil (by intro u hu; cases hu) (by unfold maxLen; omega) (by omega) (by have := BB.out.size; omega) ?_; intro v7 w7 ho7 hg7 hat7; have L7 := Lib.hid (app_below L5.out N5.out hw5 hg7); have ho8 : w7.ownsRow V.heap.size 41 2 v7 (c1 + 1 + (ks.length - c1)) ((ks.take c1).flatMap lkC ++ lkC x ++ ((ks.drop c1).take (ks.length - c1)).flatMap lkC) := (by rw [DL.out, HZ.out]; exact ho7); obtain ⟨a7, c7, rfl, _⟩ := ownk_form ho8; have O7 := Lib.hid ho8; clear ho7 hg7 hat7 ho8))
              have F7 := Lib.hid (ins_row O7.out IA.out.1.1)
              go_roundw
              case rel => exact ⟨j + 1, by rw [EW.out], hlt, a7, c7, ks.take c1 ++ x :: ks.drop c1, by rw [ins_len IA.out.1.1, HZ.out], by rw [ins_len IA.out.1.1] at F7 ⊢; exact F7.out, ins_rise RI.out c1 IA.out.1.1 (fun i hi => IA.out.1.2 i _ hi) (fun hi => ⟨IA.out.2 hi, NEQ.out hi⟩), fun y => (ins_mem c1).trans (LM.out y).symm, by rw [ins_len IA.out.1.1]; have := KL.out; omega, BB.out.trans (L7.out.mono BB.out.size)⟩
              case measure => exact mea_ps ps j EW.out hlt
            ·
              go_upto_region 12 with (at_builtin; (refine wpList_append_rowk _ rfl _ _ 38 rfl V.heap.size 41 iL _ 2 16 Try.underlying38 hi hz0 hz1 hz2 rfl (by omega) _ 0 [] rfl (World.ownsRow_nil _ _ _ _) _ (some ⟨gk, 0, none⟩) m c1 ((ks.take m).flatMap lkC) rfl E1 (lkCs_cells _) (by unfold maxLen; omega) (by omega) (by have := BB.out.size; omega) ?_; intro v3 w3 ho3 hg3 hat3; rw [Nat.zero_add, List.nil_append] at ho3; have L3 := Lib.hid (app_below (Below.refl wi.heap.size wi) (fun k e => by cases e) (Nat.le_refl _) hg3); have N3 := Lib.hid (app_new (N := wi.heap.size) (v := .slice none 0 0) (fun k e => by cases e) (Nat.le_refl _) hat3); obtain ⟨a3, c3, rfl, _⟩ := ownk_form ho3; have O3 := Lib.hid ho3; clear ho3 hg3 hat3))
              have x0 := (XX.out.below L3.out).cell 0 _ rfl
              have x1 := (XX.out.below L3.out).cell 1 _ rfl
              have RW := row_lk w3 x 41
              have hw3 := L3.out.size
              go_upto_region 13 with (at_builtin; (refine wpList_append_rowk _ rfl _ _ 38 rfl V.heap.size 41 iL _ 2 16 Try.underlying38 hi hz0 hz1 hz2 rfl (by omega) _ m ((ks.take m).flatMap lkC) rfl (O3.out.alloc _) (w3.heap.size + 1) (some ⟨w3.heap.size, 0, none⟩) 1 1 (lkC x) rfl RW (lkC_one x) (by unfold maxLen; omega) (by omega) (by have := BB.out.size; simp; omega) ?_; intro v5 w5 ho5 hg5 hat5; have L5 := Lib.hid (app_below (L3.out.alloc hw3 (.cells #[.int .i64 x.1, .int .i64 x.2] 41)) N3.out (by simp; omega) hg5); have N5 := Lib.hid (app_new N3.out (by simp; omega) hat5); obtain ⟨a5, c5, rfl, _⟩ := ownk_form ho5; have O5 := Lib.hid ho5; clear ho5 hg5 hat5))
              have E13 : RowAt w5 wi.heap.size (some ⟨gk, m * 2, none⟩) (ks.length - m) 2 (((ks.drop m).take (ks.length - m)).flatMap lkC) := ET _ _
              have hw5 := L5.out.size
              go_wp2_with (at_builtin; (refine wpList_append_rowk _ rfl _ _ 38 rfl V.heap.size 41 iL _ 2 16 Try.underlying38 hi hz0 hz1 hz2 rfl (by omega) _ (m + 1) ((ks.take m).flatMap lkC ++ lkC x) rfl O5.out wi.heap.size (some ⟨gk, m * 2, none⟩) (ks.length - m) (c1 - m) (((ks.drop m).take (ks.length - m)).flatMap lkC) rfl E13 (lkCs_cells _) (by unfold maxLen; omega) (by omega) (by have := BB.out.size; omega) ?_; intro v7 w7 ho7 hg7 hat7; have L7 := Lib.hid (app_below L5.out N5.out hw5 hg7); obtain ⟨a7, c7, rfl, _⟩ := ownk_form ho7; have O7 := Lib.hid ho7; clear ho7 hg7 hat7))
              have F7 := Lib.hid (ins_row O7.out IA.out.1.1)
              go_roundw
              case rel => exact ⟨j + 1, by rw [EW.out], hlt, a7, c7, ks.take m ++ x :: ks.drop m, by rw [ins_len IA.out.1.1], by rw [ins_len IA.out.1.1] at F7 ⊢; exact F7.out, ins_rise RI.out m IA.out.1.1 (fun i hi => IA.out.1.2 i _ hi) (fun hi => ⟨IA.out.2 hi, NEQ.out hi⟩), fun y => (ins_mem m).trans (LM.out y).symm, by rw [ins_len IA.out.1.1]; have := KL.out; omega, BB.out.trans (L7.out.mono BB.out.size)⟩
              case measure => exact mea_ps ps j EW.out hlt
    · obtain rfl : j = ps.length := by omega
      clear hj
      go_wp2
      go_ret
      exact ⟨_, rfl, a1, c1, ks, rfl, RO.out, RI.out, ME.out, KL.out, B.out⟩
end Go.Proofs.Ytgdgjgcmglgfmaa
