/- Contract of the document's net's Move. Condition: the net lies in memory. -/
import Derived.Test.YtgdgjgcmglgfmaaNetRefA
import Derived.Test.YtgdgjgcmglgfmaaNetInsert
import Derived.Deep.RegionWith
namespace Go.Proofs.Ytgdgjgcmglgfmaa

open Go.RowKit

set_option linter.unusedVariables false
set_option linter.unusedSimpArgs false

/-- What has come back of a link's packets when j rounds are over. -/
def mvL (rest : List Pc) (wh : Nat) (p : Pc) (j : Nat) : List Pc := if j ≤ wh then rest.take j else rest.take wh ++ p :: (rest.drop wh).take (j - wh)
theorem mvL_zero (rest : List Pc) (wh : Nat) (p : Pc) : mvL rest wh p 0 = [] := by unfold mvL; rw [if_pos (Nat.zero_le _)]; rfl
theorem mvL_here (rest : List Pc) (wh : Nat) (p : Pc) (h : wh < rest.length) : mvL rest wh p (wh + 1) = (mvL rest wh p wh ++ [p]) ++ [rest[wh]] := by
  unfold mvL
  have e : (rest.drop wh).take 1 = [rest[wh]] := by rw [List.drop_eq_getElem_cons h]; rfl
  rw [if_neg (by omega), if_pos (Nat.le_refl _), show wh + 1 - wh = 1 by omega, e]
  simp
theorem mvL_last (rest : List Pc) (wh : Nat) (p : Pc) (h : wh = rest.length) : mvL rest wh p (wh + 1) = mvL rest wh p wh ++ [p] := by
  unfold mvL
  rw [if_neg (by omega), if_pos (Nat.le_refl _), h]
  simp
theorem mvL_next (rest : List Pc) (wh : Nat) (p : Pc) (j : Nat) (hj : j < rest.length) (hne : j ≠ wh) : mvL rest wh p (j + 1) = mvL rest wh p j ++ [rest[j]] := by
  unfold mvL
  by_cases h : j < wh
  · rw [if_pos (by omega), if_pos (by omega), List.take_succ_eq_append_getElem hj]
  · rw [if_neg (by omega), if_neg (by omega), show j + 1 - wh = (j - wh) + 1 by omega]
    have hd : j - wh < (rest.drop wh).length := by rw [List.length_drop]; omega
    rw [List.take_succ_eq_append_getElem hd, List.getElem_drop]
    have e : wh + (j - wh) = j := by omega
    simp [e]
theorem mvL_over (rest : List Pc) (wh : Nat) (p : Pc) (hne : rest.length ≠ wh) (hw : wh ≤ rest.length) : mvL rest wh p (rest.length + 1) = mvL rest wh p rest.length := by
  unfold mvL
  rw [if_neg (by omega), if_neg (by omega), List.take_of_length_le (l := rest.drop wh) (by rw [List.length_drop]; omega), List.take_of_length_le (l := rest.drop wh) (by rw [List.length_drop]; omega)]
theorem mvL_all (rest : List Pc) (wh : Nat) (p : Pc) (hw : wh ≤ rest.length) : mvL rest wh p (rest.length + 1) = putAt rest wh p := by
  unfold mvL putAt
  rw [if_neg (by omega), List.take_of_length_le (l := rest.drop wh) (by rw [List.length_drop]; omega)]
theorem mvL_len (rest : List Pc) (wh : Nat) (p : Pc) (j : Nat) : (mvL rest wh p j).length ≤ rest.length + 1 := by
  unfold mvL
  split
  · rw [List.length_take]; omega
  · rw [List.length_append, List.length_cons, List.length_take, List.length_take, List.length_drop]; omega
theorem cnt_erase (ps : List Pc) (k : Lk) (i : Nat) (hi : i < ps.length) : cnt (ps.eraseIdx i) k + (if ps[i].k = k then 1 else 0) = cnt ps k := by
  have e : ps = ps.take i ++ ps[i] :: ps.drop (i + 1) := by rw [List.getElem_cons_drop, List.take_append_drop]
  rw [List.eraseIdx_eq_take_drop_succ, cnt_app]
  conv => rhs; rw [e, cnt_app, cnt_cons]
  omega
theorem move_where {ps : List Pc} {k : Lk} {i i2 : Nat} (hi : i < ps.length) (hk : ps[i].k = k) (hi2 : i2 < ps.length) (hk2 : ps[i2].k = k) : cnt (ps.take i2) k ≤ (fl (ps.eraseIdx i) k).length := by
  have h1 := cnt_erase ps k i hi
  rw [if_pos hk] at h1
  have h2 := cnt_take ps k i2 hi2
  rw [if_pos hk2] at h2
  have h3 := cnt_mono ps k (i2 + 1) ps.length hi2
  rw [List.take_length] at h3
  show _ ≤ cnt (ps.eraseIdx i) k
  omega
section

variable {W0 V V1 V2 : World} {h : Nat} {own own1 : List Nat} {ps ps1 ps2 : List Pc} {v : Value}

theorem RStep.then (hF : Fr V V1 own) (ho : ∀ i ∈ own1, i ∈ own ∨ V.heap.size ≤ i) (h2 : RStep W0 V1 V2 h own1 ps2) : RStep W0 V V2 h own ps2 := by
  obtain ⟨own2, hr, hF2, ho2⟩ := h2
  refine ⟨own2, hr, Fr.trans hF hF2 ho, fun i hi => ?_⟩
  rcases ho2 i hi with e | e
  · exact ho i e
  · exact .inr (Nat.le_trans hF.size e)
theorem RefIn.bel (H : RefIn W0 V h v ps) (hF : Fr V V1 (ownR h v)) : Below W0.heap.size V V1 := Fr.below (Below.refl _ _) hF H.size fun i hi => (H.lt i hi).1
end

/-- Append at a step of a drawn region. -/
theorem step_append_k {P : Program} (w : World) {ops : Array Oper} {o : Oper} {a' : Act} {K : Act → World → Prop} {Q : Exit → Act → World → Prop} {E : Prop} (hgd : o.guard = none) (s x : Operand) (t : TypeId)
    (ho : o.op = .call { callee := .builtin .append, args := #[s, x], argTypes := #[t, t] })
    (base : Nat) (e : TypeId) (i : TypeInfo) (z : Value) (k bytes : Nat) (ht : P.underlying t = some (.slice e)) (hi : P.info? e = some i) (hz : i.zero = some z)
    (hsize : i.size = k) (hby : i.bytes = bytes) (hzs : z.cells.size = k) (hk : 0 < k) (v : Value) (n : Nat) (xs : List Value) (hs : a'.eval s = v) (hown : w.ownsRow base e k v n xs)
    (B : Nat) (a : Option Addr) (m c : Nat) (news : List Value) (hx : a'.eval x = .slice a m c) (hr : RowAt w B a m k news) (h1 : ∀ u ∈ news, u.oneCell' = true)
    (h63 : n + m ≤ maxLen) (hlen : (n + m) * bytes ≤ 140737488355328) (hbase : base ≤ w.heap.size)
    (h : ∀ v' w', w'.ownsRow base e k v' (n + m) (xs ++ news) → w.grownBy w' v.ownBlock → (v'.ownBlock = v.ownBlock ∨ v'.ownBlock = some w.heap.size) → K (a'.put o.dst v') w') :
    if Region.wanted o (yielded ops a'.tmps) = true then Oper.wp P o a' w K Q else E := by
  have hw : Region.wanted o (yielded ops a'.tmps) = true := by simp [Region.wanted, hgd]
  rw [if_pos hw]
  obtain ⟨v', w', hrun, h2, h3, h4⟩ := run_append_rowk (P := P) w base t o.type e i z k bytes ht hi hz hsize hby hzs hk v n xs hown B a m c news hr h1 h63 hlen hbase
  unfold Oper.wp execOp
  simp only [ho, resolve, invoke, builtin, Sem.run_bind, Sem.run_pure, Result.andThen_ok, List.map_toArray, List.map_cons, List.map_nil, hs, hx, hrun]
  exact h v' w' h2 h3 h4
/-- One packet more. -/
theorem ref_push {W0 V w2 w3 : World} {h : Nat} {v v3 : Value} {ps : List Pc} {p : Pc} (H : RefIn W0 V h v ps) (hb : Below V.heap.size V w2) (ho : w3.ownsRow W0.heap.size 70 3 v3 (ps.length + 1) (ps.flatMap pcC ++ pcC p)) (hg : w2.grownBy w3 v.ownBlock)
    (hat : v3.ownBlock = v.ownBlock ∨ v3.ownBlock = some w2.heap.size) (hp : BAt V W0.heap.size p.a p.n p.l) :
    BoxC w3 h #[v] 30 ∧ RStep W0 V (w3.setCell ⟨h, 0, none⟩ v3) h (ownR h v) (ps ++ [p]) := by
  have hF3 : Fr V w3 v.ownBlock.toList := Fr.trans (Fr.of_below (own := v.ownBlock.toList) hb) (fr_opt hg) (fun i hi => .inl hi)
  refine ⟨box_fr H.box hF3 (fun e => H.ne (by simpa using e)), ref_store H hF3 (by rw [flC_snoc, List.length_append]; exact ho) ?_ ?_⟩
  · rcases hat with e | e
    · exact .inl e
    · exact .inr fun j hj => by rw [e] at hj; injection hj with hj; have := hb.size; omega
  · intro q hq
    rcases List.mem_append.1 hq with hq | hq
    · exact H.pk q hq
    · simp at hq; subst hq; exact hp

theorem mea_m (m i : Nat) (h1 : wrap64 ((i : Int) + 1) = ((i + 1 : Nat) : Int)) (h2 : i < m) : m - (intOf (Value.int .i64 (wrap64 ((i : Int) + 1)))).toNat < m - (intOf (Value.int .i64 ((i : Nat) : Int))).toNat := by
  rw [h1]
  show m - (i + 1) < m - i
  omega
set_option maxRecDepth 100000 in
set_option maxHeartbeats 8000000 in
theorem moveR_yes (W0 V : World) (h : Nat) (v : Value) (ps : List Pc) (H : RefIn W0 V h v ps) (hl : ps.length ≤ 1099511627776) (f t : Int) (i i2 : Nat) (hi : i < ps.length) (hk : ps[i].k = (f, t)) (hi2 : i2 < ps.length) (hk2 : ps[i2].k = (f, t)) (p : Pc) (hp : ps[i] = p) :
    Calls Try.prog 27 #[.pointer (some ⟨h, 0, none⟩), .int .i64 f, .int .i64 t, .int .i64 (cnt (ps.take i) (f, t) : Nat), .int .i64 (cnt (ps.take i2) (f, t) : Nat)] V fun e w' => e = .returned (.bool true) ∧ RStep W0 V w' h (ownR h v) (flt (ps.eraseIdx i) f t true ++ putAt (fl (ps.eraseIdx i) (f, t)) (cnt (ps.take i2) (f, t)) p) := by
  obtain ⟨i0, iz, hz0, hz1, hz2⟩ := info_parts Try.info70
  have cP := place_yes H hl f t hi hk
  have cP2 := place_yes H hl f t hi2 hk2
  obtain ⟨g, c, rfl, y0, y1, y2⟩ := H.at_ hi
  have cT := takeR_yes W0 V h g c ps H hl f t i hi hk p hp
  have hge : decide ((i : Int) < 0) = false := decide_eq_false (by omega)
  have hge2 : decide ((i2 : Int) < 0) = false := decide_eq_false (by omega)
  have HE : Hid ((ps.eraseIdx i).length ≤ 1099511627776) := by unfold Hid; rw [List.length_eraseIdx, if_pos hi]; omega
  have HS : Hid (∀ q ∈ ps.eraseIdx i, q ∈ ps) := fun q hq => List.mem_of_mem_eraseIdx hq
  have HK : Hid (p.k = (f, t)) := by rw [← hp]; exact hk
  have HPM : Hid (p ∈ ps) := by rw [← hp]; exact List.getElem_mem hi
  have WH : Hid (cnt (ps.take i2) (f, t) ≤ (fl (ps.eraseIdx i) (f, t)).length) := move_where hi hk hi2 hk2
  have HL := Lib.hid hl
  have HH := Lib.hid H
  generalize ps.eraseIdx i = ps1 at *
  generalize cnt (ps.take i2) (f, t) = wh at *
  generalize cnt (ps.take i) (f, t) = at_ at *
  clear H hl hk hk2 hi2 hp y0 y1 y2 hi
  go_enter Try.func27, Try.ntmps27
  go_upto_region 4 with (first | (go_at_call 39; ((with_reducible refine cP.mono ?_); rintro e w1 ⟨rfl, rfl⟩)) | (go_at_call 39; ((with_reducible refine cP2.mono ?_); rintro e w1 ⟨rfl, rfl⟩)) | (go_at_call 24; ((with_reducible refine cT.mono ?_); rintro e V1 ⟨rfl, own1, ⟨v1, hr1, rfl⟩, hF1, ho1⟩; have R1 := Lib.hid hr1; have F1 := Lib.hid hF1; have O1 := Lib.hid ho1; clear hr1 hF1 ho1)))
  clear cP cP2 cT hge hge2
  have cB := bagR_any W0 V1 h v1 ps1 R1.out HE.out f t
  go_upto_region 5 with (go_at_call 17; ((with_reducible refine cB.mono ?_); rintro e V2 ⟨a2, c2, rfl, hrow2, hb2⟩; have B2 := Lib.hid hb2; have Q2 := Lib.hid hrow2; clear hrow2 hb2))
  clear cB
  have R2 := Lib.hid (R1.out.below B2.out)
  have cD := dropR_any W0 V2 h v1 ps1 R2.out HE.out f t true
  go_upto_region 6 with (go_at_call 40; ((with_reducible refine cD.mono ?_); rintro e V3 ⟨rfl, own3, ⟨v3, hr3, rfl⟩, hF3, ho3⟩; have R3 := Lib.hid hr3; have F3 := Lib.hid hF3; have O3 := Lib.hid ho3; clear hr3 hF3 ho3))
  clear cD
  have QF : Hid (∀ W', Fr V3 W' (ownR h v3) → W'.ownsRow V1.heap.size 32 1 (.slice a2 (cnt ps1 (f, t)) c2) (cnt ps1 (f, t)) (slV (fl ps1 (f, t)))) := fun W' hF => by
    have hq := Q2.out
    refine ⟨hq.1, ?_⟩
    rcases hq.2 with h1 | ⟨j, cap, cur, hv, hj, hh, hr⟩
    · exact .inl h1
    · have hj2 : j < V2.heap.size := lt_of_heap hh
      have n1 : j ∉ ownR h v1 := fun e => by have := (R1.out.lt j e).2; omega
      have n3 : j ∉ ownR h v3 := fun e => by
        rcases O3.out j e with e2 | e2
        · exact n1 e2
        · omega
      have e3 := F3.out.block j hj2 n1
      exact .inr ⟨j, cap, cur, hv, hj, (hF.block j (by have := F3.out.size; omega) n3).trans (e3.trans hh), hr⟩
  have B0 : Hid (Below W0.heap.size V V3) := (HH.out.bel F1.out).trans ((B2.out.mono R1.out.size).trans (R2.out.bel F3.out))
  have PB : Hid (∀ q ∈ ps, BAt V3 W0.heap.size q.a q.n q.l) := fun q hq => (HH.out.pk q hq).below B0.out (Nat.le_refl _)
  have RS : Hid (∀ q ∈ fl ps1 (f, t), q ∈ ps) := fun q hq => HS.out q (List.mem_filter.1 hq).1
  have RK : Hid (∀ q ∈ fl ps1 (f, t), q.k = (f, t)) := fun q hq => of_decide_eq_true (List.mem_filter.1 hq).2
  have NB : Hid ((flt ps1 f t true).length ≤ 1099511627776) := Nat.le_trans (flt_le ps1 f t true) HE.out
  have NR : Hid (cnt ps1 (f, t) = (fl ps1 (f, t)).length) := rfl
  have NR2 : Hid ((fl ps1 (f, t)).length ≤ 1099511627776) := Nat.le_trans (cnt_le ps1 (f, t)) HE.out
  have R0 := Lib.hid (RStep.same R3.out (Below.refl _ _))
  have FIN : Hid (∀ W' qs, RStep W0 V3 W' h (ownR h v3) qs → RStep W0 V W' h (ownR h (.slice (some ⟨g, 0, none⟩) ps.length c)) qs) := fun W' qs hs =>
    RStep.then F1.out O1.out (RStep.then (Fr.of_below B2.out) (fun i hi => .inl hi) (RStep.then F3.out O3.out hs))
  generalize hb : flt ps1 f t true = base at *
  generalize hr : fl ps1 (f, t) = rest at *
  generalize hm : cnt ps1 (f, t) = n2 at *
  have HBS := Lib.hid hb
  have HRS := Lib.hid hr
  clear hm hb hr
  go_wp2
  go_loopw [14] (fun i wr => ∃ (j : Nat), i = .int .i64 j ∧ j ≤ n2 + 1 ∧ RStep W0 V3 wr h (ownR h v3) (base ++ mvL rest wh p j)) (fun i _ => n2 + 1 - (intOf i).toNat)
  case atStart => exact ⟨0, rfl, Nat.zero_le _, by rw [mvL_zero, List.append_nil]; exact R0.out⟩
  case round =>
    obtain ⟨j, rfl, hj, own', ⟨v', hr, rfl⟩, hF, ho⟩ := hrel
    clear R0 R2 R1 Q2 O1 F1 B2 F3 O3
    have LB : Hid ((base ++ mvL rest wh p j).length ≤ 2199023255553) := by
      have h1 := mvL_len rest wh p j
      have h2 := NB.out
      have h3 := NR2.out
      unfold Hid
      rw [List.length_append]
      omega
    generalize hL : base ++ mvL rest wh p j = L at *
    have HLL := Lib.hid hL
    have R := Lib.hid hr
    have F := Lib.hid hF
    have O := Lib.hid ho
    clear hr hF ho hL
    have EW : Hid (wrap64 ((j : Int) + 1) = ((j + 1 : Nat) : Int)) := by have := NR.out; have := NR2.out; unfold Hid wrap64; omega
    have c0 := R.out.cell.1
    have f0 := R.out.cell.2
    by_cases hle : j ≤ n2
    · have hd : decide ((j : Int) ≤ (n2 : Int)) = true := decide_eq_true (by omega)
      by_cases hw : j = wh
      · subst hw
        have RW := row_one wr ⟨(f, t), p.a, p.n, p.c, p.l⟩ 70
        have D3 := LB.out
        have D4 := R.out.size
        obtain ⟨a4, c4, hv4, _⟩ := R.out.form
        subst hv4
        go_upto_region 11 with (at_builtin; (refine wpList_append_rowk _ rfl _ _ 28 rfl W0.heap.size 70 i0 _ 3 40 Try.underlying28 iz hz0 hz1 hz2 rfl (by omega) _ L.length (L.flatMap pcC) rfl (R.out.row.alloc _) (wr.heap.size + 1) (some ⟨wr.heap.size, 0, none⟩) 1 1 (pcC ⟨(f, t), p.a, p.n, p.c, p.l⟩) rfl RW (pcC_cells _) (by unfold maxLen; omega) (by omega) (by simp; omega) ?_; intro v6 w6 ho6 hg6 hat6; obtain ⟨a6, c6, rfl, _⟩ := ownk_form ho6; have P6 := Lib.hid (ref_push R.out ((Below.refl _ _).alloc (Nat.le_refl _) _) ho6 hg6 hat6 ((PB.out p HPM.out).below (R3.out.bel F.out) (Nat.le_refl _))); have z6 := P6.out.1.cell 0 _ rfl; have f6 := P6.out.1.frozen 0; clear ho6 hg6 hat6))
        have P7 := P6.out.2
        rw [pc_eta p (f, t) HK.out] at P7
        clear P6 z6 f6 c0 f0 RW D4
        generalize w6.setCell ⟨h, 0, none⟩ (.slice a6 (L.length + 1) c6) = wx at *
        obtain ⟨own8, ⟨v8, hr8, rfl⟩, hF8, ho8⟩ := P7
        have R8 := Lib.hid hr8
        have F8 : Hid (Fr V3 wx (ownR h v3)) := Fr.trans F.out hF8 O.out
        have O8 : Hid (∀ i ∈ ownR h v8, i ∈ ownR h v3 ∨ V3.heap.size ≤ i) := fun i hi => by
          rcases ho8 i hi with e | e
          · exact O.out i e
          · exact .inr (Nat.le_trans F.out.size e)
        have c0 := R8.out.cell.1
        have f0 := R8.out.cell.2
        clear hr8 hF8 ho8
        have LB8 : Hid ((L ++ [p]).length ≤ 2199023255554) := by unfold Hid; rw [List.length_append]; simp; omega
        have HL8 : Hid (∃ M, L ++ [p] = M) := ⟨_, rfl⟩
        obtain ⟨M, hM⟩ := HL8.out
        rw [hM] at R8 LB8
        have HM := Lib.hid hM
        clear hM HL8 D3
        by_cases hlt : j < n2
        · have hd2 : decide ((j : Int) < (n2 : Int)) = true := decide_eq_true (by omega)
          have hin : (j : Int) < (n2 : Int) := by omega
          obtain ⟨q, hq⟩ : ∃ q, rest[j]'(by have := NR.out; omega) = q := ⟨_, rfl⟩
          have HQ := Lib.hid hq
          have QM : Hid (q ∈ rest) := by rw [← hq]; exact List.getElem_mem _
          have HX : Hid (base ++ mvL rest j p (j + 1) = M ++ [q]) := by unfold Hid; rw [mvL_here rest j p (by have := NR.out; omega), HQ.out, ← List.append_assoc, ← List.append_assoc, HLL.out, HM.out]
          clear hq R F O
          have QR := QF.out wx F8.out
          obtain ⟨jr, cr, er, _⟩ := QR.form (by omega)
          injection er with er
          subst er
          have y0 := QR.cells (g := jr) rfl j (.slice q.a q.n q.c) (by unfold slV; rw [List.getElem?_map, List.getElem?_eq_getElem (by have := NR.out; omega), HQ.out]; rfl)
          rw [add_plain, Nat.zero_add] at y0
          obtain ⟨a5, c5, hv5, _⟩ := R8.out.form
          subst hv5
          clear QR
          go_upto_region 12 with fail
          have z0 : wx.drew.cell? ⟨h, 0, none⟩ = some (.slice a5 M.length c5) := c0
          have z1 : wx.drew.cell? ⟨jr, j, none⟩ = some (.slice q.a q.n q.c) := y0
          have zf : wx.drew.frozen? ⟨h, 0, none⟩ = false := f0
          have zA : ∀ o, (wx.alloc o).drew.cell? ⟨h, 0, none⟩ = some (.slice a5 M.length c5) := fun o => (R8.out.box.below ((Below.refl _ _).alloc (Nat.le_refl _) o)).cell 0 _ rfl
          have D1 : ((wx.alloc (.cells #[.int .i64 f, .int .i64 t, .slice q.a q.n q.c] 70)).drew).ownsRow W0.heap.size 70 3 (.slice a5 M.length c5) M.length (M.flatMap pcC) := R8.out.row.alloc _
          have D2 : RowAt ((wx.alloc (.cells #[.int .i64 f, .int .i64 t, .slice q.a q.n q.c] 70)).drew) (wx.heap.size + 1) (some ⟨wx.heap.size, 0, none⟩) 1 3 (pcC ⟨(f, t), q.a, q.n, q.c, q.l⟩) := row_one wx ⟨(f, t), q.a, q.n, q.c, q.l⟩ _
          have D3 := LB8.out
          have D4 := R8.out.size
          go_region_law (refine step_append_k _ rfl _ _ 28 rfl W0.heap.size 70 i0 _ 3 40 Try.underlying28 iz hz0 hz1 hz2 rfl (by omega) _ M.length (M.flatMap pcC) rfl D1 (wx.heap.size + 1) (some ⟨wx.heap.size, 0, none⟩) 1 1 (pcC ⟨(f, t), q.a, q.n, q.c, q.l⟩) rfl D2 (pcC_cells _) (by unfold maxLen; omega) (by omega) (by simp; omega) ?_; intro v6 w6 ho6 hg6 hat6; obtain ⟨a6, c6, rfl, _⟩ := ownk_form ho6; have P6 := Lib.hid (ref_push R8.out (below_drewN 1 ((Below.refl _ _).alloc (Nat.le_refl _) _)) ho6 hg6 hat6 ((PB.out q (RS.out q QM.out)).below (R3.out.bel F8.out) (Nat.le_refl _))); have z6 := P6.out.1.cell 0 _ rfl; have f6 := P6.out.1.frozen 0; clear ho6 hg6 hat6)
          all_goals
            go_wp2
            go_roundw
            case rel => exact ⟨j + 1, by rw [EW.out], by omega, by rw [HX.out, ← pc_eta q (f, t) (RK.out q QM.out)]; exact RStep.then F8.out O8.out P6.out.2⟩
            case measure => exact mea_m (n2 + 1) j EW.out (by omega)
        · have hd2 : decide ((j : Int) < (n2 : Int)) = false := decide_eq_false (by omega)
          have HX : Hid (base ++ mvL rest j p (j + 1) = M) := by unfold Hid; rw [mvL_last rest j p (by have := NR.out; have := WH.out; omega), ← List.append_assoc, HLL.out, HM.out]
          go_wp2
          go_roundw
          case rel => exact ⟨j + 1, by rw [EW.out], by omega, by rw [HX.out]; exact ⟨_, ⟨v8, R8.out, rfl⟩, F8.out, O8.out⟩⟩
          case measure => exact mea_m (n2 + 1) j EW.out (by omega)
      · have hwb : (((j : Int)) == ((wh : Int))) = false := by simp; omega
        by_cases hlt : j < n2
        · have hd2 : decide ((j : Int) < (n2 : Int)) = true := decide_eq_true (by omega)
          have hin : (j : Int) < (n2 : Int) := by omega
          obtain ⟨q, hq⟩ : ∃ q, rest[j]'(by have := NR.out; omega) = q := ⟨_, rfl⟩
          have HQ := Lib.hid hq
          have QM : Hid (q ∈ rest) := by rw [← hq]; exact List.getElem_mem _
          have HX : Hid (base ++ mvL rest wh p (j + 1) = L ++ [q]) := by unfold Hid; rw [← hq, mvL_next rest wh p j (by have := NR.out; omega) hw, ← List.append_assoc, HLL.out]
          clear hq hw
          have QR := QF.out wr F.out
          obtain ⟨jr, cr, er, _⟩ := QR.form (by omega)
          injection er with er
          subst er
          have y0 := QR.cells (g := jr) rfl j (.slice q.a q.n q.c) (by unfold slV; rw [List.getElem?_map, List.getElem?_eq_getElem (by have := NR.out; omega), HQ.out]; rfl)
          rw [add_plain, Nat.zero_add] at y0
          obtain ⟨a5, c5, hv5, _⟩ := R.out.form
          subst hv5
          clear QR
          go_upto_region 12 with fail
          have z0 : wr.drew.cell? ⟨h, 0, none⟩ = some (.slice a5 L.length c5) := c0
          have z1 : wr.drew.cell? ⟨jr, j, none⟩ = some (.slice q.a q.n q.c) := y0
          have zf : wr.drew.frozen? ⟨h, 0, none⟩ = false := f0
          have zA : ∀ o, (wr.alloc o).drew.cell? ⟨h, 0, none⟩ = some (.slice a5 L.length c5) := fun o => (R.out.box.below ((Below.refl _ _).alloc (Nat.le_refl _) o)).cell 0 _ rfl
          have D1 : ((wr.alloc (.cells #[.int .i64 f, .int .i64 t, .slice q.a q.n q.c] 70)).drew).ownsRow W0.heap.size 70 3 (.slice a5 L.length c5) L.length (L.flatMap pcC) := R.out.row.alloc _
          have D2 : RowAt ((wr.alloc (.cells #[.int .i64 f, .int .i64 t, .slice q.a q.n q.c] 70)).drew) (wr.heap.size + 1) (some ⟨wr.heap.size, 0, none⟩) 1 3 (pcC ⟨(f, t), q.a, q.n, q.c, q.l⟩) := row_one wr ⟨(f, t), q.a, q.n, q.c, q.l⟩ _
          have D3 := LB.out
          have D4 := R.out.size
          go_region_law (refine step_append_k _ rfl _ _ 28 rfl W0.heap.size 70 i0 _ 3 40 Try.underlying28 iz hz0 hz1 hz2 rfl (by omega) _ L.length (L.flatMap pcC) rfl D1 (wr.heap.size + 1) (some ⟨wr.heap.size, 0, none⟩) 1 1 (pcC ⟨(f, t), q.a, q.n, q.c, q.l⟩) rfl D2 (pcC_cells _) (by unfold maxLen; omega) (by omega) (by simp; omega) ?_; intro v6 w6 ho6 hg6 hat6; obtain ⟨a6, c6, rfl, _⟩ := ownk_form ho6; have P6 := Lib.hid (ref_push R.out (below_drewN 1 ((Below.refl _ _).alloc (Nat.le_refl _) _)) ho6 hg6 hat6 ((PB.out q (RS.out q QM.out)).below (R3.out.bel F.out) (Nat.le_refl _))); have z6 := P6.out.1.cell 0 _ rfl; have f6 := P6.out.1.frozen 0; clear ho6 hg6 hat6)
          all_goals
            go_wp2
            go_roundw
            case rel => exact ⟨j + 1, by rw [EW.out], by omega, by rw [HX.out, ← pc_eta q (f, t) (RK.out q QM.out)]; exact RStep.then F.out O.out P6.out.2⟩
            case measure => exact mea_m (n2 + 1) j EW.out (by omega)
        · have hd2 : decide ((j : Int) < (n2 : Int)) = false := decide_eq_false (by omega)
          have HX : Hid (base ++ mvL rest wh p (j + 1) = L) := by
            have e : j = rest.length := by have := NR.out; omega
            have h1 := HLL.out
            unfold Hid
            rw [e] at h1 ⊢
            rw [mvL_over rest wh p (by omega) (by have := WH.out; omega)]
            exact h1
          clear hw
          go_wp2
          go_roundw
          case rel => exact ⟨j + 1, by rw [EW.out], by omega, by rw [HX.out]; exact ⟨_, ⟨v', R.out, rfl⟩, F.out, O.out⟩⟩
          case measure => exact mea_m (n2 + 1) j EW.out (by omega)
    · have hd : decide ((j : Int) ≤ (n2 : Int)) = false := decide_eq_false (by omega)
      have HX : Hid (L = base ++ putAt rest wh p) := by
        have e : j = rest.length + 1 := by have := NR.out; omega
        have h1 := HLL.out
        rw [e, mvL_all rest wh p (by have := WH.out; omega)] at h1
        exact h1.symm
      go_wp2
      go_ret
      exact ⟨rfl, by rw [HBS.out, HRS.out, ← HX.out]; exact FIN.out _ _ ⟨_, ⟨v', R.out, rfl⟩, F.out, O.out⟩⟩
end Go.Proofs.Ytgdgjgcmglgfmaa
