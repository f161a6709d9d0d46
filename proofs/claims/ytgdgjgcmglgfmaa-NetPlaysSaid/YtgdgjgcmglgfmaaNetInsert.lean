/- Contract of slices.Insert of one element, at rows of slices of bytes, where there is room. Conditions: the row lies in memory and has room, the element lies in a block of its own. -/
import Derived.Test.YtgdgjgcmglgfmaaNetDelete
import Derived.Lib.Overlaps
import Derived.Lib.JoinLaws
import Derived.Laws.IdiomCopy
namespace Go.Proofs.Ytgdgjgcmglgfmaa

open Go.RowKit

set_option linter.unusedVariables false
set_option linter.unusedSimpArgs false

section

variable {P : Program}

theorem wpList_copy_at (w : World) {ops : Array Oper} {rest : List Oper} {o : Oper} {a : Act} {Q : Exit → Act → World → Prop} (hg : o.guard = none) (d s : Operand) (t t' : TypeId)
    (ho : o.op = .call { callee := .builtin .copy, args := #[d, s], argTypes := #[t, t'] }) (v u : Value) (hd : a.eval d = v) (hs : a.eval s = u) {v' : Value} {w' : World}
    (hr : (Builtin.copy_ #[t, t'] o.type #[v, u]).run P w = .ok v' w') (h : wpList P ops Q rest (a.put o.dst v') w') : wpList P ops Q (o :: rest) a w := by
  refine wpList_plain hg fun K hK => ?_
  unfold Oper.wp
  simp only [execOp, ho, resolve, invoke, builtin, hd, hs, hr, Sem.run_bind, Sem.run_pure, Result.andThen_ok, List.map_toArray, List.map_cons, List.map_nil]
  exact hK _ _ h
theorem step_copy_at {ops : Array Oper} {o : Oper} {a : Act} {w : World} {K : Act → World → Prop} {Q : Exit → Act → World → Prop} {E : Prop} (hg : o.guard = none) (d s : Operand) (t t' : TypeId)
    (ho : o.op = .call { callee := .builtin .copy, args := #[d, s], argTypes := #[t, t'] }) (v u : Value) (hd : a.eval d = v) (hs : a.eval s = u) {v' : Value} {w' : World}
    (hr : (Builtin.copy_ #[t, t'] o.type #[v, u]).run P w = .ok v' w') (h : K (a.put o.dst v') w') : if Region.wanted o (yielded ops a.tmps) = true then Oper.wp P o a w K Q else E := by
  rw [if_pos (show Region.wanted o (yielded ops a.tmps) = true by simp [Region.wanted, hg])]
  unfold Oper.wp
  simp only [execOp, ho, resolve, invoke, builtin, hd, hs, hr, Sem.run_bind, Sem.run_pure, Result.andThen_ok, List.map_toArray, List.map_cons, List.map_nil]
  exact h
end

section

variable {w : World} {b : Nat} {t : TypeId}

theorem own_blockR {base n cap : Nat} {xs : List Value} (h : w.ownsRow base t 1 (.slice (some ⟨b, 0, none⟩) n cap) n xs) : ∃ cur : Array Value, w.heap[b]? = some (.cells cur t (0, 0)) ∧ cur.size = cap ∧ cur.toList.take n = xs ∧ base ≤ b := by
  rcases h.2 with ⟨h1, _⟩ | ⟨g', cap', cur, hv, hb, hh, hnc, hcm, hsz, htk⟩
  · cases h1
  · injection hv with hv1 _ hv3
    injection hv1 with hv1
    injection hv1 with hv1
    subst hv1; subst hv3
    exact ⟨cur, hh, by omega, by rw [← htk, Nat.mul_one], hb⟩
theorem own_more {base n cap : Nat} {xs : List Value} (h : w.ownsRow base t 1 (.slice (some ⟨b, 0, none⟩) n cap) n xs) (hn : n < cap) : ∃ y, w.ownsRow base t 1 (.slice (some ⟨b, 0, none⟩) (n + 1) cap) (n + 1) (xs ++ [y]) := by
  have hx := h.1
  rcases h.2 with ⟨h1, _⟩ | ⟨g', cap', cur, hv, hb, hh, hnc, hcm, hsz, htk⟩
  · cases h1
  · injection hv with hv1 _ hv3
    injection hv1 with hv1
    injection hv1 with hv1
    subst hv1; subst hv3
    have hl : n < cur.toList.length := by simp; omega
    refine ⟨cur.toList[n], by simp; omega, .inr ⟨b, cap, cur, rfl, hb, hh, by omega, hcm, hsz, ?_⟩⟩
    rw [Nat.mul_one] at htk ⊢
    rw [List.take_add_one, htk, List.getElem?_eq_getElem hl]; rfl
theorem drew_setCells (b : Nat) : ∀ (vs : List Value) (o : Nat) (w : World), (w.setCells b o vs).drew = w.drew.setCells b o vs
  | [], _, _ => rfl
  | v :: r, o, w => by rw [World.setCells, World.setCells, drew_setCells b r]; rfl
end

set_option maxHeartbeats 4000000 in
set_option maxRecDepth 1000000 in
theorem insert_end (base b n cap vb : Nat) (xs : List Value) (x : Value) (w : World) (h : w.ownsRow base 32 1 (.slice (some ⟨b, 0, none⟩) n cap) n xs) (hone : x.oneCell' = true) (hroom : n < cap) (hv : w.heap[vb]? = some (.cells #[x] 32 (0, 0))) :
    Calls Try.prog 38 #[.slice (some ⟨b, 0, none⟩) n cap, .int .i64 (n : Nat), .slice (some ⟨vb, 0, none⟩) 1 1] w fun e w' => e = .returned (.slice (some ⟨b, 0, none⟩) (n + 1) cap) ∧ w' = w.setCells b n [x] := by
  obtain ⟨hnc, hcm⟩ := own_caps h
  have hcm' : cap ≤ 9223372036854775807 := hcm
  obtain ⟨y, hM⟩ := own_more h hroom
  have hx := h.1
  obtain ⟨_, hg', _, hlt, hsome, hfz⟩ := own_addr hM (by omega)
  injection hg' with hg'; injection hg' with hg'; subst hg'
  have hsp : ∀ j, j < 1 → (w.cell? ⟨b, 0 + n + j, none⟩).isSome = true := fun j hj => by
    obtain rfl : j = 0 := by omega
    rw [Nat.zero_add, Nat.add_zero, own_at_cell (u := y) hM (by rw [List.getElem?_append_right (by omega)]; simp [show n - xs.length = 0 by omega])]; rfl
  have hvs : ∀ j u, [x][j]? = some u → w.cell? ((⟨vb, 0, none⟩ : Addr).add j) = some u := fun j u hj => by
    rw [add_plain, Nat.zero_add, cell_of_row _ _ _ _ _ _ hv]
    simpa using hj
  have hsrc : Src Try.prog 1 44 (.slice (some ⟨vb, 0, none⟩) 1 1) 1 [x] w := Src.ofSlice w Try.underlying44 ⟨vb, 0, none⟩ 1 1 [x] rfl hvs (by simpa using hone)
  have HF : Hid (∀ j, j < 1 → w.frozen? ⟨b, 0 + n + j, none⟩ = false) := fun j _ => hfz _
  have HS := Lib.hid hsp
  have HR := Lib.hid hsrc
  clear hsp hsrc hvs h hM hv hone hfz hsome
  go_enter Try.func38, Try.ntmps38
  go_wp2_with (at_builtin; refine wpList_append_room1 _ rfl _ _ 44 44 rfl 32 _ _ Try.underlying44 Try.info32 b 0 n cap rfl _ rfl 1 [x] HR.out (by omega) HS.out HF.out ?_)
  go_ret
  exact ⟨rfl, rfl⟩

set_option maxHeartbeats 4000000 in
set_option maxRecDepth 1000000 in
theorem insert_mid (base b n cap i vb : Nat) (xs : List Value) (x : Value) (w : World) (h : w.ownsRow base 32 1 (.slice (some ⟨b, 0, none⟩) n cap) n xs) (hall : ∀ u ∈ xs, u.oneCell' = true) (hone : x.oneCell' = true) (hi : i < n) (hroom : n < cap)
    (hv : w.heap[vb]? = some (.cells #[x] 32 (0, 0))) (hne : vb ≠ b) :
    Calls Try.prog 38 #[.slice (some ⟨b, 0, none⟩) n cap, .int .i64 (i : Nat), .slice (some ⟨vb, 0, none⟩) 1 1] w fun e w' => e = .returned (.slice (some ⟨b, 0, none⟩) (n + 1) cap) ∧ w' = (w.drew.setCells b (i + 1) (xs.drop i)).setCells b i [x] := by
  obtain ⟨hnc, hcm⟩ := own_caps h
  have hcm' : cap ≤ 9223372036854775807 := hcm
  obtain ⟨y, hM⟩ := own_more h hroom
  have hx : xs.length = n := by have := h.1; omega
  obtain ⟨cur, hcur, hcs, _, _⟩ := own_blockR h
  obtain ⟨_, hg', _, hlt, hsome, hfz⟩ := own_addr hM (by omega)
  injection hg' with hg'; injection hg' with hg'; subst hg'
  have hsp : ∀ j, j < n + 1 → (w.cell? ⟨b, j, none⟩).isSome = true := fun j hj => by
    rw [own_at_cell hM (List.getElem?_eq_getElem (show j < (xs ++ [y]).length by simp; omega))]; rfl
  have hsa : w.shape? vb = some (32, 1) := by simp [World.shape?, hv]
  have hsb : w.shape? b = some (32, cap) := by simp [World.shape?, hcur, hcs]
  have hfv : ∀ j, w.frozen? ⟨vb, j, none⟩ = false := fun j => by simp [World.frozen?, hv]
  have hsz : (Try.prog.info? 32).map (·.size) = some 1 := by
    obtain ⟨i0, hi0, _, hz1, _⟩ := info_parts Try.info32
    rw [hi0]; simp [hz1]
  have hov : ∀ lb cb, (callFunc 46 #[.slice (some ⟨vb, 0, none⟩) 1 1, .slice (some ⟨b, i + 1, none⟩) lb cb]).run Try.prog w = .ok (.value (.bool false)) w := fun lb cb => by
    rw [run_callFunc_extern Try.func46 (by kernel_rfl) (by kernel_rfl) (by kernel_rfl) (e := Extern.SlicesOverlaps.overlaps #[44, 44] #[4]) (by kernel_rfl),
      Lib.run_overlaps_apart w 44 4 32 Try.underlying44 1 Try.sizeOf32 ⟨vb, 0, none⟩ ⟨b, i + 1, none⟩ 1 1 lb cb hne 32 32 1 cap hsa hsb (by omega) (hfv 0) (hfv 1)]
    rfl
  have hdl : (xs.drop i).length = n - i := by rw [List.length_drop, hx]
  obtain ⟨W1, hW1⟩ : ∃ W1, W1 = w.drew.setCells b (i + 1) (xs.drop i) := ⟨_, rfl⟩
  have hc1 : ∀ ty dc sc, (Builtin.copy_ #[44, 44] ty #[.slice (some ⟨b, i + 1, none⟩) (n - i) dc, .slice (some ⟨b, i, none⟩) (n + 1 - i) sc]).run Try.prog w.drew = .ok (goInt (xs.drop i).length) W1 := fun ty dc sc => by
    rw [hW1]
    exact run_copy_cells w.drew _ _ ty 32 b (i + 1) (n - i) dc ⟨b, i, none⟩ (n + 1 - i) sc (xs.drop i) Try.underlying44 hsz (by rw [hdl]; simp only [Nat.min_def]; split <;> omega)
      (fun j u hj => by rw [add_plain]; exact own_at_cell (w := w) h (by rwa [List.getElem?_drop] at hj))
      (fun j hj => hsp _ (by omega)) (fun j hj => hfz _) (fun u hu => hall u (List.mem_of_mem_drop hu))
  have hO1 := own_setCells (vs := xs.drop i) (w := w.drew) (b := b) (show w.drew.ownsRow base 32 1 (.slice (some ⟨b, 0, none⟩) (n + 1) cap) (n + 1) (xs ++ [y]) from hM) (i + 1) (by rw [hdl]; omega)
  rw [← hW1] at hO1
  obtain ⟨_, hg2, _, _, _, hfz1⟩ := own_addr hO1 (by omega)
  injection hg2 with hg2; injection hg2 with hg2; subst hg2
  have hV1 : W1.heap[vb]? = some (.cells #[x] 32 (0, 0)) := by
    rw [hW1]
    have := (setCells_grown (xs.drop i) (i + 1) w.drew b).1.5 vb (lt_of_heap hv) (by intro e; injection e with e; exact hne e)
    rw [this]; exact hv
  have hl1 := hO1.1
  have hc2 : ∀ ty dc, (Builtin.copy_ #[44, 44] ty #[.slice (some ⟨b, i, none⟩) (n + 1 - i) dc, .slice (some ⟨vb, 0, none⟩) 1 1]).run Try.prog W1 = .ok (goInt [x].length) (W1.setCells b i [x]) := fun ty dc =>
    run_copy_cells W1 _ _ ty 32 b i (n + 1 - i) dc ⟨vb, 0, none⟩ 1 1 [x] Try.underlying44 hsz (by simp only [Nat.min_def, List.length_singleton]; split <;> omega)
      (fun j u hj => by rw [add_plain, Nat.zero_add, cell_of_row _ _ _ _ _ _ hV1]; simpa using hj)
      (fun j hj => by
        obtain rfl : j = 0 := by simp at hj; omega
        rw [Nat.add_zero, own_at_cell hO1 (List.getElem?_eq_getElem (show i < _ by omega))]; rfl)
      (fun j hj => hfz1 _) (by simpa using hone)
  have e1 : i ≤ cap := by omega
  have e2 : i + 1 ≤ cap := by omega
  have e3 : ¬ (cap = i) := by omega
  have hin : i ≤ n := by omega
  have e4 : ¬ ((i : Int) = (n : Int)) := by omega
  have e5 : (0 : Int) ≤ (i : Int) + 1 := by omega
  have e6 : ((i : Int) + 1).toNat = i + 1 := by omega
  have e7 : ¬ (cap = i + 1) := by omega
  have e8 : (i : Int) ≤ (n : Int) + 1 := by omega
  have e9 : (i : Int) + 1 ≤ (n : Int) + 1 := by omega
  have hw1 : IntKind.i64.wrap ((i : Int) + 1) = (i : Int) + 1 := by rw [IntKind.wrap_i64]; omega
  have hw2 : IntKind.i64.wrap ((n : Int) + 1) = (n : Int) + 1 := by rw [IntKind.wrap_i64]; omega
  have HW : Hid (W1 = w.drew.setCells b (i + 1) (xs.drop i)) := hW1
  clear hW1 hO1 hM h hall hone hv hV1 hsp hsa hsb hfv hsz hfz hfz1 hl1 hcur hcs hsome
  go_enter Try.func38, Try.ntmps38
  go_wp2_with (simp only [hov])
  go_region_law (refine step_copy_at rfl _ _ 44 44 rfl _ _ (by simp [Act.eval, Act.put]) (by simp [Act.eval, Act.put]) (hc1 _ _ _) ?_)
  go_wp2_with (at_builtin; refine wpList_copy_at _ rfl _ _ 44 44 rfl _ _ rfl rfl (hc2 _ _) ?_)
  go_ret
  exact ⟨rfl, by rw [HW.out]⟩
/-- A list with x put at place i. -/
def putAt {α : Type} (xs : List α) (i : Nat) (x : α) : List α := xs.take i ++ x :: xs.drop i
theorem putAt_len {α : Type} (xs : List α) (i : Nat) (x : α) : (putAt xs i x).length = xs.length + 1 := by
  unfold putAt; simp; omega
theorem insert_any (base b n cap i vb : Nat) (xs : List Value) (x : Value) (w : World) (h : w.ownsRow base 32 1 (.slice (some ⟨b, 0, none⟩) n cap) n xs) (hall : ∀ u ∈ xs, u.oneCell' = true) (hone : x.oneCell' = true) (hi : i ≤ n) (hroom : n < cap)
    (hv : w.heap[vb]? = some (.cells #[x] 32 (0, 0))) (hne : vb ≠ b) :
    Calls Try.prog 38 #[.slice (some ⟨b, 0, none⟩) n cap, .int .i64 (i : Nat), .slice (some ⟨vb, 0, none⟩) 1 1] w fun e w' => e = .returned (.slice (some ⟨b, 0, none⟩) (n + 1) cap) ∧ w'.ownsRow base 32 1 (.slice (some ⟨b, 0, none⟩) (n + 1) cap) (n + 1) (putAt xs i x) ∧ w.grownBy w' (some b) := by
  obtain ⟨y, hM⟩ := own_more h hroom
  have hx : xs.length = n := by have := h.1; omega
  by_cases hq : i = n
  · subst hq
    refine (insert_end base b i cap vb xs x w h hone hroom hv).mono ?_
    rintro e w' ⟨rfl, rfl⟩
    refine ⟨rfl, ?_, (setCells_grown [x] i w b).1⟩
    have := own_setCells (vs := [x]) hM i (by simp)
    rwa [show (xs ++ [y]).take i ++ [x] ++ (xs ++ [y]).drop (i + [x].length) = putAt xs i x by
      unfold putAt
      rw [List.take_append_of_le_length (by omega), List.take_of_length_le (by omega), List.drop_of_length_le (l := xs) (by omega), List.drop_of_length_le (by simp; omega), List.append_nil]] at this
  · refine (insert_mid base b n cap i vb xs x w h hall hone (by omega) hroom hv hne).mono ?_
    rintro e w' ⟨rfl, rfl⟩
    have hM' : w.drew.ownsRow base 32 1 (.slice (some ⟨b, 0, none⟩) (n + 1) cap) (n + 1) (xs ++ [y]) := hM
    have h1 := own_setCells (vs := xs.drop i) hM' (i + 1) (by simp; omega)
    have h2 := own_setCells (vs := [x]) h1 i (by simp; omega)
    refine ⟨rfl, ?_, World.grownBy.trans (⟨rfl, rfl, rfl, Nat.le_refl _, fun _ _ _ => rfl⟩ : w.grownBy w.drew (some b)) ((setCells_grown (xs.drop i) (i + 1) w.drew b).1.trans (setCells_grown [x] i _ b).1)⟩
    have e1 : (xs ++ [y]).drop (i + 1 + (xs.drop i).length) = [] := List.drop_of_length_le (by simp; omega)
    rw [e1, List.append_nil] at h2
    have e2 : ((xs ++ [y]).take (i + 1) ++ xs.drop i).take i = xs.take i := by
      rw [List.take_append_of_le_length (by simp; omega), List.take_take, Nat.min_eq_left (by omega), List.take_append_of_le_length (by omega)]
    have e3 : ((xs ++ [y]).take (i + 1) ++ xs.drop i).drop (i + [x].length) = xs.drop i := by
      rw [show i + [x].length = ((xs ++ [y]).take (i + 1)).length by simp; omega, List.drop_left]
    rw [e2, e3, List.append_assoc] at h2
    exact h2
end Go.Proofs.Ytgdgjgcmglgfmaa
