/- A map from links to slices: the laws of its operations. No condition. -/
import Derived.Test.YtgdgjgcmglgfmaaOwnRows
import Derived.Maps.RangeRun
import Derived.Maps.RangeWalk
import Derived.Maps.OwnOps
import Derived.Laws.StructEq
namespace Go.Proofs.Ytgdgjgcmglgfmaa

open Go.RowKit

open Go.MapKept (Stamped stamped_iff stamped_push stamped_modify stamped_erase stamped_empty run_setObj_map)

open Go.ChangeMaps (setBlock)

set_option linter.unusedVariables false
set_option linter.unusedSimpArgs false

abbrev Lk := Int × Int
def keyV (k : Lk) : Value := .agg #[.int .i64 k.1, .int .i64 k.2]
theorem keyV_inj {k k' : Lk} (h : keyV k = keyV k') : k = k' := by
  unfold keyV at h
  simp at h
  exact Prod.ext h.1 h.2
theorem keyV_ne {k k' : Lk} (h : k ≠ k') : keyV k ≠ keyV k' := fun e => h (keyV_inj e)
theorem dec_link (a b c d : Int) : (a == c && b == d) = decide (((a, b) : Lk) = (c, d)) := by
  by_cases h1 : a = c <;> by_cases h2 : b = d <;> simp [h1, h2]
theorem eq_link (k k' : Lk) (w : World) : (Op.equal 42 (keyV k) (keyV k')).run Try.prog w = .ok (decide (k = k')) w := by
  obtain ⟨a, b⟩ := k
  obtain ⟨c, d⟩ := k'
  have u3 := Try.underlying3
  have z3 := Try.sizeOf3
  have hS : Try.prog.underlying 42 = some (.struct (Try.prog.fieldsOf 42)) := by kernel_rfl
  have hp : Try.prog.stoodInHeld 42 = false := by kernel_rfl
  rw [← dec_link a b c d]
  unfold Op.equal Op.maxDepth keyV
  rw [show (10000 : Nat) = 9999 + 1 from rfl, run_equalIn_agg w 9999 42 _ _ hS hp]
  simp only [Program.fieldsOf, Try.underlying42]
  go_simp
  by_cases h1 : a = c <;> by_cases h2 : b = d <;> simp [h1, h2]
theorem check_int (e : Bool) (n : Nat) (a : Int) (w : World) : (Instr.checkKey e (n + 1) 3 (.int .i64 a)).run Try.prog w = .ok () w := by
  simp [Instr.checkKey, run_underlying Try.underlying3]
theorem check_gen (e : Bool) (n : Nat) (k : Lk) (w : World) : (Instr.checkKey e (n + 1 + 1) 42 (keyV k)).run Try.prog w = .ok () w := by
  have z3 := Try.sizeOf3
  have hc : ∀ a w, (Instr.checkKey e (n + 1) 3 (.int .i64 a)).run Try.prog w = .ok () w := fun a w => check_int e n a w
  unfold keyV
  rw [Instr.checkKey]
  simp only [Sem.run_bind, run_underlying Try.underlying42, Result.andThen_ok]
  generalize n + 1 = m at *
  go_simp
theorem check_link (e : Bool) (k : Lk) (w : World) : (Instr.checkKey e 10000 42 (keyV k)).run Try.prog w = .ok () w := check_gen e 9998 k w
theorem same_gen (n : Nat) (k : Lk) : Instr.sameBits (n + 1) (keyV k) (keyV k) = true := by
  unfold keyV
  rw [Instr.sameBits]
  simp [Instr.sameBits]
theorem same_key (k : Lk) : Instr.sameBits 10000 (keyV k) (keyV k) = true := same_gen 9999 k
theorem find_link (k : Lk) : ∀ (l : List MapEntry) (i : Nat), (∀ e ∈ l, ∃ k', e.key = keyV k') →
    ((∀ w : World, (Instr.findAsking 42 (keyV k) l i).run Try.prog w = .ok none w) ∧ ∀ e ∈ l, e.key ≠ keyV k) ∨ ∃ j e, (∀ w : World, (Instr.findAsking 42 (keyV k) l i).run Try.prog w = .ok (some (i + j, e.val)) w) ∧ l[j]? = some e ∧ e.key = keyV k
  | [], i, _ => .inl ⟨fun _ => rfl, fun e he => by cases he⟩
  | e :: es, i, h => by
    obtain ⟨k', hk⟩ := h e (List.mem_cons_self ..)
    have hq : ∀ w, (Op.equal 42 (keyV k) e.key).run Try.prog w = .ok (decide (k = k')) w := fun w => by rw [hk]; exact eq_link k k' w
    by_cases hkk : k = k'
    · refine .inr ⟨0, e, fun w => ?_, rfl, by rw [hk, hkk]⟩
      rw [Instr.findAsking, Sem.run_bind, hq]
      simp [hkk, Result.andThen]
    · have hr : ∀ w, (Instr.findAsking 42 (keyV k) (e :: es) i).run Try.prog w = (Instr.findAsking 42 (keyV k) es (i + 1)).run Try.prog w := fun w => by
        rw [Instr.findAsking, Sem.run_bind, hq]
        simp [hkk, Result.andThen]
      rcases find_link k es (i + 1) (fun e he => h e (List.mem_cons_of_mem _ he)) with ⟨h1, h2⟩ | ⟨j, e', h1, h2, h3⟩
      · refine .inl ⟨fun w => (hr w).trans (h1 w), fun x hx => ?_⟩
        rcases List.mem_cons.1 hx with rfl | hx
        · rw [hk]; exact fun e2 => hkk (keyV_inj e2).symm
        · exact h2 x hx
      · exact .inr ⟨j + 1, e', fun w => by rw [hr, h1, show i + 1 + j = i + (j + 1) from by omega], h2, h3⟩
/-- Where a link is found, in all worlds. -/
theorem find_all (k : Lk) (l : List MapEntry) (h : ∀ e ∈ l, ∃ k', e.key = keyV k') :
    ((∀ V : World, (Instr.findKey 42 (keyV k) l).run Try.prog V = .ok none V) ∧ ∀ e ∈ l, e.key ≠ keyV k) ∨ ∃ j e, (∀ V : World, (Instr.findKey 42 (keyV k) l).run Try.prog V = .ok (some (j, e.val)) V) ∧ l[j]? = some e ∧ e.key = keyV k := by
  cases l with
  | nil =>
    refine .inl ⟨fun V => ?_, fun e he => by cases he⟩
    simp only [Instr.findKey, Sem.run_bind, run_underlying Try.underlying42, Result.andThen_ok]
    rfl
  | cons e es =>
    have hr : ∀ V, (Instr.findKey 42 (keyV k) (e :: es)).run Try.prog V = (Instr.findAsking 42 (keyV k) (e :: es) 0).run Try.prog V := fun V => by
      simp only [Instr.findKey, Sem.run_bind, run_underlying Try.underlying42, Result.andThen_ok]
      rfl
    rcases find_link k (e :: es) 0 h with ⟨h1, h2⟩ | ⟨j, e', h1, h2, h3⟩
    · exact .inl ⟨fun V => (hr V).trans (h1 V), h2⟩
    · exact .inr ⟨j, e', fun V => by rw [hr, h1, Nat.zero_add], h2, h3⟩

/-- The heads of a map: its links and what they lead to, in the order of its entries. -/
abbrev Hd := List (Lk × Value)
def kvs (es : Array MapEntry) : List (Value × Value) := es.toList.map fun e => (e.key, e.val)
def hvs (hs : Hd) : List (Value × Value) := hs.map fun h => (keyV h.1, h.2)
def getV (hs : Hd) (k : Lk) : Value := match hs.find? (fun h => decide (h.1 = k)) with
  | some h => h.2
  | none => .slice none 0 0
def putV (hs : Hd) (k : Lk) (v : Value) : Hd := if k ∈ hs.map (·.1) then hs.map (fun h => if h.1 = k then (k, v) else h) else hs ++ [(k, v)]
def delV (hs : Hd) (k : Lk) : Hd := hs.filter fun h => !decide (h.1 = k)
/-- Block b holds it. -/
def MapAt (W : World) (b : Nat) (hs : Hd) : Prop := ∃ es clock, W.heap[b]? = some (.map es clock) ∧ Stamped es clock ∧ kvs es = hvs hs
theorem kv_key {es : Array MapEntry} {hs : Hd} (h : kvs es = hvs hs) : ∀ e ∈ es.toList, ∃ k', e.key = keyV k' := by
  intro e he
  have h1 : (e.key, e.val) ∈ hvs hs := by rw [← h]; exact List.mem_map.2 ⟨e, he, rfl⟩
  obtain ⟨x, _, hx⟩ := List.mem_map.1 h1
  injection hx with h2 h3
  exact ⟨x.1, h2.symm⟩
theorem kv_get {es : Array MapEntry} {hs : Hd} (h : kvs es = hvs hs) {j : Nat} {e : MapEntry} (he : es.toList[j]? = some e) : ∃ x, hs[j]? = some x ∧ keyV x.1 = e.key ∧ x.2 = e.val := by
  have h1 : (kvs es)[j]? = some (e.key, e.val) := by simp only [kvs, List.getElem?_map, he]; rfl
  rw [h] at h1
  simp only [hvs, List.getElem?_map] at h1
  cases hx : hs[j]? with
  | none => rw [hx] at h1; cases h1
  | some x =>
    rw [hx] at h1
    simp at h1
    exact ⟨x, rfl, h1.1, h1.2⟩
theorem kv_nodup {es : Array MapEntry} {hs : Hd} {clock : Nat} (h : kvs es = hvs hs) (hst : Stamped es clock) : (hs.map (·.1)).Nodup := by
  have h1 : es.toList.map (·.key) = (hs.map (·.1)).map keyV := by
    have := congrArg (List.map Prod.fst) h
    simpa [kvs, hvs, List.map_map, Function.comp_def] using this
  have h2 := hst.2.2
  rw [h1] at h2
  exact (List.pairwise_map.1 h2).imp fun hne e => hne (by rw [e])
theorem MapAt.nodup {W : World} {b : Nat} {hs : Hd} (h : MapAt W b hs) : (hs.map (·.1)).Nodup := by
  obtain ⟨es, c, _, hst, hk⟩ := h
  exact kv_nodup hk hst
theorem kv_none {es : Array MapEntry} {hs : Hd} (h : kvs es = hvs hs) {k : Lk} (hn : ∀ e ∈ es.toList, e.key ≠ keyV k) : k ∉ hs.map (·.1) := by
  intro hk
  obtain ⟨x, hx, rfl⟩ := List.mem_map.1 hk
  have h1 : (keyV x.1, x.2) ∈ kvs es := by rw [h]; exact List.mem_map.2 ⟨x, hx, rfl⟩
  obtain ⟨e, he, h2⟩ := List.mem_map.1 h1
  injection h2 with h2 h3
  exact hn e he h2
theorem getV_none {hs : Hd} {k : Lk} (h : k ∉ hs.map (·.1)) : getV hs k = .slice none 0 0 := by
  unfold getV
  have : hs.find? (fun h => decide (h.1 = k)) = none := List.find?_eq_none.2 fun x hx e => h (List.mem_map.2 ⟨x, hx, of_decide_eq_true e⟩)
  rw [this]
theorem nodup_at {hs : Hd} (hn : (hs.map (·.1)).Nodup) {i j : Nat} {x y : Lk × Value} (hi : hs[i]? = some x) (hj : hs[j]? = some y) (h : x.1 = y.1) : i = j := by
  obtain ⟨hi', rfl⟩ := List.getElem?_eq_some_iff.1 hi
  obtain ⟨hj', rfl⟩ := List.getElem?_eq_some_iff.1 hj
  have hp := List.pairwise_iff_getElem.1 hn
  rcases Nat.lt_trichotomy i j with hlt | he | hlt
  · exact absurd (by rw [List.getElem_map, List.getElem_map]; exact h) (hp i j (by simpa using hi') (by simpa using hj') hlt)
  · exact he
  · exact absurd (by rw [List.getElem_map, List.getElem_map]; exact h.symm) (hp j i (by simpa using hj') (by simpa using hi') hlt)
theorem getV_at {hs : Hd} (hn : (hs.map (·.1)).Nodup) {j : Nat} {x : Lk × Value} (hj : hs[j]? = some x) : getV hs x.1 = x.2 := by
  unfold getV
  cases hf : hs.find? (fun h => decide (h.1 = x.1)) with
  | none =>
    have := List.find?_eq_none.1 hf x (List.mem_of_getElem? hj)
    simp at this
  | some y =>
    have h1 := List.find?_some hf
    have h2 := List.mem_of_find?_eq_some hf
    obtain ⟨i, hi, rfl⟩ := List.getElem_of_mem h2
    have h3 := nodup_at hn (List.getElem?_eq_getElem hi) hj (by simpa using h1)
    subst h3
    rw [List.getElem?_eq_getElem hi] at hj
    injection hj with hj
    rw [hj]
theorem putV_at {hs : Hd} (hn : (hs.map (·.1)).Nodup) {j : Nat} {x : Lk × Value} (hj : hs[j]? = some x) (v : Value) : putV hs x.1 v = hs.set j (x.1, v) := by
  unfold putV
  rw [if_pos (List.mem_map.2 ⟨x, List.mem_of_getElem? hj, rfl⟩)]
  refine List.ext_getElem? fun i => ?_
  rw [List.getElem?_map, List.getElem?_set]
  by_cases hij : j = i
  · subst hij
    obtain ⟨hl, _⟩ := List.getElem?_eq_some_iff.1 hj
    rw [hj, if_pos rfl, if_pos hl]
    simp
  · rw [if_neg hij]
    cases hi : hs[i]? with
    | none => rfl
    | some y =>
      have : y.1 ≠ x.1 := fun e => hij (nodup_at hn hj hi e.symm)
      simp [this]
theorem delV_at {hs : Hd} (hn : (hs.map (·.1)).Nodup) {j : Nat} {x : Lk × Value} (hj : hs[j]? = some x) : delV hs x.1 = hs.eraseIdx j := by
  obtain ⟨hl, hx⟩ := List.getElem?_eq_some_iff.1 hj
  have hs1 : hs = hs.take j ++ x :: hs.drop (j + 1) := by
    rw [← hx, List.getElem_cons_drop, List.take_append_drop]
  have hn1 := hn
  rw [hs1] at hn1
  simp only [List.map_append, List.map_cons] at hn1
  rw [List.nodup_append, List.nodup_cons] at hn1
  obtain ⟨_, ⟨h2, _⟩, h3⟩ := hn1
  rw [List.eraseIdx_eq_take_drop_succ]
  conv => lhs; unfold delV; rw [hs1]
  rw [List.filter_append, List.filter_cons]
  simp only [decide_true, Bool.not_true, Bool.false_eq_true, if_false]
  congr 1
  · refine List.filter_eq_self.2 fun y hy => ?_
    have := h3 y.1 (List.mem_map.2 ⟨y, hy, rfl⟩) x.1 (List.mem_cons_self ..)
    simp [this]
  · refine List.filter_eq_self.2 fun y hy => ?_
    have : y.1 ≠ x.1 := fun e => h2 (e ▸ List.mem_map.2 ⟨y, hy, rfl⟩)
    simp [this]
theorem delV_none {hs : Hd} {k : Lk} (h : k ∉ hs.map (·.1)) : delV hs k = hs := by
  unfold delV
  refine List.filter_eq_self.2 fun y hy => ?_
  have : y.1 ≠ k := fun e => h (e ▸ List.mem_map.2 ⟨y, hy, rfl⟩)
  simp [this]
theorem setBlock_at {w : World} {b : Nat} {o o' : Obj} (h : w.heap[b]? = some o) : (setBlock w b o').heap[b]? = some o' := by
  obtain ⟨hb, _⟩ := Array.getElem?_eq_some_iff.1 h
  simp [setBlock, hb]
theorem setBlock_ne {w : World} {b i : Nat} {o' : Obj} (h : i ≠ b) : (setBlock w b o').heap[i]? = w.heap[i]? := by
  simp [setBlock, Array.getElem?_setIfInBounds, Ne.symm h]
theorem setBlock_grown (w : World) (b : Nat) (o : Obj) : w.grownBy (setBlock w b o) (some b) := ⟨rfl, rfl, rfl, by simp [setBlock], fun i hi hne => setBlock_ne (fun e => hne (by rw [e]))⟩
theorem setBlock_size (w : World) (b : Nat) (o : Obj) : (setBlock w b o).heap.size = w.heap.size := by simp [setBlock]

section

variable {W : World} {b : Nat} {hs : Hd}

theorem run_look (h : MapAt W b hs) (k : Lk) : (Instr.lookup 60 (.map (some b)) (keyV k) false).run Try.prog W = .ok (getV hs k) W := by
  obtain ⟨es, clock, hb, hst, hkv⟩ := h
  simp only [Instr.lookup, Sem.run_bind, run_underlying Try.underlying60, Result.andThen_ok, Go.MapKept.run_getObj_map hb, Sem.run_pure, check_link]
  rcases find_all k es.toList (kv_key hkv) with ⟨h1, h2⟩ | ⟨j, e, h1, h2, h3⟩
  · simp only [h1 W, Result.andThen_ok, getV_none (kv_none hkv h2)]
    go_simp
  · obtain ⟨x, hx, hxk, hxv⟩ := kv_get hkv h2
    have hk : x.1 = k := keyV_inj (hxk.trans h3)
    rw [← hk, getV_at (kv_nodup hkv hst) hx, hxv, hk]
    simp [h1 W, Result.andThen]
theorem run_store (h : MapAt W b hs) (k : Lk) (v : Value) : ∃ o, MapAt (setBlock W b o) b (putV hs k v) ∧ ∀ V : World, V.heap[b]? = W.heap[b]? → (Instr.mapUpdate 60 (.map (some b)) (keyV k) v).run Try.prog V = .ok () (setBlock V b o) := by
  obtain ⟨es, clock, hb, hst, hkv⟩ := h
  rcases find_all k es.toList (kv_key hkv) with ⟨h1, h2⟩ | ⟨j, e, h1, h2, h3⟩
  · refine ⟨.map (es.push { key := keyV k, val := v, born := clock }) (clock + 1), ⟨_, _, setBlock_at hb, stamped_push hst h2, ?_⟩, fun V hV => ?_⟩
    rotate_left
    · have hb' := hV.trans hb
      simp [Instr.mapUpdate, run_underlying Try.underlying60, Go.MapKept.run_getObj_map hb', check_link, h1 V, Go.MapKept.run_setObj_map _ hb', Result.andThen, setBlock]
    · unfold putV
      rw [if_neg (kv_none hkv h2)]
      simp only [kvs, hvs, Array.toList_push, List.map_append, List.map_cons, List.map_nil]
      rw [show es.toList.map (fun e => (e.key, e.val)) = hs.map (fun h => (keyV h.1, h.2)) from hkv]
  · obtain ⟨x, hx, hxk, hxv⟩ := kv_get hkv h2
    have hk : x.1 = k := keyV_inj (hxk.trans h3)
    have hj : es[j]? = some e := by simpa using h2
    have hsame : ∀ V, (Instr.keyThatStays (keyV k) (keyV k)).run Try.prog V = .ok (keyV k) V := fun V => by
      simp [Instr.keyThatStays, same_key]
    refine ⟨.map (es.modify j fun e => { e with key := keyV k, val := v }) clock, ⟨_, _, setBlock_at hb, stamped_modify hst _ _ (fun _ _ => rfl) (fun e' _ he' => by rw [hj] at he'; cases he'; exact h3.symm), ?_⟩, fun V hV => ?_⟩
    rotate_left
    · have hb' := hV.trans hb
      simp [Instr.mapUpdate, run_underlying Try.underlying60, Go.MapKept.run_getObj_map hb', check_link, h1 V, hj, h3, hsame, Go.MapKept.run_setObj_map _ hb', Result.andThen, setBlock]
    · subst hk
      rw [putV_at (kv_nodup hkv hst) hx]
      refine List.ext_getElem? fun i => ?_
      have h4 : (kvs es)[i]? = (hvs hs)[i]? := by rw [hkv]
      simp only [kvs, hvs, List.getElem?_map, Array.getElem?_toList, Array.getElem?_modify, List.getElem?_set] at h4 ⊢
      by_cases hij : j = i
      · subst hij
        obtain ⟨hl, _⟩ := List.getElem?_eq_some_iff.1 hx
        rw [if_pos rfl, if_pos rfl, if_pos hl, hj]
        rfl
      · rw [if_neg hij, if_neg hij]
        exact h4
theorem run_drop (h : MapAt W b hs) (k : Lk) (ty : TypeId) : ∃ o, MapAt (setBlock W b o) b (delV hs k) ∧ ∀ V : World, V.heap[b]? = W.heap[b]? → (Builtin.delete_ #[60, 42] ty #[.map (some b), keyV k]).run Try.prog V = .ok (.tuple #[]) (setBlock V b o) := by
  obtain ⟨es, clock, hb, hst, hkv⟩ := h
  rcases find_all k es.toList (kv_key hkv) with ⟨h1, h2⟩ | ⟨j, e, h1, h2, h3⟩
  · refine ⟨.map es clock, ⟨_, _, setBlock_at hb, hst, by rw [delV_none (kv_none hkv h2)]; exact hkv⟩, fun V hV => ?_⟩
    have hb' := hV.trans hb
    simp [Builtin.delete_, run_underlying Try.underlying60, Go.MapKept.run_getObj_map hb', check_link, h1 V, Go.MapKept.run_setObj_map _ hb', Result.andThen, setBlock]
  · obtain ⟨x, hx, hxk, hxv⟩ := kv_get hkv h2
    have hk : x.1 = k := keyV_inj (hxk.trans h3)
    refine ⟨.map (es.eraseIdxIfInBounds j) clock, ⟨_, _, setBlock_at hb, stamped_erase hst j, ?_⟩, fun V hV => ?_⟩
    rotate_left
    · have hb' := hV.trans hb
      simp [Builtin.delete_, run_underlying Try.underlying60, Go.MapKept.run_getObj_map hb', check_link, h1 V, Go.MapKept.run_setObj_map _ hb', Result.andThen, setBlock]
    · subst hk
      rw [delV_at (kv_nodup hkv hst) hx]
      obtain ⟨hl, _⟩ := List.getElem?_eq_some_iff.1 h2
      unfold kvs hvs Array.eraseIdxIfInBounds
      rw [dif_pos (by simpa using hl), Array.toList_eraseIdx, Go.ChangeMaps.map_eraseIdx, Go.ChangeMaps.map_eraseIdx]
      rw [show es.toList.map (fun e => (e.key, e.val)) = hs.map (fun h => (keyV h.1, h.2)) from hkv]
end

end Go.Proofs.Ytgdgjgcmglgfmaa
