/- Words for lists of bytes in memory: a slice that reads as a list of bytes, a row of the call's own, and append onto it. No condition. -/
import Derived.Below

import Derived.Laws.OwnMore

import Derived.Maps.AppendAt

import Derived.Deep.AppendLies

import Derived.Deep.Draws

import Derived.RegionTactic

import Derived.OwnWalk

import Derived.Lib.AppendStr

import Derived.Lib.Hide

import Derived.Laws.BytesArg

namespace Go.Proofs.Ytclfgkeepmdmjaa

open Go.RowKit

theorem add_plain (b o k : Nat) : (⟨b, o, none⟩ : Addr).add k = ⟨b, o + k, none⟩ := by
  by_cases h : k = 0 <;> simp [Addr.add, h]

/-- The cells of a list of bytes. -/
def bcells (l : List UInt8) : List Value := l.map fun c => Value.int .u8 (c.toNat : Int)
theorem bcells_len (l : List UInt8) : (bcells l).length = l.length := by simp [bcells]
theorem bcells_app (l m : List UInt8) : bcells (l ++ m) = bcells l ++ bcells m := by simp [bcells]
theorem bcells_one (l : List UInt8) : ∀ u ∈ bcells l, u.oneCell' = true := by
  intro u hu; simp only [bcells, List.mem_map] at hu; obtain ⟨c, _, rfl⟩ := hu; rfl
theorem bcells_get {l : List UInt8} {j : Nat} {u : Value} (h : (bcells l)[j]? = some u) : ∃ hj : j < l.length, u = .int .u8 (l[j].toNat : Int) := by
  have hj : j < l.length := by
    rcases Nat.lt_or_ge j l.length with h1 | h1
    · exact h1
    · rw [List.getElem?_eq_none (by rw [bcells_len]; exact h1)] at h; cases h
  refine ⟨hj, ?_⟩
  simp [bcells, List.getElem?_eq_getElem hj] at h
  exact h.symm

/-- A slice of length n at address a reads as the bytes l, in a block below B. -/
def BAt (w : World) (B : Nat) (a : Option Addr) (n : Nat) (l : List UInt8) : Prop :=
  l.length = n ∧ (n = 0 ∨ ∃ b off, a = some ⟨b, off, none⟩ ∧ b < B ∧ ∀ i (h : i < l.length), w.cell? ⟨b, off + i, none⟩ = some (.int .u8 (l[i].toNat : Int)))

section

variable {w w' : World} {B B' n : Nat} {a : Option Addr} {l : List UInt8}

theorem BAt.len (h : BAt w B a n l) : l.length = n := h.1
theorem BAt.nil : BAt w B a 0 [] := ⟨rfl, .inl rfl⟩
theorem BAt.keep (h : BAt w B a n l) (hk : ∀ p : Addr, p.block < B → w'.cell? p = w.cell? p) : BAt w' B a n l := by
  rcases h with ⟨hn, h | ⟨b, off, ha, hb, hc⟩⟩
  · exact ⟨hn, .inl h⟩
  · exact ⟨hn, .inr ⟨b, off, ha, hb, fun i hi => (hk _ hb).trans (hc i hi)⟩⟩
theorem BAt.more (h : BAt w B a n l) (hB : B ≤ B') : BAt w B' a n l := by
  rcases h with ⟨hn, h | ⟨b, off, ha, hb, hc⟩⟩
  · exact ⟨hn, .inl h⟩
  · exact ⟨hn, .inr ⟨b, off, ha, by omega, hc⟩⟩
theorem BAt.below {C : Nat} (h : BAt w B a n l) (hb : Below C w w') (hC : B ≤ C) : BAt w' B a n l := h.keep fun _ hp => hb.cell (by omega)
theorem BAt.drewN (h : BAt w B a n l) (k : Nat) : BAt (w.drewN k) B a n l := h
theorem BAt.alloc (h : BAt w B a n l) (hB : B ≤ w.heap.size) (o : Obj) : BAt (w.alloc o) B a n l := h.keep fun p hp => World.cell?_alloc_lt w o p (by omega)
theorem BAt.grown {g : Nat} (h : BAt w B a n l) (hg : w.grownBy w' (some g)) (hB : B ≤ w.heap.size) (hr : B ≤ g) : BAt w' B a n l :=
  h.keep fun p hp => World.cell?_of_block (hg.block p.block (by omega) (fun e => by injection e; omega))
theorem BAt.at_ (h : BAt w B a n l) {i : Nat} (hi : i < l.length) : ∃ b off, a = some ⟨b, off, none⟩ ∧ b < B ∧ w.cell? ⟨b, off + i, none⟩ = some (.int .u8 (l[i].toNat : Int)) := by
  rcases h with ⟨hn, h | ⟨b, off, ha, hb, hc⟩⟩
  · omega
  · exact ⟨b, off, ha, hb, hc i hi⟩
theorem BAt.take (h : BAt w B a n l) {k : Nat} (hk : k ≤ n) : BAt w B a k (l.take k) := by
  rcases h with ⟨hn, h | ⟨b, off, ha, hb, hc⟩⟩
  · exact ⟨by simp; omega, .inl (by omega)⟩
  · refine ⟨by simp; omega, .inr ⟨b, off, ha, hb, fun i hi => ?_⟩⟩
    have h1 : i < l.length := by simp at hi; omega
    rw [hc i h1]; simp
theorem BAt.drop (h : BAt w B a n l) {k cap : Nat} (hk : k ≤ n) (hc : n ≤ cap) : BAt w B (if cap = k then a else a.map (·.add k)) (n - k) (l.drop k) := by
  rcases h with ⟨hn, h | ⟨b, off, ha, hb, hcell⟩⟩
  · exact ⟨by simp; omega, .inl (by omega)⟩
  · by_cases e : cap = k
    · exact ⟨by simp; omega, .inl (by omega)⟩
    · rw [if_neg e]
      refine ⟨by simp; omega, .inr ⟨b, off + k, by rw [ha, Option.map_some, add_plain], hb, fun i hi => ?_⟩⟩
      have h1 : k + i < l.length := by simp at hi; omega
      rw [Nat.add_assoc, hcell _ h1]; simp
theorem BAt.of_own {base : Nat} {e : TypeId} {m c : Nat} (h : w.ownsRow base e 1 (.slice a m c) n (bcells l)) : BAt w w.heap.size a n l := by
  have hln : l.length = n := by have := h.1; rw [bcells_len] at this; omega
  refine ⟨hln, ?_⟩
  rcases Nat.eq_zero_or_pos n with h0 | hn
  · exact .inl h0
  · obtain ⟨g, cap, hv, _, hlt⟩ := h.form hn
    have hA : a = some ⟨g, 0, none⟩ := by injection hv
    subst hA
    refine .inr ⟨g, 0, rfl, hlt, fun i hi => ?_⟩
    have := h.cells (g := g) rfl i (.int .u8 (l[i].toNat : Int)) (by simp [bcells, List.getElem?_eq_getElem hi])
    rwa [add_plain] at this
/-- A block of one byte reads as that byte. -/
theorem BAt.one (w : World) (b : Int) (c : UInt8) (t : TypeId) (h : b = (c.toNat : Int)) : BAt (w.alloc (.cells #[.int .u8 b] t)) (w.heap.size + 1) (some ⟨w.heap.size, 0, none⟩) 1 [c] := by
  refine ⟨rfl, .inr ⟨w.heap.size, 0, rfl, by omega, fun i hi => ?_⟩⟩
  have h0 : i = 0 := by simp at hi; exact hi
  subst h0; subst h
  rw [cell_of_row _ w.heap.size _ _ t (0, 0) (heap_alloc_new w _)]; rfl
theorem own_len {base : Nat} {e : TypeId} {v : Value} (h : w.ownsRow base e 1 v n (bcells l)) : l.length = n := by have := h.1; rw [bcells_len] at this; omega
end

/-- One call more: the world that it began in is w, drawn from. -/
theorem below_on (k : Nat) {a w w' : World} (h : Below a.heap.size a w) (hb : Below (w.drewN k).heap.size (w.drewN k) w') : Below a.heap.size a w' :=
  (⟨h.os, h.tape, h.output, h.size, h.block⟩ : Below a.heap.size a (w.drewN k)).trans (hb.mono h.size)
theorem below_drewN (k : Nat) {B : Nat} {a w : World} (h : Below B a w) : Below B a (w.drewN k) := ⟨h.os, h.tape, h.output, h.size, h.block⟩

/-- A value that owns a row of bytes is a slice of that length. -/
theorem own_form {w : World} {base : Nat} {e : TypeId} {v : Value} {n : Nat} {xs : List Value} (h : w.ownsRow base e 1 v n xs) :
    ∃ a c, v = .slice a n c ∧ n ≤ c ∧ c ≤ maxLen ∧ ∀ ad, a = some ad → base ≤ ad.block ∧ ad.block < w.heap.size := by
  rcases h.2 with ⟨rfl, rfl⟩ | ⟨g, cap, cur, rfl, hb, hh, hnc, hcm, _⟩
  · exact ⟨none, 0, rfl, Nat.le_refl _, by unfold maxLen; omega, fun ad h => by cases h⟩
  · refine ⟨_, cap, rfl, hnc, hcm, fun ad h => ?_⟩
    injection h with h; subst h
    refine ⟨hb, ?_⟩
    rcases Nat.lt_or_ge g w.heap.size with hlt | hge
    · exact hlt
    · rw [Array.getElem?_eq_none hge] at hh; cases hh
theorem own_below {w w' : World} {B e n : Nat} {v : Value} {xs : List Value} (h : w.ownsRow B e 1 v n xs) (hb : Below w.heap.size w w') : w'.ownsRow B e 1 v n xs := by
  refine ⟨h.1, ?_⟩
  rcases h.2 with ⟨rfl, rfl⟩ | ⟨g, cap, cur, rfl, h1, hh, hr⟩
  · exact .inl ⟨rfl, rfl⟩
  · refine .inr ⟨g, cap, cur, rfl, h1, ?_, hr⟩
    rcases Nat.lt_or_ge g w.heap.size with hlt | hge
    · rw [hb.block g hlt]; exact hh
    · rw [Array.getElem?_eq_none hge] at hh; cases hh
theorem own_base {w : World} {B B' e n : Nat} {v : Value} {xs : List Value} (h : w.ownsRow B' e 1 v n xs) (hB : B ≤ B') : w.ownsRow B e 1 v n xs := by
  refine ⟨h.1, ?_⟩
  rcases h.2 with h2 | ⟨g, cap, cur, hv, h1, hr⟩
  · exact .inl h2
  · exact .inr ⟨g, cap, cur, hv, by omega, hr⟩
theorem own_block {w : World} {B e n : Nat} {v : Value} {xs : List Value} (h : w.ownsRow B e 1 v n xs) : ∀ k, v.ownBlock = some k → B ≤ k := by
  intro k hk
  rcases h.2 with ⟨rfl, _⟩ | ⟨g, cap, cur, rfl, h1, _⟩
  · simp [Value.ownBlock] at hk
  · simp [Value.ownBlock] at hk; omega

section

variable {P : Program} (w : World)

/-- append of a list of bytes, nil or not, onto a row of the call's own. -/
theorem run_append_bytes (base : Nat) (t ty e : TypeId) (i : TypeInfo) (ht : P.underlying t = some (.slice e)) (hi : P.info? e = some i) (hz : i.zero = some (.int .u8 0))
    (hsize : i.size = 1) (hby : i.bytes = 1) (v : Value) (n : Nat) (l : List UInt8) (hown : w.ownsRow base e 1 v n (bcells l))
    (B : Nat) (a : Option Addr) (m : Nat) (news : List UInt8) (c : Nat) (hr : BAt w B a m news)
    (hlen : n + m ≤ 140737488355328) (hbase : base ≤ w.heap.size) :
    ∃ v' w', (Builtin.append_ #[t, t] ty #[v, .slice a m c]).run P w = .ok v' w' ∧ w'.ownsRow base e 1 v' (n + m) (bcells (l ++ news)) ∧ w.grownBy w' v.ownBlock := by
  have hm := hr.len
  rcases a with _ | ad
  · have hm0 : m = 0 := by
      rcases hr with ⟨_, h | ⟨b, off, h, _⟩⟩
      · exact h
      · cases h
    subst hm0
    obtain rfl : news = [] := List.eq_nil_of_length_eq_zero hm
    refine ⟨v, w, ?_, by simpa using hown, World.grownBy.refl w _⟩
    rcases hown.2 with ⟨rfl, h0⟩ | ⟨g, cap, cur, rfl, _, _, hnc, _⟩
    · simp [Builtin.append_, run_underlying ht, sizeOf, typeInfo, hi, Builtin.lenOf, Builtin.firstCells]
    · simp [Builtin.append_, run_underlying ht, sizeOf, typeInfo, hi, Builtin.lenOf, Builtin.firstCells, hnc, storeCells]
  · have hcells : ∀ j u, (bcells news)[j]? = some u → w.cell? (ad.add j) = some u := by
      intro j u hu
      obtain ⟨hj, rfl⟩ := bcells_get hu
      obtain ⟨b, off, e1, _, hc⟩ := hr.at_ hj
      injection e1 with e1; subst e1
      rw [add_plain]; exact hc
    obtain ⟨v', w', hrun, h2, h3, _, _⟩ := run_append_own_at (P := P) w base t ty e i (.int .u8 0) 1 1 ht hi hz hsize hby rfl (by decide) v n (bcells l) hown ad m c (bcells news) (by rw [bcells_len]; omega) hcells (bcells_one news) (by unfold maxLen; omega) (by omega) hbase
    exact ⟨v', w', hrun, by rw [bcells_app]; exact h2, h3⟩

theorem wpList_append_bytes {ops : Array Oper} {rest : List Oper} {o : Oper} {act : Act} {Q : Exit → Act → World → Prop} (hgd : o.guard = none) (s x : Operand) (t : TypeId)
    (ho : o.op = .call { callee := .builtin .append, args := #[s, x], argTypes := #[t, t] })
    (base : Nat) (e : TypeId) (i : TypeInfo) (ht : P.underlying t = some (.slice e)) (hi : P.info? e = some i) (hz : i.zero = some (.int .u8 0))
    (hsize : i.size = 1) (hby : i.bytes = 1) (v : Value) (n : Nat) (l : List UInt8) (hs : act.eval s = v) (hown : w.ownsRow base e 1 v n (bcells l))
    (B : Nat) (a : Option Addr) (m : Nat) (news : List UInt8) (c : Nat) (hx : act.eval x = .slice a m c) (hr : BAt w B a m news)
    (hlen : n + m ≤ 140737488355328) (hbase : base ≤ w.heap.size)
    (h : ∀ v' w', w'.ownsRow base e 1 v' (n + m) (bcells (l ++ news)) → w.grownBy w' v.ownBlock → wpList P ops Q rest (act.put o.dst v') w') : wpList P ops Q (o :: rest) act w := by
  refine wpList_plain hgd fun K hK => ?_
  obtain ⟨v', w', hrun, h2, h3⟩ := run_append_bytes (P := P) w base t o.type e i ht hi hz hsize hby v n l hown B a m news c hr hlen hbase
  unfold Oper.wp execOp
  simp only [ho, resolve, invoke, builtin, Sem.run_bind, Sem.run_pure, Result.andThen_ok, List.map_toArray, List.map_cons, List.map_nil, hs, hx, hrun]
  exact hK _ _ (h v' w' h2 h3)

/-- append of a text's bytes. -/
theorem wpList_append_text {ops : Array Oper} {rest : List Oper} {o : Oper} {act : Act} {Q : Exit → Act → World → Prop} (hgd : o.guard = none) (s x : Operand) (t u : TypeId)
    (ho : o.op = .call { callee := .builtin .append, args := #[s, x], argTypes := #[t, u] })
    (base : Nat) (e : TypeId) (i : TypeInfo) (ht : P.underlying t = some (.slice e)) (hu : P.underlying u = some .string) (hi : P.info? e = some i) (hz : i.zero = some (.int .u8 0))
    (hsize : i.size = 1) (hby : i.bytes = 1) (v : Value) (n : Nat) (l : List UInt8) (hs : act.eval s = v) (hown : w.ownsRow base e 1 v n (bcells l))
    (str : ByteArray) (hx : act.eval x = .string str) (hlen : n + str.size ≤ 140737488355328) (hbase : base ≤ w.heap.size)
    (h : ∀ v' w', w'.ownsRow base e 1 v' (n + str.size) (bcells (l ++ str.data.toList)) → w.grownBy w' v.ownBlock → wpList P ops Q rest (act.put o.dst v') w') : wpList P ops Q (o :: rest) act w := by
  refine Lib.wpList_append_own_string w hgd s x t u ho base e i ht hu hi hz hsize hby v n (bcells l) hs hown str hx (by unfold maxLen; omega) hlen hbase fun v' w' h2 h3 _ => h v' w' ?_ h3
  rw [bcells_app]; exact h2

/-- string(b). -/
theorem run_convert_bytes (src e dst : TypeId) (hs : P.underlying src = some (.slice e)) (he : P.underlying e = some (.int .u8)) (hd : P.underlying dst = some .string)
    (B : Nat) (a : Option Addr) (n : Nat) (l : List UInt8) (c : Nat) (hr : BAt w B a n l) : (convert src dst (.slice a n c)).run P w = .ok (.string ⟨l.toArray⟩) w := by
  obtain rfl := hr.len
  rcases a with _ | ad
  · have hm : l = [] := by
      rcases hr with ⟨_, h | ⟨b, off, h, _⟩⟩
      · exact List.eq_nil_of_length_eq_zero h
      · cases h
    subst hm
    rw [run_convert_bytes_nil w src e hs he _ c dst hd]; rfl
  · rw [run_convert_bytes_string w src dst e _ l.length c hs he hd]
    have hl : (loadCells ad l.length).run P w = .ok ((l.map fun c => (c.toNat : Int)).map (Value.int .u8)).toArray w := by
      have := run_loadCells_list (P := P) w ad (bcells l) (fun j u hj => by
        obtain ⟨hj', rfl⟩ := bcells_get hj
        obtain ⟨b, off, e1, _, hc⟩ := hr.at_ hj'
        injection e1 with e1; subst e1
        rw [add_plain]; exact hc)
      rw [bcells_len] at this
      rw [this]; simp [bcells]
    rw [run_bytesToString w _ l.length c _ hl, foldl_push_bytes]
    congr 3
    show _ = l.toArray
    have hm : ∀ m : List UInt8, List.map ((fun n : Int => UInt8.ofNat n.toNat) ∘ fun c : UInt8 => (c.toNat : Int)) m = m := by
      intro m; induction m with
      | nil => rfl
      | cons c r ih => rw [List.map_cons, ih]; simp
    simp [ByteArray.empty, ByteArray.emptyWithCapacity]
    exact hm l
end

end Go.Proofs.Ytclfgkeepmdmjaa
