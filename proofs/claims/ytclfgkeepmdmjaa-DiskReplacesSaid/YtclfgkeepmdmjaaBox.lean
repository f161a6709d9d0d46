/- Words for structs in memory: a box of cells, and a row of elements of k cells each. No condition. -/
import Derived.Test.YtclfgkeepmdmjaaCodeMore

namespace Go.Proofs.Ytclfgkeepmdmjaa

open Go.RowKit

/-- A box of cells in block g. -/
def BoxC (w : World) (g : Nat) (cs : Array Value) (t : TypeId) : Prop := w.heap[g]? = some (.cells cs t (0, 0))
section

variable {w w' : World} {g B r : Nat} {cs : Array Value} {t : TypeId}

theorem BoxC.new (w : World) (cs : Array Value) (t : TypeId) : BoxC (w.alloc (.cells cs t)) w.heap.size cs t := heap_alloc_new _ _
theorem BoxC.lt (h : BoxC w g cs t) : g < w.heap.size := lt_of_heap h
theorem BoxC.below (h : BoxC w g cs t) (hb : Below w.heap.size w w') : BoxC w' g cs t := (hb.block g h.lt).trans h
theorem BoxC.under (h : BoxC w g cs t) (hb : Below B w w') (hg : g < B) : BoxC w' g cs t := (hb.block g hg).trans h
theorem BoxC.alloc (h : BoxC w g cs t) (o : Obj) : BoxC (w.alloc o) g cs t := (Below.heap_alloc _ _ _ h.lt).trans h
theorem BoxC.only (h : BoxC w g cs t) (ho : Only r w w') (hr : g ≠ r) : BoxC w' g cs t := (ho.block g h.lt (fun e => by injection e with e; exact hr e)).trans h
theorem BoxC.grown {row : Option Nat} (h : BoxC w g cs t) (ho : w.grownBy w' row) (hr : some g ≠ row) : BoxC w' g cs t := (ho.block g h.lt hr).trans h
theorem BoxC.drewN (h : BoxC w g cs t) (k : Nat) : BoxC (w.drewN k) g cs t := h
theorem BoxC.cell (h : BoxC w g cs t) (i : Nat) (u : Value) (hu : cs[i]? = some u) : w.cell? ⟨g, i, none⟩ = some u := by rw [cell_of_row _ _ _ _ _ _ h]; exact hu
theorem BoxC.frozen (h : BoxC w g cs t) (i : Nat) : w.frozen? ⟨g, i, none⟩ = false := by
  have h' : w.heap[g]? = some (.cells cs t (0, 0)) := h
  simp [World.frozen?, h']
theorem BoxC.set (h : BoxC w g cs t) (i : Nat) (u : Value) : BoxC (w.setCell ⟨g, i, none⟩ u) g (cs.setIfInBounds i u) t := set_row h i u
theorem BoxC.far (h : BoxC w g cs t) (i : Nat) (u : Value) (hne : g ≠ r) : BoxC (w.setCell ⟨r, i, none⟩ u) g cs t := (Below.heap_setCell _ _ _ _ hne).trans h
theorem BoxC.two {x y : Value} (h : BoxC w g #[x, y] t) : w.cell? ⟨g, 0, none⟩ = some x ∧ w.cell? ⟨g, 1, none⟩ = some y := ⟨h.cell 0 x rfl, h.cell 1 y rfl⟩
end

/-- Boxes that lie there, and what was there before w stands. -/
def Boxs (w W : World) (l : List (Nat × Array Value × TypeId)) : Prop := Below w.heap.size w W ∧ ∀ b ∈ l, BoxC W b.1 b.2.1 b.2.2
section

variable {w W W' : World} {l : List (Nat × Array Value × TypeId)}

theorem Boxs.bel (h : Boxs w W l) : Below w.heap.size w W := h.1
theorem Boxs.below (h : Boxs w W l) (hb : Below W.heap.size W W') : Boxs w W' l := ⟨h.1.trans (hb.mono h.1.size), fun b hb' => (h.2 b hb').below hb⟩
theorem Boxs.drewN (h : Boxs w W l) (k : Nat) : Boxs w (W.drewN k) l := ⟨below_drewN k h.1, fun b hb => (h.2 b hb).drewN k⟩
theorem Boxs.drew (h : Boxs w W l) : Boxs w W.drew l := h.drewN 1
theorem Boxs.get (h : Boxs w W l) (i : Nat) (g : Nat) (cs : Array Value) (t : TypeId) (hi : l[i]? = some (g, cs, t)) : BoxC W g cs t := h.2 _ (List.mem_of_getElem? hi)
theorem Boxs.cons (h : Boxs w W l) {g : Nat} {cs : Array Value} {t : TypeId} (hb : BoxC W g cs t) : Boxs w W ((g, cs, t) :: l) := ⟨h.1, fun b hb' => by
  rcases List.mem_cons.1 hb' with rfl | h'
  · exact hb
  · exact h.2 b h'⟩
/-- A box is made beside them. -/
theorem Boxs.more (h : Boxs w W l) (cs : Array Value) (t : TypeId) : Boxs w (W.alloc (.cells cs t)) ((W.heap.size, cs, t) :: l) :=
  Boxs.cons (h.below ((Below.refl _ _).alloc (Nat.le_refl _) _)) (BoxC.new W cs t)
theorem Boxs.only {r : Nat} (h : Boxs w W l) (ho : Only r W W') (hr : w.heap.size ≤ r) (hl : ∀ b ∈ l, b.1 ≠ r) : Boxs w W' l :=
  ⟨Only.below h.1 ho hr h.1.size, fun b hb => (h.2 b hb).only ho (hl b hb)⟩
theorem Boxs.tail {b : Nat × Array Value × TypeId} (h : Boxs w W (b :: l)) : Boxs w W l := ⟨h.1, fun c hc => h.2 c (List.mem_cons_of_mem _ hc)⟩
/-- A box of two cells is filled anew. -/
theorem Boxs.set2 {g : Nat} {x y x' y' : Value} {t : TypeId} (h : Boxs w W ((g, #[x, y], t) :: l)) (hg : w.heap.size ≤ g) (hl : ∀ b ∈ l, b.1 ≠ g) : Boxs w ((W.setCell ⟨g, 0, none⟩ x').setCell ⟨g, 1, none⟩ y') ((g, #[x', y'], t) :: l) := by
  refine ⟨(h.1.setCell hg _).setCell hg _, fun b hb => ?_⟩
  rcases List.mem_cons.1 hb with rfl | hb
  · exact ((h.get 0 _ _ _ rfl).set 0 x').set 1 y'
  · exact ((h.2 b (List.mem_cons_of_mem _ hb)).far 0 x' (hl b hb)).far 1 y' (hl b hb)
theorem Boxs.start (w : World) : Boxs w w [] := ⟨Below.refl _ _, fun b hb => by cases hb⟩
end

theorem two_box (w : World) (cs ds : Array Value) (t u : TypeId) : Below w.heap.size w ((w.alloc (.cells cs t)).alloc (.cells ds u)) := ((Below.refl _ _).alloc (Nat.le_refl _) _).alloc (by simp) _
theorem one_box (w : World) (cs : Array Value) (t : TypeId) : Below w.heap.size w (w.alloc (.cells cs t)) := (Below.refl _ _).alloc (Nat.le_refl _) _

/-- A slice of n elements of k cells each holds the cells xs, in a block below B. -/
def RowAt (w : World) (B : Nat) (a : Option Addr) (n k : Nat) (xs : List Value) : Prop :=
  xs.length = n * k ∧ (n = 0 ∨ ∃ b off, a = some ⟨b, off, none⟩ ∧ b < B ∧ ∀ j u, xs[j]? = some u → w.cell? ⟨b, off + j, none⟩ = some u)
section

variable {w w' : World} {B B' n k : Nat} {a : Option Addr} {xs : List Value}

theorem RowAt.nil : RowAt w B a 0 k [] := ⟨by simp, .inl rfl⟩
theorem RowAt.keep (h : RowAt w B a n k xs) (hk : ∀ b, b < B → w'.heap[b]? = w.heap[b]?) : RowAt w' B a n k xs := by
  rcases h with ⟨hn, h | ⟨b, off, ha, hb, hc⟩⟩
  · exact ⟨hn, .inl h⟩
  · exact ⟨hn, .inr ⟨b, off, ha, hb, fun j u hu => (World.cell?_of_block (hk b hb)).trans (hc j u hu)⟩⟩
theorem RowAt.more (h : RowAt w B a n k xs) (hB : B ≤ B') : RowAt w B' a n k xs := by
  rcases h with ⟨hn, h | ⟨b, off, ha, hb, hc⟩⟩
  · exact ⟨hn, .inl h⟩
  · exact ⟨hn, .inr ⟨b, off, ha, by omega, hc⟩⟩
theorem RowAt.below {C : Nat} (h : RowAt w B a n k xs) (hb : Below C w w') (hC : B ≤ C) : RowAt w' B a n k xs := h.keep fun b hb' => hb.block b (by omega)
theorem RowAt.drewN (h : RowAt w B a n k xs) (q : Nat) : RowAt (w.drewN q) B a n k xs := h
theorem RowAt.addr (h : RowAt w B a n k xs) (hn : 0 < n) : ∃ b off, a = some ⟨b, off, none⟩ ∧ b < B ∧ ∀ j u, xs[j]? = some u → w.cell? ⟨b, off + j, none⟩ = some u := by
  rcases h with ⟨_, h | h⟩
  · omega
  · exact h
theorem RowAt.of_own {base : Nat} {e : TypeId} {c : Nat} (h : w.ownsRow base e k (.slice a n c) n xs) : RowAt w w.heap.size a n k xs := by
  refine ⟨h.1, ?_⟩
  rcases h.2 with ⟨_, h0⟩ | ⟨g, cap, cur, hv, _, hh, _⟩
  · exact .inl h0
  · injection hv with hv1
    subst hv1
    refine .inr ⟨g, 0, rfl, lt_of_heap hh, fun j u hu => ?_⟩
    have := h.cells (g := g) rfl j u hu
    rwa [add_plain] at this
/-- A block just made reads as one element. -/
theorem RowAt.one (w : World) (cs : Array Value) (t : TypeId) : RowAt (w.alloc (.cells cs t)) (w.heap.size + 1) (some ⟨w.heap.size, 0, none⟩) 1 cs.size cs.toList := by
  refine ⟨by simp, .inr ⟨w.heap.size, 0, rfl, by omega, fun j u hu => ?_⟩⟩
  rw [cell_of_row _ w.heap.size _ _ t (0, 0) (heap_alloc_new w _), Nat.zero_add]
  simpa using hu
/-- A block just made reads as n elements. -/
theorem RowAt.made (w : World) (cs : Array Value) (t : TypeId) (n k : Nat) (h : cs.size = n * k) : RowAt (w.alloc (.cells cs t)) (w.alloc (.cells cs t)).heap.size (some ⟨w.heap.size, 0, none⟩) n k cs.toList := by
  refine ⟨by simpa using h, .inr ⟨w.heap.size, 0, rfl, by simp, fun j u hu => ?_⟩⟩
  rw [cell_of_row _ w.heap.size _ _ t (0, 0) (heap_alloc_new w _), Nat.zero_add]
  simpa using hu
end

section

variable {P : Program} (w : World)

theorem run_append_rowk (base : Nat) (t ty e : TypeId) (i : TypeInfo) (z : Value) (k bytes : Nat) (ht : P.underlying t = some (.slice e)) (hi : P.info? e = some i) (hz : i.zero = some z)
    (hsize : i.size = k) (hby : i.bytes = bytes) (hzs : z.cells.size = k) (hk : 0 < k) (v : Value) (n : Nat) (xs : List Value) (hown : w.ownsRow base e k v n xs)
    (B : Nat) (a : Option Addr) (m c : Nat) (news : List Value) (hr : RowAt w B a m k news) (h1 : ∀ u ∈ news, u.oneCell' = true)
    (h63 : n + m ≤ maxLen) (hlen : (n + m) * bytes ≤ 140737488355328) (hbase : base ≤ w.heap.size) :
    ∃ v' w', (Builtin.append_ #[t, t] ty #[v, .slice a m c]).run P w = .ok v' w' ∧ w'.ownsRow base e k v' (n + m) (xs ++ news) ∧ w.grownBy w' v.ownBlock ∧ (v'.ownBlock = v.ownBlock ∨ v'.ownBlock = some w.heap.size) := by
  have hm := hr.1
  rcases a with _ | ad
  · have hm0 : m = 0 := by
      rcases hr with ⟨_, h | ⟨b, off, h, _⟩⟩
      · exact h
      · cases h
    subst hm0
    rw [Nat.zero_mul] at hm
    obtain rfl : news = [] := List.eq_nil_of_length_eq_zero hm
    refine ⟨v, w, ?_, by simpa using hown, World.grownBy.refl w _, .inl rfl⟩
    rcases hown.2 with ⟨rfl, h0⟩ | ⟨g, cap, cur, rfl, _, _, hnc, _⟩
    · simp [Builtin.append_, run_underlying ht, sizeOf, typeInfo, hi, Builtin.lenOf, Builtin.firstCells]
    · simp [Builtin.append_, run_underlying ht, sizeOf, typeInfo, hi, Builtin.lenOf, Builtin.firstCells, hnc, storeCells]
  · have hcells : ∀ j u, news[j]? = some u → w.cell? (ad.add j) = some u := by
      intro j u hu
      rcases hr with ⟨_, h | ⟨b, off, h, _, hc⟩⟩
      · rw [h, Nat.zero_mul] at hm
        rw [List.eq_nil_of_length_eq_zero hm] at hu; simp at hu
      · injection h with h; subst h
        rw [add_plain]; exact hc j u hu
    obtain ⟨v', w', hrun, h2, h3, _, h5⟩ := run_append_own_at (P := P) w base t ty e i z k bytes ht hi hz hsize hby hzs hk v n xs hown ad m c news hm hcells h1 h63 hlen hbase
    exact ⟨v', w', hrun, h2, h3, h5⟩
theorem wpList_append_rowk {ops : Array Oper} {rest : List Oper} {o : Oper} {act : Act} {Q : Exit → Act → World → Prop} (hgd : o.guard = none) (s x : Operand) (t : TypeId)
    (ho : o.op = .call { callee := .builtin .append, args := #[s, x], argTypes := #[t, t] })
    (base : Nat) (e : TypeId) (i : TypeInfo) (z : Value) (k bytes : Nat) (ht : P.underlying t = some (.slice e)) (hi : P.info? e = some i) (hz : i.zero = some z)
    (hsize : i.size = k) (hby : i.bytes = bytes) (hzs : z.cells.size = k) (hk : 0 < k) (v : Value) (n : Nat) (xs : List Value) (hs : act.eval s = v) (hown : w.ownsRow base e k v n xs)
    (B : Nat) (a : Option Addr) (m c : Nat) (news : List Value) (hx : act.eval x = .slice a m c) (hr : RowAt w B a m k news) (h1 : ∀ u ∈ news, u.oneCell' = true)
    (h63 : n + m ≤ maxLen) (hlen : (n + m) * bytes ≤ 140737488355328) (hbase : base ≤ w.heap.size)
    (h : ∀ v' w', w'.ownsRow base e k v' (n + m) (xs ++ news) → w.grownBy w' v.ownBlock → (v'.ownBlock = v.ownBlock ∨ v'.ownBlock = some w.heap.size) → wpList P ops Q rest (act.put o.dst v') w') : wpList P ops Q (o :: rest) act w := by
  refine wpList_plain hgd fun K hK => ?_
  obtain ⟨v', w', hrun, h2, h3, h4⟩ := run_append_rowk (P := P) w base t o.type e i z k bytes ht hi hz hsize hby hzs hk v n xs hown B a m c news hr h1 h63 hlen hbase
  unfold Oper.wp execOp
  simp only [ho, resolve, invoke, builtin, Sem.run_bind, Sem.run_pure, Result.andThen_ok, List.map_toArray, List.map_cons, List.map_nil, hs, hx, hrun]
  exact hK _ _ (h v' w' h2 h3 h4)
end

/-- A row of k-cell elements that is the call's own, carried on. -/
theorem ownk_grown {w w' : World} {B e n k : Nat} {v : Value} {xs : List Value} {g : Option Nat} (h : w.ownsRow B e k v n xs) (hg : w.grownBy w' g) (hv : ∀ j, v.ownBlock = some j → g ≠ some j) : w'.ownsRow B e k v n xs := by
  refine ⟨h.1, ?_⟩
  rcases h.2 with ⟨rfl, rfl⟩ | ⟨b, cap, cur, rfl, h1, hh, hr⟩
  · exact .inl ⟨rfl, rfl⟩
  · refine .inr ⟨b, cap, cur, rfl, h1, ?_, hr⟩
    rw [hg.block b (lt_of_heap hh) (fun e => hv b rfl e.symm)]; exact hh
theorem ownk_below {w w' : World} {B e n k : Nat} {v : Value} {xs : List Value} (h : w.ownsRow B e k v n xs) (hb : Below w.heap.size w w') : w'.ownsRow B e k v n xs :=
  ownk_grown (g := none) h ⟨hb.os, hb.tape, hb.output, hb.size, fun b hb' _ => hb.block b hb'⟩ (fun _ _ h => by cases h)
theorem ownk_form {w : World} {base k : Nat} {e : TypeId} {v : Value} {n : Nat} {xs : List Value} (h : w.ownsRow base e k v n xs) :
    ∃ a c, v = .slice a n c ∧ n ≤ c ∧ c ≤ maxLen := by
  rcases h.2 with ⟨rfl, rfl⟩ | ⟨g, cap, cur, rfl, hb, hh, hnc, hcm, _⟩
  · exact ⟨none, 0, rfl, Nat.le_refl _, by unfold maxLen; omega⟩
  · exact ⟨_, cap, rfl, hnc, hcm⟩

/-- The cells of a list of structs, k cells each: cell j of element i. -/
theorem flat_get {α : Type} (f : α → List Value) (k : Nat) (hf : ∀ x, (f x).length = k) (l : List α) (i j : Nat) (hi : i < l.length) (hj : j < k) : (l.flatMap f)[i * k + j]? = (f l[i])[j]? := by
  induction l generalizing i with
  | nil => simp at hi
  | cons x r ih =>
    rw [List.flatMap_cons]
    cases i with
    | zero => rw [Nat.zero_mul, Nat.zero_add, List.getElem?_append_left (by rw [hf]; exact hj)]; rfl
    | succ i =>
      have hk : (i + 1) * k + j = k + (i * k + j) := by rw [Nat.succ_mul]; omega
      rw [hk, List.getElem?_append_right (by rw [hf]; omega), hf, Nat.add_sub_cancel_left]
      exact ih i (by simpa using hi)
theorem flat_len {α : Type} (f : α → List Value) (k : Nat) (hf : ∀ x, (f x).length = k) (l : List α) : (l.flatMap f).length = l.length * k := by
  induction l with
  | nil => simp
  | cons x r ih => rw [List.flatMap_cons, List.length_append, hf, ih, List.length_cons, Nat.succ_mul]; omega
end Go.Proofs.Ytclfgkeepmdmjaa
