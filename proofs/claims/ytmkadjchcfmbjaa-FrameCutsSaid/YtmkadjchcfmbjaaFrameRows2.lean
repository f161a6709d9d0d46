/- More words for rows of the call's own: append of a list that may be nil; a row that another row's growing leaves alone; lists of lists. No condition. -/
import Derived.Test.YtmkadjchcfmbjaaFrameAll
import Derived.Test.YtmkadjchcfmbjaaCodeIn
namespace Go.Proofs.Ytmkadjchcfmbjaa
open Go.RowKit

/-- A slice of m one-cell elements that holds the values news. -/
def CellsAt (w : World) (a : Option Addr) (m : Nat) (news : List Value) : Prop :=
  news.length = m ∧ (m = 0 ∨ ∃ b off, a = some ⟨b, off, none⟩ ∧ ∀ j u, news[j]? = some u → w.cell? ⟨b, off + j, none⟩ = some u)
theorem CellsAt.of_own {w : World} {B e n c : Nat} {a : Option Addr} {xs : List Value} (h : w.ownsRow B e 1 (.slice a n c) n xs) : CellsAt w a n xs := by
  refine ⟨by have := h.1; omega, ?_⟩
  rcases Nat.eq_zero_or_pos n with h0 | hn
  · exact .inl h0
  · obtain ⟨g, cap, hv, _, _⟩ := h.form hn
    have hA : a = some ⟨g, 0, none⟩ := by injection hv
    subst hA
    refine .inr ⟨g, 0, rfl, fun j u hu => ?_⟩
    have := h.cells (g := g) rfl j u hu
    rwa [add_plain] at this

section
variable {P : Program} (w : World)
theorem run_append_row (base : Nat) (t ty e : TypeId) (i : TypeInfo) (z : Value) (bytes : Nat) (ht : P.underlying t = some (.slice e)) (hi : P.info? e = some i) (hz : i.zero = some z)
    (hsize : i.size = 1) (hby : i.bytes = bytes) (hzs : z.cells.size = 1) (v : Value) (n : Nat) (xs : List Value) (hown : w.ownsRow base e 1 v n xs)
    (a : Option Addr) (m c : Nat) (news : List Value) (hr : CellsAt w a m news) (h1 : ∀ u ∈ news, u.oneCell' = true)
    (h63 : n + m ≤ maxLen) (hlen : (n + m) * bytes ≤ 140737488355328) (hbase : base ≤ w.heap.size) :
    ∃ v' w', (Builtin.append_ #[t, t] ty #[v, .slice a m c]).run P w = .ok v' w' ∧ w'.ownsRow base e 1 v' (n + m) (xs ++ news) ∧ w.grownBy w' v.ownBlock ∧ (v'.ownBlock = v.ownBlock ∨ v'.ownBlock = some w.heap.size) := by
  have hm := hr.1
  rcases a with _ | ad
  · have hm0 : m = 0 := by
      rcases hr with ⟨_, h | ⟨b, off, h, _⟩⟩
      · exact h
      · cases h
    subst hm0
    obtain rfl : news = [] := List.eq_nil_of_length_eq_zero hm
    refine ⟨v, w, ?_, by simpa using hown, World.grownBy.refl w _, .inl rfl⟩
    rcases hown.2 with ⟨rfl, h0⟩ | ⟨g, cap, cur, rfl, _, _, hnc, _⟩
    · simp [Builtin.append_, run_underlying ht, sizeOf, typeInfo, hi, Builtin.lenOf, Builtin.firstCells]
    · simp [Builtin.append_, run_underlying ht, sizeOf, typeInfo, hi, Builtin.lenOf, Builtin.firstCells, hnc, storeCells]
  · have hcells : ∀ j u, news[j]? = some u → w.cell? (ad.add j) = some u := by
      intro j u hu
      rcases hr with ⟨_, h | ⟨b, off, h, hc⟩⟩
      · rw [h] at hm
        rw [List.eq_nil_of_length_eq_zero hm] at hu; simp at hu
      · injection h with h; subst h
        rw [add_plain]; exact hc j u hu
    obtain ⟨v', w', hrun, h2, h3, _, h5⟩ := run_append_own_at (P := P) w base t ty e i z 1 bytes ht hi hz hsize hby hzs (by decide) v n xs hown ad m c news (by omega) hcells h1 h63 hlen hbase
    exact ⟨v', w', hrun, h2, h3, h5⟩
theorem wpList_append_row {ops : Array Oper} {rest : List Oper} {o : Oper} {act : Act} {Q : Exit → Act → World → Prop} (hgd : o.guard = none) (s x : Operand) (t : TypeId)
    (ho : o.op = .call { callee := .builtin .append, args := #[s, x], argTypes := #[t, t] })
    (base : Nat) (e : TypeId) (i : TypeInfo) (z : Value) (bytes : Nat) (ht : P.underlying t = some (.slice e)) (hi : P.info? e = some i) (hz : i.zero = some z)
    (hsize : i.size = 1) (hby : i.bytes = bytes) (hzs : z.cells.size = 1) (v : Value) (n : Nat) (xs : List Value) (hs : act.eval s = v) (hown : w.ownsRow base e 1 v n xs)
    (a : Option Addr) (m c : Nat) (news : List Value) (hx : act.eval x = .slice a m c) (hr : CellsAt w a m news) (h1 : ∀ u ∈ news, u.oneCell' = true)
    (h63 : n + m ≤ maxLen) (hlen : (n + m) * bytes ≤ 140737488355328) (hbase : base ≤ w.heap.size)
    (h : ∀ v' w', w'.ownsRow base e 1 v' (n + m) (xs ++ news) → w.grownBy w' v.ownBlock → (v'.ownBlock = v.ownBlock ∨ v'.ownBlock = some w.heap.size) → wpList P ops Q rest (act.put o.dst v') w') : wpList P ops Q (o :: rest) act w := by
  refine wpList_plain hgd fun K hK => ?_
  obtain ⟨v', w', hrun, h2, h3, h4⟩ := run_append_row (P := P) w base t o.type e i z bytes ht hi hz hsize hby hzs v n xs hown a m c news hr h1 h63 hlen hbase
  unfold Oper.wp execOp
  simp only [ho, resolve, invoke, builtin, Sem.run_bind, Sem.run_pure, Result.andThen_ok, List.map_toArray, List.map_cons, List.map_nil, hs, hx, hrun]
  exact hK _ _ (h v' w' h2 h3 h4)
end

/-- A row that another row's growing leaves alone. -/
theorem own_grown {w w' : World} {B e n : Nat} {v : Value} {xs : List Value} {g : Option Nat} (h : w.ownsRow B e 1 v n xs) (hg : w.grownBy w' g) (hv : ∀ k, v.ownBlock = some k → g ≠ some k) : w'.ownsRow B e 1 v n xs := by
  refine ⟨h.1, ?_⟩
  rcases h.2 with ⟨rfl, rfl⟩ | ⟨b, cap, cur, rfl, h1, hh, hr⟩
  · exact .inl ⟨rfl, rfl⟩
  · refine .inr ⟨b, cap, cur, rfl, h1, ?_, hr⟩
    rw [hg.block b (lt_of_heap hh) (fun e => hv b rfl e.symm)]; exact hh
theorem rows_of {w : World} {B n c : Nat} {a : Option Addr} {S : Nat → Prop} {g : Option Nat} {xs : List Value} {ls : List (List UInt8)} (ho : w.ownsRow B 22 1 (.slice a n c) n xs) (he : Els w S g xs ls) (hm : ∀ l ∈ ls, l.length ≤ maxLen) : RowsAt w a n ls := by
  refine ⟨by rw [← he.1, ho.1, Nat.mul_one], fun i hi => ?_⟩
  obtain ⟨a', m, c', h1, h2, _⟩ := he.2 i hi
  have hn : 0 < n := by have := ho.1; have := he.1; omega
  obtain ⟨g, cap, hv, _, _⟩ := ho.form hn
  have hA : a = some ⟨g, 0, none⟩ := by injection hv
  subst hA
  have := ho.cells (g := g) rfl i _ h1
  rw [add_plain] at this
  exact ⟨g, 0, a', m, c', rfl, this, h2, by rw [← h2.len]; exact hm _ (List.getElem_mem hi)⟩
theorem RowsAt.below {w w' : World} {a : Option Addr} {n : Nat} {ls : List (List UInt8)} (h : RowsAt w a n ls) (hb : Below w.heap.size w w') : RowsAt w' a n ls := by
  refine ⟨h.1, fun i hi => ?_⟩
  obtain ⟨b, off, a', m, c, ha, hc, hr, hm⟩ := h.2 i hi
  exact ⟨b, off, a', m, c, ha, (hb.cell (block_lt hc)).trans hc, (hr.below hb (Nat.le_refl _)).more hb.size, hm⟩
theorem RowsAt.take {w : World} {a : Option Addr} {n k : Nat} {ls : List (List UInt8)} (h : RowsAt w a n ls) (hk : k ≤ n) : RowsAt w a k (ls.take k) := by
  refine ⟨by have := h.1; simp; omega, fun i hi => ?_⟩
  have hi' : i < ls.length := by simp at hi; omega
  obtain ⟨b, off, a', m, c, ha, hc, hr, hm⟩ := h.2 i hi'
  exact ⟨b, off, a', m, c, ha, hc, by simpa using hr, hm⟩

/-- One such row behind another. -/
theorem els_cat {w w' : World} {S : Nat → Prop} {v v' : Value} {xs ys : List Value} {ls ms : List (List UInt8)} (hx : Els w S v.ownBlock xs ls) (hy : Els w S v.ownBlock ys ms) (hg : w.grownBy w' v.ownBlock)
    (hat : v'.ownBlock = v.ownBlock ∨ v'.ownBlock = some w.heap.size) : Els w' S v'.ownBlock (xs ++ ys) (ls ++ ms) := by
  rcases hat with h | h
  · rw [h]; exact (hx.app hy).grown hg
  · rw [h]; exact (hx.app hy).grown_to hg (.inr (Nat.le_refl _))
end Go.Proofs.Ytmkadjchcfmbjaa
