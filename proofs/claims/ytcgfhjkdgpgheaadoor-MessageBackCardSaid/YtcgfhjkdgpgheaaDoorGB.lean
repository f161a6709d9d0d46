/- Words for rows of the call's own and for lists of lists of bytes in memory; append onto such rows; the document's comparison. No condition. Contracts of the document's own reader: Take, TakeText, Left, End. Conditions: it lies in memory as its literal lays it, in a block above its bytes. The program's reader and the document's, carried on: whatever is done elsewhere leaves them as they are. No condition. Words for structs in memory: a box of cells, and a row of elements of k cells each. No condition. Words for the lists of a transaction in memory: reads of two cells, writes of four. No condition. Reading as a state: the bytes that are left, or none where it has failed; what the two readers answer in these words. No condition. -/
import Derived.Test.YtcgfhjkdgpgheaaDoorGA
import Derived.Test.YtcgfhjkdgpgheaaDoorCodeRef
import Derived.Test.YtcgfhjkdgpgheaaDoorGR
import Derived.Deep.AppendLies
import Derived.Deep.QuietTactic
import Derived.BigQuiet
/- OwnRows -/
namespace Go.Proofs.YtcgfhjkdgpgheaaDoor

open Go.RowKit

set_option linter.unusedVariables false

theorem Tryd.info3 : (Tryd.prog.info? 3).map (fun i => (i.zero, i.size, i.bytes)) = some (some (.int .i64 0), 1, 8) := by kernel_rfl
theorem quiet_same {P : Program} {f : FuncId} {args : Array Value} {w : World} {n : Nat} {v : Value}
    (h : Calls P f args (w.drewN n) fun e w' => e = .returned v ∧ w.drewN n = w') : Calls P f args (w.drewN n) fun e w'' => e = .returned v ∧ ∃ m, w'' = w.drewN m :=
  h.mono fun _ _ ⟨he, hm⟩ => ⟨he, n, hm.symm⟩
theorem BAt.addr {w : World} {B n : Nat} {a : Option Addr} {l : List UInt8} (h : BAt w B a n l) (hn : 0 < n) : ∃ b off, a = some ⟨b, off, none⟩ ∧ b < B := by
  rcases h with ⟨_, h | ⟨b, off, ha, hb, _⟩⟩
  · omega
  · exact ⟨b, off, ha, hb⟩
/-- A row just built reads as its bytes. -/
theorem BAt.made (w : World) (l : List UInt8) (cs : Array Value) (t : TypeId) (fr : Nat × Nat) (h : cs = (bcells l).toArray) : BAt (w.alloc (.cells cs t fr)) (w.heap.size + 1) (some ⟨w.heap.size, 0, none⟩) l.length l := by
  refine ⟨rfl, .inr ⟨w.heap.size, 0, rfl, by omega, fun i hi => ?_⟩⟩
  subst h
  rw [cell_of_row _ w.heap.size _ _ t fr (heap_alloc_new w _)]
  simp [bcells, hi]
/-- True is answered, and nothing that was there has turned. -/
def Says (w : World) (b : Bool) (e : Ending) (w' : World) : Prop := e = .returned (.bool b) ∧ Below w.heap.size w w'
/-- A cell of a row of the call's own is stored. -/
theorem own_set {w : World} {B e g n cap i : Nat} {xs : List Value} (h : w.ownsRow B e 1 (.slice (some ⟨g, 0, none⟩) n cap) n xs) (hi : i < n) (u : Value) :
    (w.setCell ⟨g, i, none⟩ u).ownsRow B e 1 (.slice (some ⟨g, 0, none⟩) n cap) n (xs.set i u) := by
  refine ⟨by rw [List.length_set]; exact h.1, ?_⟩
  rcases h.2 with ⟨h1, _⟩ | ⟨g', cap', cur, hv, hb, hh, hnc, hcm, hsz, htk⟩
  · cases h1
  · injection hv with hv1 _ hv3
    injection hv1 with hv1
    injection hv1 with hv1
    subst hv1; subst hv3
    refine .inr ⟨g, cap, cur.setIfInBounds i u, rfl, hb, set_row hh _ _, hnc, hcm, by simpa using hsz, ?_⟩
    rw [Array.toList_setIfInBounds, List.take_set, htk]
theorem bcells_set (l : List UInt8) (i : Nat) (b : UInt8) : (bcells l).set i (.int .u8 (b.toNat : Int)) = bcells (l.set i b) := by simp [bcells, List.map_set]
theorem own_addr {w : World} {B e n c : Nat} {a : Option Addr} {xs : List Value} (h : w.ownsRow B e 1 (.slice a n c) n xs) (hn : 0 < n) : ∃ g, a = some ⟨g, 0, none⟩ ∧ B ≤ g ∧ g < w.heap.size ∧ w.heap[g]?.isSome ∧ (∀ i, w.frozen? ⟨g, i, none⟩ = false) := by
  rcases h.2 with ⟨_, h0⟩ | ⟨g, cap, cur, hv, hb, hh, _⟩
  · omega
  · injection hv with hv1
    refine ⟨g, hv1, hb, lt_of_heap hh, by rw [hh]; rfl, fun i => ?_⟩
    simp [World.frozen?, hh]
theorem own_cell {w : World} {B g n c : Nat} {l : List UInt8} (h : w.ownsRow B 5 1 (.slice (some ⟨g, 0, none⟩) n c) n (bcells l)) {i : Nat} (hi : i < l.length) : w.cell? ⟨g, i, none⟩ = some (.int .u8 (l[i].toNat : Int)) := by
  obtain ⟨b, off, e1, _, hc⟩ := (BAt.of_own h).at_ hi
  injection e1 with e1
  injection e1 with e1 e2
  subst e1; subst e2
  rw [Nat.zero_add] at hc; exact hc
theorem own_caps {w : World} {B e n m c : Nat} {a : Option Addr} {xs : List Value} (h : w.ownsRow B e 1 (.slice a n c) m xs) : n ≤ c ∧ c ≤ maxLen := by
  obtain ⟨_, _, e1, hnc, hcm, _⟩ := own_form h
  injection e1 with _ e2 e3
  subst e2; subst e3
  exact ⟨hnc, hcm⟩
theorem own_at {w : World} {B e n m c : Nat} {a : Option Addr} {xs : List Value} (h : w.ownsRow B e 1 (.slice a m c) n xs) : ∀ ad, a = some ad → B ≤ ad.block ∧ ad.block < w.heap.size := by
  obtain ⟨_, _, e1, _, _, h1⟩ := own_form h
  injection e1 with e1
  subst e1
  exact h1
theorem own_lt {w : World} {B e n : Nat} {v : Value} {xs : List Value} (h : w.ownsRow B e 1 v n xs) : ∀ g, v.ownBlock = some g → g < w.heap.size := by
  intro g hg
  obtain ⟨a, c, rfl, _, _, h1⟩ := own_form h
  cases a with
  | none => cases hg
  | some ad => injection hg with hg; subst hg; exact (h1 ad rfl).2
theorem Tryd.info37 : (Tryd.prog.info? 37).map (fun i => (i.zero, i.size, i.bytes)) = some (some (.slice none 0 0), 1, 24) := by kernel_rfl

theorem BAt.moved {w w' : World} {B B' n : Nat} {a : Option Addr} {l : List UInt8} (h : BAt w B a n l) (hB : B ≤ B') (hk : ∀ b off, a = some ⟨b, off, none⟩ → 0 < n → b < B → w'.heap[b]? = w.heap[b]?) : BAt w' B' a n l := by
  rcases h with ⟨hn, h | ⟨b, off, ha, hb, hc⟩⟩
  · exact ⟨hn, .inl h⟩
  · rcases Nat.eq_zero_or_pos n with h0 | h0
    · exact ⟨hn, .inl h0⟩
    · exact ⟨hn, .inr ⟨b, off, ha, by omega, fun i hi => (World.cell?_of_block (hk b off ha h0 hb)).trans (hc i hi)⟩⟩

/-- Slices xs that read as the lists ls, each in a block of S, none in block g. -/
def Els (w : World) (S : Nat → Prop) (g : Option Nat) (xs : List Value) (ls : List (List UInt8)) : Prop :=
  xs.length = ls.length ∧ ∀ i (h : i < ls.length), ∃ a m c, xs[i]? = some (.slice a m c) ∧ BAt w w.heap.size a m ls[i] ∧ (∀ b off, a = some ⟨b, off, none⟩ → 0 < m → S b ∧ some b ≠ g)

section

variable {w w' : World} {S : Nat → Prop} {g g' : Option Nat} {xs ys : List Value} {ls ms : List (List UInt8)}

theorem Els.nil : Els w S g [] [] := ⟨rfl, fun i h => by simp at h⟩
theorem Els.grown (h : Els w S g xs ls) (hg : w.grownBy w' g) : Els w' S g xs ls := by
  refine ⟨h.1, fun i hi => ?_⟩
  obtain ⟨a, m, c, h1, h2, h3⟩ := h.2 i hi
  exact ⟨a, m, c, h1, h2.moved hg.size fun b off ha hm hb => hg.block b hb (fun e => (h3 b off ha hm).2 e), h3⟩
theorem Els.below (h : Els w S g xs ls) (hb : Below w.heap.size w w') : Els w' S g xs ls := by
  refine ⟨h.1, fun i hi => ?_⟩
  obtain ⟨a, m, c, h1, h2, h3⟩ := h.2 i hi
  exact ⟨a, m, c, h1, (h2.below hb (Nat.le_refl _)).more hb.size, h3⟩
theorem Els.to {k : Nat} (h : Els w S g xs ls) (hk : g = some k ∨ w.heap.size ≤ k) : Els w S (some k) xs ls := by
  rcases hk with rfl | hk
  · exact h
  · refine ⟨h.1, fun i hi => ?_⟩
    obtain ⟨a, m, c, h1, h2, h3⟩ := h.2 i hi
    refine ⟨a, m, c, h1, h2, fun b off ha hm => ⟨(h3 b off ha hm).1, ?_⟩⟩
    obtain ⟨b', off', e, hlt⟩ := h2.addr hm
    rw [ha] at e; injection e with e; injection e with e; subst e
    intro e2; injection e2 with e2; omega
theorem Els.grown_to {k : Nat} (h : Els w S g xs ls) (hg : w.grownBy w' g) (hk : g = some k ∨ w.heap.size ≤ k) : Els w' S (some k) xs ls := by
  refine ⟨h.1, fun i hi => ?_⟩
  obtain ⟨a, m, c, h1, h2, h3⟩ := h.2 i hi
  refine ⟨a, m, c, h1, h2.moved hg.size fun b off ha hm hb => hg.block b hb (fun e => (h3 b off ha hm).2 e), fun b off ha hm => ⟨(h3 b off ha hm).1, ?_⟩⟩
  obtain ⟨b', off', e, hlt⟩ := h2.addr hm
  rw [ha] at e; injection e with e; injection e with e; subst e
  rcases hk with rfl | hk
  · exact (h3 b off ha hm).2
  · intro e2; injection e2 with e2; omega
theorem Els.app (h : Els w S g xs ls) (h' : Els w S g ys ms) : Els w S g (xs ++ ys) (ls ++ ms) := by
  refine ⟨by simp [h.1, h'.1], fun i hi => ?_⟩
  by_cases e : i < ls.length
  · obtain ⟨a, m, c, h1, h2, h3⟩ := h.2 i e
    refine ⟨a, m, c, ?_, ?_, h3⟩
    · rw [List.getElem?_append_left (by rw [h.1]; exact e)]; exact h1
    · rw [List.getElem_append_left e]; exact h2
  · have hi' : i - ls.length < ms.length := by simp at hi; omega
    obtain ⟨a, m, c, h1, h2, h3⟩ := h'.2 _ hi'
    refine ⟨a, m, c, ?_, ?_, h3⟩
    · rw [List.getElem?_append_right (by rw [h.1]; omega), h.1]; exact h1
    · rw [List.getElem_append_right (by omega)]; exact h2
theorem Els.one {a : Option Addr} {m c : Nat} {l : List UInt8} (h : BAt w w.heap.size a m l) (h3 : ∀ b off, a = some ⟨b, off, none⟩ → 0 < m → S b ∧ some b ≠ g) : Els w S g [.slice a m c] [l] := by
  refine ⟨rfl, fun i hi => ?_⟩
  have h0 : i = 0 := by simp at hi; exact hi
  subst h0
  exact ⟨a, m, c, rfl, h, h3⟩
theorem Els.weak {T : Nat → Prop} (h : Els w S g xs ls) (hT : ∀ b, b < w.heap.size → S b → some b ≠ g → T b ∧ some b ≠ g') : Els w T g' xs ls := by
  refine ⟨h.1, fun i hi => ?_⟩
  obtain ⟨a, m, c, h1, h2, h3⟩ := h.2 i hi
  refine ⟨a, m, c, h1, h2, fun b off ha hm => ?_⟩
  obtain ⟨b', off', e, hlt⟩ := h2.addr hm
  rw [ha] at e; injection e with e; injection e with e; subst e
  exact hT b hlt (h3 b off ha hm).1 (h3 b off ha hm).2
theorem Els.cells (h : Els w S g xs ls) : ∀ u ∈ xs, u.oneCell' = true := by
  intro u hu
  obtain ⟨i, hi, rfl⟩ := List.getElem_of_mem hu
  obtain ⟨a, m, c, h1, _, _⟩ := h.2 i (by rw [← h.1]; exact hi)
  rw [List.getElem?_eq_getElem hi] at h1
  injection h1 with h1
  rw [h1]; rfl
end

/-- A row of the call's own that reads as the lists ls; what it names lies in blocks of S. -/
def OwnRows (w0 w : World) (S : Nat → Prop) (v : Value) (n : Nat) (ls : List (List UInt8)) : Prop :=
  Below w0.heap.size w0 w ∧ ∃ xs, w.ownsRow w0.heap.size 37 1 v n xs ∧ Els w S v.ownBlock xs ls
section

variable {w0 w w' : World} {S : Nat → Prop} {v : Value} {n : Nat} {ls : List (List UInt8)}

theorem OwnRows.nil (w : World) : OwnRows w w S (.slice none 0 0) 0 [] := ⟨Below.refl _ _, [], World.ownsRow_nil _ _ _ _, Els.nil⟩
theorem OwnRows.below (h : OwnRows w0 w S v n ls) (hb : Below w.heap.size w w') : OwnRows w0 w' S v n ls := by
  obtain ⟨hB, xs, ho, he⟩ := h
  exact ⟨hB.trans (hb.mono hB.size), xs, own_below ho hb, he.below hb⟩
theorem OwnRows.len (h : OwnRows w0 w S v n ls) : ls.length = n := by
  obtain ⟨hB, xs, ho, he⟩ := h
  rw [← he.1, ho.1, Nat.mul_one]
theorem OwnRows.cast {ms : List (List UInt8)} (h : OwnRows w0 w S v n ls) (e : ls = ms) : OwnRows w0 w S v n ms := e ▸ h

/-- append of a list's slice onto such a row. -/
theorem OwnRows.push {w1 : World} {g cap m c : Nat} {a : Option Addr} {l : List UInt8} {xs : List Value} {o : Obj} (hB : Below w0.heap.size w0 w) (he : Els w S v.ownBlock xs ls) (hv : ∀ k, v.ownBlock = some k → w0.heap.size ≤ k)
    (hl : BAt w w.heap.size a m l) (hS : ∀ b off, a = some ⟨b, off, none⟩ → 0 < m → S b ∧ some b ≠ v.ownBlock)
    (ho : w1.ownsRow w0.heap.size 37 1 (.slice (some ⟨g, 0, none⟩) (n + 1) cap) (n + 1) (xs ++ [.slice a m c])) (hg : (w.alloc o).grownBy w1 v.ownBlock) (hat : v.ownBlock = some g ∨ g = w.heap.size + 1) :
    OwnRows w0 w1 S (.slice (some ⟨g, 0, none⟩) (n + 1) cap) (n + 1) (ls ++ [l]) := by
  have hb1 : Below w.heap.size w (w.alloc o) := (Below.refl _ _).alloc (Nat.le_refl _) o
  have e1 : Els (w.alloc o) S v.ownBlock (xs ++ [.slice a m c]) (ls ++ [l]) := (he.app (Els.one hl hS)).below hb1
  have hk : v.ownBlock = some g ∨ (w.alloc o).heap.size ≤ g := by
    rcases hat with h | h
    · exact .inl h
    · exact .inr (by simp; omega)
  exact ⟨(hB.alloc hB.size o).grown hg (by simp; have := hB.size; omega) hv, _, ho, e1.grown_to hg hk⟩
end

/-- A slice of slices that reads as the lists ls. -/
def RowsAt (w : World) (a : Option Addr) (n : Nat) (ls : List (List UInt8)) : Prop :=
  ls.length = n ∧ ∀ i (h : i < ls.length), ∃ b off a' m c, a = some ⟨b, off, none⟩ ∧ w.cell? ⟨b, off + i, none⟩ = some (.slice a' m c) ∧ BAt w w.heap.size a' m ls[i] ∧ m ≤ maxLen
section

variable {w0 w : World} {S : Nat → Prop} {a : Option Addr} {n c : Nat} {ls : List (List UInt8)}

theorem OwnRows.rows (h : OwnRows w0 w S (.slice a n c) n ls) (hm : ∀ l ∈ ls, l.length ≤ maxLen) : RowsAt w a n ls := by
  refine ⟨h.len, fun i hi => ?_⟩
  obtain ⟨hB, xs, ho, he⟩ := h
  obtain ⟨a', m, c', h1, h2, _⟩ := he.2 i hi
  have hn : 0 < n := by have := ho.1; have := he.1; omega
  obtain ⟨g, cap, hv, _, _⟩ := ho.form hn
  have hA : a = some ⟨g, 0, none⟩ := by injection hv
  subst hA
  have := ho.cells (g := g) rfl i _ h1
  rw [add_plain] at this
  exact ⟨g, 0, a', m, c', rfl, this, h2, by rw [← h2.len]; exact hm _ (List.getElem_mem hi)⟩
end

theorem quiet_reads {P : Program} {f : FuncId} {args : Array Value} {w : World} {n : Nat} {v : Value}
    (h : Calls P f args (w.drewN n) (Reads1 (w.drewN n) v)) : Calls P f args (w.drewN n) fun e w'' => e = .returned v ∧ ∃ m, w'' = w.drewN m :=
  h.mono fun _ _ ⟨he, k, hk⟩ => ⟨he, n + k, by rw [hk, World.drewN_drewN]⟩

/-- A slice of m one-cell elements that holds the values news. -/
def CellsAt (w : World) (a : Option Addr) (m : Nat) (news : List Value) : Prop :=
  news.length = m ∧ (m = 0 ∨ ∃ b off, a = some ⟨b, off, none⟩ ∧ ∀ j u, news[j]? = some u → w.cell? ⟨b, off + j, none⟩ = some u)
theorem CellsAt.of_own {w : World} {B e n c : Nat} {a : Option Addr} {xs : List Value} (h : w.ownsRow B e 1 (.slice a n c) n xs) : CellsAt w a n xs := by
  refine ⟨by have := h.1; omega, ?_⟩
  rcases Nat.eq_zero_or_pos n with h0 | hn
  · exact .inl h0
  · obtain ⟨g, cap, hv, _, _⟩ := h.form hn
    have hA : a = some ⟨g, 0, none⟩ := by injection hv
    subst hA
    refine .inr ⟨g, 0, rfl, fun j u hu => ?_⟩
    have := h.cells (g := g) rfl j u hu
    rwa [add_plain] at this

section

variable {P : Program} (w : World)

theorem run_append_row (base : Nat) (t ty e : TypeId) (i : TypeInfo) (z : Value) (bytes : Nat) (ht : P.underlying t = some (.slice e)) (hi : P.info? e = some i) (hz : i.zero = some z)
    (hsize : i.size = 1) (hby : i.bytes = bytes) (hzs : z.cells.size = 1) (v : Value) (n : Nat) (xs : List Value) (hown : w.ownsRow base e 1 v n xs)
    (a : Option Addr) (m c : Nat) (news : List Value) (hr : CellsAt w a m news) (h1 : ∀ u ∈ news, u.oneCell' = true)
    (h63 : n + m ≤ maxLen) (hlen : (n + m) * bytes ≤ 140737488355328) (hbase : base ≤ w.heap.size) :
    ∃ v' w', (Builtin.append_ #[t, t] ty #[v, .slice a m c]).run P w = .ok v' w' ∧ w'.ownsRow base e 1 v' (n + m) (xs ++ news) ∧ w.grownBy w' v.ownBlock ∧ (v'.ownBlock = v.ownBlock ∨ v'.ownBlock = some w.heap.size) := by
  have hm := hr.1
  rcases a with _ | ad
  · have hm0 : m = 0 := by
      rcases hr with ⟨_, h | ⟨b, off, h, _⟩⟩
      · exact h
      · cases h
    subst hm0
    obtain rfl : news = [] := List.eq_nil_of_length_eq_zero hm
    refine ⟨v, w, ?_, by simpa using hown, World.grownBy.refl w _, .inl rfl⟩
    rcases hown.2 with ⟨rfl, h0⟩ | ⟨g, cap, cur, rfl, _, _, hnc, _⟩
    · simp [Builtin.append_, run_underlying ht, sizeOf, typeInfo, hi, Builtin.lenOf, Builtin.firstCells]
    · simp [Builtin.append_, run_underlying ht, sizeOf, typeInfo, hi, Builtin.lenOf, Builtin.firstCells, hnc, storeCells]
  · have hcells : ∀ j u, news[j]? = some u → w.cell? (ad.add j) = some u := by
      intro j u hu
      rcases hr with ⟨_, h | ⟨b, off, h, hc⟩⟩
      · rw [h] at hm
        rw [List.eq_nil_of_length_eq_zero hm] at hu; simp at hu
      · injection h with h; subst h
        rw [add_plain]; exact hc j u hu
    obtain ⟨v', w', hrun, h2, h3, _, h5⟩ := run_append_own_at (P := P) w base t ty e i z 1 bytes ht hi hz hsize hby hzs (by decide) v n xs hown ad m c news (by omega) hcells h1 h63 hlen hbase
    exact ⟨v', w', hrun, h2, h3, h5⟩
theorem wpList_append_row {ops : Array Oper} {rest : List Oper} {o : Oper} {act : Act} {Q : Exit → Act → World → Prop} (hgd : o.guard = none) (s x : Operand) (t : TypeId)
    (ho : o.op = .call { callee := .builtin .append, args := #[s, x], argTypes := #[t, t] })
    (base : Nat) (e : TypeId) (i : TypeInfo) (z : Value) (bytes : Nat) (ht : P.underlying t = some (.slice e)) (hi : P.info? e = some i) (hz : i.zero = some z)
    (hsize : i.size = 1) (hby : i.bytes = bytes) (hzs : z.cells.size = 1) (v : Value) (n : Nat) (xs : List Value) (hs : act.eval s = v) (hown : w.ownsRow base e 1 v n xs)
    (a : Option Addr) (m c : Nat) (news : List Value) (hx : act.eval x = .slice a m c) (hr : CellsAt w a m news) (h1 : ∀ u ∈ news, u.oneCell' = true)
    (h63 : n + m ≤ maxLen) (hlen : (n + m) * bytes ≤ 140737488355328) (hbase : base ≤ w.heap.size)
    (h : ∀ v' w', w'.ownsRow base e 1 v' (n + m) (xs ++ news) → w.grownBy w' v.ownBlock → (v'.ownBlock = v.ownBlock ∨ v'.ownBlock = some w.heap.size) → wpList P ops Q rest (act.put o.dst v') w') : wpList P ops Q (o :: rest) act w := by
  refine wpList_plain hgd fun K hK => ?_
  obtain ⟨v', w', hrun, h2, h3, h4⟩ := run_append_row (P := P) w base t o.type e i z bytes ht hi hz hsize hby hzs v n xs hown a m c news hr h1 h63 hlen hbase
  unfold Oper.wp execOp
  simp only [ho, resolve, invoke, builtin, Sem.run_bind, Sem.run_pure, Result.andThen_ok, List.map_toArray, List.map_cons, List.map_nil, hs, hx, hrun]
  exact hK _ _ (h v' w' h2 h3 h4)
end

/-- A row that another row's growing leaves alone. -/
theorem own_grown {w w' : World} {B e n : Nat} {v : Value} {xs : List Value} {g : Option Nat} (h : w.ownsRow B e 1 v n xs) (hg : w.grownBy w' g) (hv : ∀ k, v.ownBlock = some k → g ≠ some k) : w'.ownsRow B e 1 v n xs := by
  refine ⟨h.1, ?_⟩
  rcases h.2 with ⟨rfl, rfl⟩ | ⟨b, cap, cur, rfl, h1, hh, hr⟩
  · exact .inl ⟨rfl, rfl⟩
  · refine .inr ⟨b, cap, cur, rfl, h1, ?_, hr⟩
    rw [hg.block b (lt_of_heap hh) (fun e => hv b rfl e.symm)]; exact hh
theorem rows_of {w : World} {B n c : Nat} {a : Option Addr} {S : Nat → Prop} {g : Option Nat} {xs : List Value} {ls : List (List UInt8)} (ho : w.ownsRow B 37 1 (.slice a n c) n xs) (he : Els w S g xs ls) (hm : ∀ l ∈ ls, l.length ≤ maxLen) : RowsAt w a n ls := by
  refine ⟨by rw [← he.1, ho.1, Nat.mul_one], fun i hi => ?_⟩
  obtain ⟨a', m, c', h1, h2, _⟩ := he.2 i hi
  have hn : 0 < n := by have := ho.1; have := he.1; omega
  obtain ⟨g, cap, hv, _, _⟩ := ho.form hn
  have hA : a = some ⟨g, 0, none⟩ := by injection hv
  subst hA
  have := ho.cells (g := g) rfl i _ h1
  rw [add_plain] at this
  exact ⟨g, 0, a', m, c', rfl, this, h2, by rw [← h2.len]; exact hm _ (List.getElem_mem hi)⟩
theorem RowsAt.below {w w' : World} {a : Option Addr} {n : Nat} {ls : List (List UInt8)} (h : RowsAt w a n ls) (hb : Below w.heap.size w w') : RowsAt w' a n ls := by
  refine ⟨h.1, fun i hi => ?_⟩
  obtain ⟨b, off, a', m, c, ha, hc, hr, hm⟩ := h.2 i hi
  exact ⟨b, off, a', m, c, ha, (hb.cell (block_lt hc)).trans hc, (hr.below hb (Nat.le_refl _)).more hb.size, hm⟩
theorem RowsAt.take {w : World} {a : Option Addr} {n k : Nat} {ls : List (List UInt8)} (h : RowsAt w a n ls) (hk : k ≤ n) : RowsAt w a k (ls.take k) := by
  refine ⟨by have := h.1; simp; omega, fun i hi => ?_⟩
  have hi' : i < ls.length := by simp at hi; omega
  obtain ⟨b, off, a', m, c, ha, hc, hr, hm⟩ := h.2 i hi'
  exact ⟨b, off, a', m, c, ha, hc, by simpa using hr, hm⟩

/-- One such row behind another. -/
theorem els_cat {w w' : World} {S : Nat → Prop} {v v' : Value} {xs ys : List Value} {ls ms : List (List UInt8)} (hx : Els w S v.ownBlock xs ls) (hy : Els w S v.ownBlock ys ms) (hg : w.grownBy w' v.ownBlock)
    (hat : v'.ownBlock = v.ownBlock ∨ v'.ownBlock = some w.heap.size) : Els w' S v'.ownBlock (xs ++ ys) (ls ++ ms) := by
  rcases hat with h | h
  · rw [h]; exact (hx.app hy).grown hg
  · rw [h]; exact (hx.app hy).grown_to hg (.inr (Nat.le_refl _))
theorem CellsAt.one (w : World) (u : Value) (t : TypeId) : CellsAt (w.alloc (.cells #[u] t)) (some ⟨w.heap.size, 0, none⟩) 1 [u] := by
  refine ⟨rfl, .inr ⟨w.heap.size, 0, rfl, fun j x hx => ?_⟩⟩
  have h := World.news_of_block (heap_alloc_new w (.cells #[u] t)) j x hx
  rwa [add_plain] at h
end Go.Proofs.YtcgfhjkdgpgheaaDoor

/- CodeRefReader -/
namespace Go.Proofs.YtcgfhjkdgpgheaaDoor

open Go.RowKit
theorem ref_cells {w : World} {g : Nat} {x y z : Value} {t : TypeId} (h : w.heap[g]? = some (.cells #[x, y, z] t (0, 0))) :
    w.cell? ⟨g, 0, none⟩ = some x ∧ w.cell? ⟨g, 1, none⟩ = some y ∧ w.cell? ⟨g, 2, none⟩ = some z ∧ w.frozen? ⟨g, 1, none⟩ = false ∧ w.frozen? ⟨g, 2, none⟩ = false := by
  refine ⟨by rw [cell_of_row _ _ _ _ _ _ h]; rfl, by rw [cell_of_row _ _ _ _ _ _ h]; rfl, by rw [cell_of_row _ _ _ _ _ _ h]; rfl, ?_, ?_⟩ <;> simp [World.frozen?, h]
theorem only_drewN (q : Nat) {g : Nat} {a w : World} (h : Only g a w) : Only g a (w.drewN q) := ⟨h.os, h.tape, h.output, h.size, h.block⟩
theorem only_set_drewN (q g i : Nat) (w : World) (u : Value) : Only g w ((w.drewN q).setCell ⟨g, i, none⟩ u) := (only_drewN q (Only.refl g w)).trans (only_set _ g i u)

end Go.Proofs.YtcgfhjkdgpgheaaDoor

/- CodeMore -/
namespace Go.Proofs.YtcgfhjkdgpgheaaDoor

open Go.RowKit

theorem RdAt.keep {w w' : World} {g : Nat} {l : List UInt8} {ok : Bool} (h : RdAt w g l ok) (hk : ∀ b, b ≤ g → w'.heap[b]? = w.heap[b]?) : RdAt w' g l ok := by
  obtain ⟨a, n, c, hh, h1, h2, hl, hf⟩ := h
  exact ⟨a, n, c, (hk g (Nat.le_refl _)).trans hh, h1, h2, hl.keep fun p hp => World.cell?_of_block (hk _ (by omega)), hf⟩
theorem RdAt.lt {w : World} {g : Nat} {l : List UInt8} {ok : Bool} (h : RdAt w g l ok) : g < w.heap.size := by
  obtain ⟨a, n, c, hh, _⟩ := h; exact lt_of_heap hh
theorem RdAt.below {w w' : World} {g : Nat} {l : List UInt8} {ok : Bool} (h : RdAt w g l ok) (hb : Below w.heap.size w w') : RdAt w' g l ok := by
  obtain ⟨a, n, c, hh, h1, h2, hl, hf⟩ := h
  exact ⟨a, n, c, (hb.block g (lt_of_heap hh)).trans hh, h1, h2, hl.keep fun p hp => hb.cell (by have := lt_of_heap hh; omega), hf⟩
theorem RdAt.far {w w' : World} {g G : Nat} {l : List UInt8} {ok : Bool} (h : RdAt w g l ok) (ho : Only G w w') (hg : g < G) : RdAt w' g l ok := by
  obtain ⟨a, n, c, hh, h1, h2, hl, hf⟩ := h
  refine ⟨a, n, c, (ho.block g (lt_of_heap hh) (fun e => by injection e with e; omega)).trans hh, h1, h2, hl.moved (Nat.le_refl _) (fun b off _ _ hb => ho.block b (by have := lt_of_heap hh; omega) (fun e => by injection e with e; omega)), hf⟩
/-- A cell that holds a number is none of a reader's. -/
theorem RdAt.not_int {W : World} {g : Nat} {l : List UInt8} {ok : Bool} (h : RdAt W g l ok) {p : Addr} {k : IntKind} {v : Int} (hp : W.cell? p = some (.int k v)) : p.block ≠ g := by
  rintro rfl
  obtain ⟨a, n, c, hh, _⟩ := h
  obtain ⟨b, off, fld⟩ := p
  cases fld with
  | some x =>
    simp only [World.cell?] at hp
    split at hp <;> simp at hp
  | none =>
    rw [cell_of_row _ _ _ _ _ _ hh] at hp
    match off, hp with
    | 0, hp => simp at hp
    | 1, hp => simp at hp
    | n + 2, hp => simp at hp
end Go.Proofs.YtcgfhjkdgpgheaaDoor

/- Box -/
namespace Go.Proofs.YtcgfhjkdgpgheaaDoor

open Go.RowKit

/-- A box of cells in block g. -/
def BoxC (w : World) (g : Nat) (cs : Array Value) (t : TypeId) : Prop := w.heap[g]? = some (.cells cs t (0, 0))
section

variable {w w' : World} {g B r : Nat} {cs : Array Value} {t : TypeId}

theorem BoxC.new (w : World) (cs : Array Value) (t : TypeId) : BoxC (w.alloc (.cells cs t)) w.heap.size cs t := heap_alloc_new _ _
theorem BoxC.lt (h : BoxC w g cs t) : g < w.heap.size := lt_of_heap h
theorem BoxC.below (h : BoxC w g cs t) (hb : Below w.heap.size w w') : BoxC w' g cs t := (hb.block g h.lt).trans h
theorem BoxC.under (h : BoxC w g cs t) (hb : Below B w w') (hg : g < B) : BoxC w' g cs t := (hb.block g hg).trans h
theorem BoxC.alloc (h : BoxC w g cs t) (o : Obj) : BoxC (w.alloc o) g cs t := (Below.heap_alloc _ _ _ h.lt).trans h
theorem BoxC.only (h : BoxC w g cs t) (ho : Only r w w') (hr : g ≠ r) : BoxC w' g cs t := (ho.block g h.lt (fun e => by injection e with e; exact hr e)).trans h
theorem BoxC.grown {row : Option Nat} (h : BoxC w g cs t) (ho : w.grownBy w' row) (hr : some g ≠ row) : BoxC w' g cs t := (ho.block g h.lt hr).trans h
theorem BoxC.drewN (h : BoxC w g cs t) (k : Nat) : BoxC (w.drewN k) g cs t := h
theorem BoxC.cell (h : BoxC w g cs t) (i : Nat) (u : Value) (hu : cs[i]? = some u) : w.cell? ⟨g, i, none⟩ = some u := by rw [cell_of_row _ _ _ _ _ _ h]; exact hu
theorem BoxC.frozen (h : BoxC w g cs t) (i : Nat) : w.frozen? ⟨g, i, none⟩ = false := by
  have h' : w.heap[g]? = some (.cells cs t (0, 0)) := h
  simp [World.frozen?, h']
theorem BoxC.set (h : BoxC w g cs t) (i : Nat) (u : Value) : BoxC (w.setCell ⟨g, i, none⟩ u) g (cs.setIfInBounds i u) t := set_row h i u
theorem BoxC.far (h : BoxC w g cs t) (i : Nat) (u : Value) (hne : g ≠ r) : BoxC (w.setCell ⟨r, i, none⟩ u) g cs t := (Below.heap_setCell _ _ _ _ hne).trans h
theorem BoxC.two {x y : Value} (h : BoxC w g #[x, y] t) : w.cell? ⟨g, 0, none⟩ = some x ∧ w.cell? ⟨g, 1, none⟩ = some y := ⟨h.cell 0 x rfl, h.cell 1 y rfl⟩
end

/-- Boxes that lie there, and what was there before w stands. -/
def Boxs (w W : World) (l : List (Nat × Array Value × TypeId)) : Prop := Below w.heap.size w W ∧ ∀ b ∈ l, BoxC W b.1 b.2.1 b.2.2
section

variable {w W W' : World} {l : List (Nat × Array Value × TypeId)}

theorem Boxs.bel (h : Boxs w W l) : Below w.heap.size w W := h.1
theorem Boxs.below (h : Boxs w W l) (hb : Below W.heap.size W W') : Boxs w W' l := ⟨h.1.trans (hb.mono h.1.size), fun b hb' => (h.2 b hb').below hb⟩
theorem Boxs.drewN (h : Boxs w W l) (k : Nat) : Boxs w (W.drewN k) l := ⟨below_drewN k h.1, fun b hb => (h.2 b hb).drewN k⟩
theorem Boxs.drew (h : Boxs w W l) : Boxs w W.drew l := h.drewN 1
theorem Boxs.get (h : Boxs w W l) (i : Nat) (g : Nat) (cs : Array Value) (t : TypeId) (hi : l[i]? = some (g, cs, t)) : BoxC W g cs t := h.2 _ (List.mem_of_getElem? hi)
theorem Boxs.cons (h : Boxs w W l) {g : Nat} {cs : Array Value} {t : TypeId} (hb : BoxC W g cs t) : Boxs w W ((g, cs, t) :: l) := ⟨h.1, fun b hb' => by
  rcases List.mem_cons.1 hb' with rfl | h'
  · exact hb
  · exact h.2 b h'⟩
/-- A box is made beside them. -/
theorem Boxs.more (h : Boxs w W l) (cs : Array Value) (t : TypeId) : Boxs w (W.alloc (.cells cs t)) ((W.heap.size, cs, t) :: l) :=
  Boxs.cons (h.below ((Below.refl _ _).alloc (Nat.le_refl _) _)) (BoxC.new W cs t)
theorem Boxs.only {r : Nat} (h : Boxs w W l) (ho : Only r W W') (hr : w.heap.size ≤ r) (hl : ∀ b ∈ l, b.1 ≠ r) : Boxs w W' l :=
  ⟨Only.below h.1 ho hr h.1.size, fun b hb => (h.2 b hb).only ho (hl b hb)⟩
theorem Boxs.tail {b : Nat × Array Value × TypeId} (h : Boxs w W (b :: l)) : Boxs w W l := ⟨h.1, fun c hc => h.2 c (List.mem_cons_of_mem _ hc)⟩
/-- A box of two cells is filled anew. -/
theorem Boxs.set2 {g : Nat} {x y x' y' : Value} {t : TypeId} (h : Boxs w W ((g, #[x, y], t) :: l)) (hg : w.heap.size ≤ g) (hl : ∀ b ∈ l, b.1 ≠ g) : Boxs w ((W.setCell ⟨g, 0, none⟩ x').setCell ⟨g, 1, none⟩ y') ((g, #[x', y'], t) :: l) := by
  refine ⟨(h.1.setCell hg _).setCell hg _, fun b hb => ?_⟩
  rcases List.mem_cons.1 hb with rfl | hb
  · exact ((h.get 0 _ _ _ rfl).set 0 x').set 1 y'
  · exact ((h.2 b (List.mem_cons_of_mem _ hb)).far 0 x' (hl b hb)).far 1 y' (hl b hb)
theorem Boxs.start (w : World) : Boxs w w [] := ⟨Below.refl _ _, fun b hb => by cases hb⟩
end

theorem two_box (w : World) (cs ds : Array Value) (t u : TypeId) : Below w.heap.size w ((w.alloc (.cells cs t)).alloc (.cells ds u)) := ((Below.refl _ _).alloc (Nat.le_refl _) _).alloc (by simp) _
theorem one_box (w : World) (cs : Array Value) (t : TypeId) : Below w.heap.size w (w.alloc (.cells cs t)) := (Below.refl _ _).alloc (Nat.le_refl _) _

/-- A slice of n elements of k cells each holds the cells xs, in a block below B. -/
def RowAt (w : World) (B : Nat) (a : Option Addr) (n k : Nat) (xs : List Value) : Prop :=
  xs.length = n * k ∧ (n = 0 ∨ ∃ b off, a = some ⟨b, off, none⟩ ∧ b < B ∧ ∀ j u, xs[j]? = some u → w.cell? ⟨b, off + j, none⟩ = some u)
section

variable {w w' : World} {B B' n k : Nat} {a : Option Addr} {xs : List Value}

theorem RowAt.nil : RowAt w B a 0 k [] := ⟨by simp, .inl rfl⟩
theorem RowAt.keep (h : RowAt w B a n k xs) (hk : ∀ b, b < B → w'.heap[b]? = w.heap[b]?) : RowAt w' B a n k xs := by
  rcases h with ⟨hn, h | ⟨b, off, ha, hb, hc⟩⟩
  · exact ⟨hn, .inl h⟩
  · exact ⟨hn, .inr ⟨b, off, ha, hb, fun j u hu => (World.cell?_of_block (hk b hb)).trans (hc j u hu)⟩⟩
theorem RowAt.more (h : RowAt w B a n k xs) (hB : B ≤ B') : RowAt w B' a n k xs := by
  rcases h with ⟨hn, h | ⟨b, off, ha, hb, hc⟩⟩
  · exact ⟨hn, .inl h⟩
  · exact ⟨hn, .inr ⟨b, off, ha, by omega, hc⟩⟩
theorem RowAt.below {C : Nat} (h : RowAt w B a n k xs) (hb : Below C w w') (hC : B ≤ C) : RowAt w' B a n k xs := h.keep fun b hb' => hb.block b (by omega)
theorem RowAt.drewN (h : RowAt w B a n k xs) (q : Nat) : RowAt (w.drewN q) B a n k xs := h
theorem RowAt.addr (h : RowAt w B a n k xs) (hn : 0 < n) : ∃ b off, a = some ⟨b, off, none⟩ ∧ b < B ∧ ∀ j u, xs[j]? = some u → w.cell? ⟨b, off + j, none⟩ = some u := by
  rcases h with ⟨_, h | h⟩
  · omega
  · exact h
theorem RowAt.of_own {base : Nat} {e : TypeId} {c : Nat} (h : w.ownsRow base e k (.slice a n c) n xs) : RowAt w w.heap.size a n k xs := by
  refine ⟨h.1, ?_⟩
  rcases h.2 with ⟨_, h0⟩ | ⟨g, cap, cur, hv, _, hh, _⟩
  · exact .inl h0
  · injection hv with hv1
    subst hv1
    refine .inr ⟨g, 0, rfl, lt_of_heap hh, fun j u hu => ?_⟩
    have := h.cells (g := g) rfl j u hu
    rwa [add_plain] at this
/-- A block just made reads as one element. -/
theorem RowAt.one (w : World) (cs : Array Value) (t : TypeId) : RowAt (w.alloc (.cells cs t)) (w.heap.size + 1) (some ⟨w.heap.size, 0, none⟩) 1 cs.size cs.toList := by
  refine ⟨by simp, .inr ⟨w.heap.size, 0, rfl, by omega, fun j u hu => ?_⟩⟩
  rw [cell_of_row _ w.heap.size _ _ t (0, 0) (heap_alloc_new w _), Nat.zero_add]
  simpa using hu
/-- A block just made reads as n elements. -/
theorem RowAt.made (w : World) (cs : Array Value) (t : TypeId) (n k : Nat) (h : cs.size = n * k) : RowAt (w.alloc (.cells cs t)) (w.alloc (.cells cs t)).heap.size (some ⟨w.heap.size, 0, none⟩) n k cs.toList := by
  refine ⟨by simpa using h, .inr ⟨w.heap.size, 0, rfl, by simp, fun j u hu => ?_⟩⟩
  rw [cell_of_row _ w.heap.size _ _ t (0, 0) (heap_alloc_new w _), Nat.zero_add]
  simpa using hu
end

section

variable {P : Program} (w : World)

theorem run_append_rowk (base : Nat) (t ty e : TypeId) (i : TypeInfo) (z : Value) (k bytes : Nat) (ht : P.underlying t = some (.slice e)) (hi : P.info? e = some i) (hz : i.zero = some z)
    (hsize : i.size = k) (hby : i.bytes = bytes) (hzs : z.cells.size = k) (hk : 0 < k) (v : Value) (n : Nat) (xs : List Value) (hown : w.ownsRow base e k v n xs)
    (B : Nat) (a : Option Addr) (m c : Nat) (news : List Value) (hr : RowAt w B a m k news) (h1 : ∀ u ∈ news, u.oneCell' = true)
    (h63 : n + m ≤ maxLen) (hlen : (n + m) * bytes ≤ 140737488355328) (hbase : base ≤ w.heap.size) :
    ∃ v' w', (Builtin.append_ #[t, t] ty #[v, .slice a m c]).run P w = .ok v' w' ∧ w'.ownsRow base e k v' (n + m) (xs ++ news) ∧ w.grownBy w' v.ownBlock ∧ (v'.ownBlock = v.ownBlock ∨ v'.ownBlock = some w.heap.size) := by
  have hm := hr.1
  rcases a with _ | ad
  · have hm0 : m = 0 := by
      rcases hr with ⟨_, h | ⟨b, off, h, _⟩⟩
      · exact h
      · cases h
    subst hm0
    rw [Nat.zero_mul] at hm
    obtain rfl : news = [] := List.eq_nil_of_length_eq_zero hm
    refine ⟨v, w, ?_, by simpa using hown, World.grownBy.refl w _, .inl rfl⟩
    rcases hown.2 with ⟨rfl, h0⟩ | ⟨g, cap, cur, rfl, _, _, hnc, _⟩
    · simp [Builtin.append_, run_underlying ht, sizeOf, typeInfo, hi, Builtin.lenOf, Builtin.firstCells]
    · simp [Builtin.append_, run_underlying ht, sizeOf, typeInfo, hi, Builtin.lenOf, Builtin.firstCells, hnc, storeCells]
  · have hcells : ∀ j u, news[j]? = some u → w.cell? (ad.add j) = some u := by
      intro j u hu
      rcases hr with ⟨_, h | ⟨b, off, h, _, hc⟩⟩
      · rw [h, Nat.zero_mul] at hm
        rw [List.eq_nil_of_length_eq_zero hm] at hu; simp at hu
      · injection h with h; subst h
        rw [add_plain]; exact hc j u hu
    obtain ⟨v', w', hrun, h2, h3, _, h5⟩ := run_append_own_at (P := P) w base t ty e i z k bytes ht hi hz hsize hby hzs hk v n xs hown ad m c news hm hcells h1 h63 hlen hbase
    exact ⟨v', w', hrun, h2, h3, h5⟩
theorem wpList_append_rowk {ops : Array Oper} {rest : List Oper} {o : Oper} {act : Act} {Q : Exit → Act → World → Prop} (hgd : o.guard = none) (s x : Operand) (t : TypeId)
    (ho : o.op = .call { callee := .builtin .append, args := #[s, x], argTypes := #[t, t] })
    (base : Nat) (e : TypeId) (i : TypeInfo) (z : Value) (k bytes : Nat) (ht : P.underlying t = some (.slice e)) (hi : P.info? e = some i) (hz : i.zero = some z)
    (hsize : i.size = k) (hby : i.bytes = bytes) (hzs : z.cells.size = k) (hk : 0 < k) (v : Value) (n : Nat) (xs : List Value) (hs : act.eval s = v) (hown : w.ownsRow base e k v n xs)
    (B : Nat) (a : Option Addr) (m c : Nat) (news : List Value) (hx : act.eval x = .slice a m c) (hr : RowAt w B a m k news) (h1 : ∀ u ∈ news, u.oneCell' = true)
    (h63 : n + m ≤ maxLen) (hlen : (n + m) * bytes ≤ 140737488355328) (hbase : base ≤ w.heap.size)
    (h : ∀ v' w', w'.ownsRow base e k v' (n + m) (xs ++ news) → w.grownBy w' v.ownBlock → (v'.ownBlock = v.ownBlock ∨ v'.ownBlock = some w.heap.size) → wpList P ops Q rest (act.put o.dst v') w') : wpList P ops Q (o :: rest) act w := by
  refine wpList_plain hgd fun K hK => ?_
  obtain ⟨v', w', hrun, h2, h3, h4⟩ := run_append_rowk (P := P) w base t o.type e i z k bytes ht hi hz hsize hby hzs hk v n xs hown B a m c news hr h1 h63 hlen hbase
  unfold Oper.wp execOp
  simp only [ho, resolve, invoke, builtin, Sem.run_bind, Sem.run_pure, Result.andThen_ok, List.map_toArray, List.map_cons, List.map_nil, hs, hx, hrun]
  exact hK _ _ (h v' w' h2 h3 h4)
end

/-- A row of k-cell elements that is the call's own, carried on. -/
theorem ownk_grown {w w' : World} {B e n k : Nat} {v : Value} {xs : List Value} {g : Option Nat} (h : w.ownsRow B e k v n xs) (hg : w.grownBy w' g) (hv : ∀ j, v.ownBlock = some j → g ≠ some j) : w'.ownsRow B e k v n xs := by
  refine ⟨h.1, ?_⟩
  rcases h.2 with ⟨rfl, rfl⟩ | ⟨b, cap, cur, rfl, h1, hh, hr⟩
  · exact .inl ⟨rfl, rfl⟩
  · refine .inr ⟨b, cap, cur, rfl, h1, ?_, hr⟩
    rw [hg.block b (lt_of_heap hh) (fun e => hv b rfl e.symm)]; exact hh
theorem ownk_below {w w' : World} {B e n k : Nat} {v : Value} {xs : List Value} (h : w.ownsRow B e k v n xs) (hb : Below w.heap.size w w') : w'.ownsRow B e k v n xs :=
  ownk_grown (g := none) h ⟨hb.os, hb.tape, hb.output, hb.size, fun b hb' _ => hb.block b hb'⟩ (fun _ _ h => by cases h)
theorem ownk_form {w : World} {base k : Nat} {e : TypeId} {v : Value} {n : Nat} {xs : List Value} (h : w.ownsRow base e k v n xs) :
    ∃ a c, v = .slice a n c ∧ n ≤ c ∧ c ≤ maxLen := by
  rcases h.2 with ⟨rfl, rfl⟩ | ⟨g, cap, cur, rfl, hb, hh, hnc, hcm, _⟩
  · exact ⟨none, 0, rfl, Nat.le_refl _, by unfold maxLen; omega⟩
  · exact ⟨_, cap, rfl, hnc, hcm⟩

/-- The cells of a list of structs, k cells each: cell j of element i. -/
theorem flat_get {α : Type} (f : α → List Value) (k : Nat) (hf : ∀ x, (f x).length = k) (l : List α) (i j : Nat) (hi : i < l.length) (hj : j < k) : (l.flatMap f)[i * k + j]? = (f l[i])[j]? := by
  induction l generalizing i with
  | nil => simp at hi
  | cons x r ih =>
    rw [List.flatMap_cons]
    cases i with
    | zero => rw [Nat.zero_mul, Nat.zero_add, List.getElem?_append_left (by rw [hf]; exact hj)]; rfl
    | succ i =>
      have hk : (i + 1) * k + j = k + (i * k + j) := by rw [Nat.succ_mul]; omega
      rw [hk, List.getElem?_append_right (by rw [hf]; omega), hf, Nat.add_sub_cancel_left]
      exact ih i (by simpa using hi)
theorem flat_len {α : Type} (f : α → List Value) (k : Nat) (hf : ∀ x, (f x).length = k) (l : List α) : (l.flatMap f).length = l.length * k := by
  induction l with
  | nil => simp
  | cons x r ih => rw [List.flatMap_cons, List.length_append, hf, ih, List.length_cons, Nat.succ_mul]; omega
end Go.Proofs.YtcgfhjkdgpgheaaDoor

/- TxnRows -/
namespace Go.Proofs.YtcgfhjkdgpgheaaDoor

open Go.RowKit

/-- A read in memory: key and version; a write: key and value. -/
abbrev RdM := ByteArray × Nat
structure WrM where
  key : ByteArray
  k : Int
  b : Nat
  t : ByteArray
def readC (x : RdM) : List Value := [.string x.1, .int .u64 ((x.2 : Nat) : Int)]
def writeC (x : WrM) : List Value := [.string x.key, .int .i64 x.k, .int .u64 ((x.b : Nat) : Int), .string x.t]
theorem readC_len (x : RdM) : (readC x).length = 2 := rfl
theorem writeC_len (x : WrM) : (writeC x).length = 4 := rfl
theorem readC_cells (x : RdM) : ∀ u ∈ readC x, u.oneCell' = true := by
  intro u hu
  simp only [readC, List.mem_cons, List.not_mem_nil, or_false] at hu
  rcases hu with rfl | rfl <;> rfl
theorem writeC_cells (x : WrM) : ∀ u ∈ writeC x, u.oneCell' = true := by
  intro u hu
  simp only [writeC, List.mem_cons, List.not_mem_nil, or_false] at hu
  rcases hu with rfl | rfl | rfl | rfl <;> rfl
theorem reads_cells (l : List RdM) : ∀ u ∈ l.flatMap readC, u.oneCell' = true := by
  intro u hu
  obtain ⟨x, _, hx⟩ := List.mem_flatMap.1 hu
  exact readC_cells x u hx
theorem writes_cells (l : List WrM) : ∀ u ∈ l.flatMap writeC, u.oneCell' = true := by
  intro u hu
  obtain ⟨x, _, hx⟩ := List.mem_flatMap.1 hu
  exact writeC_cells x u hx
/-- A slice of reads, of writes, reads as the list l. -/
def RdsAt (w : World) (B : Nat) (a : Option Addr) (n : Nat) (l : List RdM) : Prop := l.length = n ∧ RowAt w B a n 2 (l.flatMap readC)
def WrsAt (w : World) (B : Nat) (a : Option Addr) (n : Nat) (l : List WrM) : Prop := l.length = n ∧ RowAt w B a n 4 (l.flatMap writeC)
section

variable {w w' : World} {B B' n : Nat} {a : Option Addr}

theorem RdsAt.nil : RdsAt w B a 0 [] := ⟨rfl, RowAt.nil⟩
theorem WrsAt.nil : WrsAt w B a 0 [] := ⟨rfl, RowAt.nil⟩
theorem RdsAt.later {l : List RdM} (h : RdsAt w w.heap.size a n l) (hb : Below w.heap.size w w') : RdsAt w' w'.heap.size a n l := ⟨h.1, (h.2.below hb (Nat.le_refl _)).more hb.size⟩
theorem WrsAt.later {l : List WrM} (h : WrsAt w w.heap.size a n l) (hb : Below w.heap.size w w') : WrsAt w' w'.heap.size a n l := ⟨h.1, (h.2.below hb (Nat.le_refl _)).more hb.size⟩
theorem RdsAt.at_ {l : List RdM} (h : RdsAt w B a n l) {i : Nat} (hi : i < l.length) : ∃ b off, a = some ⟨b, off, none⟩ ∧ b < B ∧ w.cell? ⟨b, off + i * 2, none⟩ = some (.string l[i].1) ∧ w.cell? ⟨b, off + i * 2 + 1, none⟩ = some (.int .u64 ((l[i].2 : Nat) : Int)) := by
  obtain ⟨b, off, ha, hb, hc⟩ := h.2.addr (by have := h.1; omega)
  have h0 := hc (i * 2 + 0) _ (flat_get readC 2 readC_len l i 0 hi (by omega))
  have h1 := hc (i * 2 + 1) _ (flat_get readC 2 readC_len l i 1 hi (by omega))
  exact ⟨b, off, ha, hb, h0, by rw [Nat.add_assoc]; exact h1⟩
theorem WrsAt.at_ {l : List WrM} (h : WrsAt w B a n l) {i : Nat} (hi : i < l.length) : ∃ b off, a = some ⟨b, off, none⟩ ∧ b < B ∧ w.cell? ⟨b, off + i * 4, none⟩ = some (.string l[i].key) ∧ w.cell? ⟨b, off + i * 4 + 1, none⟩ = some (.int .i64 l[i].k) ∧ w.cell? ⟨b, off + i * 4 + 2, none⟩ = some (.int .u64 ((l[i].b : Nat) : Int)) ∧ w.cell? ⟨b, off + i * 4 + 3, none⟩ = some (.string l[i].t) := by
  obtain ⟨b, off, ha, hb, hc⟩ := h.2.addr (by have := h.1; omega)
  have h0 := hc (i * 4 + 0) _ (flat_get writeC 4 writeC_len l i 0 hi (by omega))
  have h1 := hc (i * 4 + 1) _ (flat_get writeC 4 writeC_len l i 1 hi (by omega))
  have h2 := hc (i * 4 + 2) _ (flat_get writeC 4 writeC_len l i 2 hi (by omega))
  have h3 := hc (i * 4 + 3) _ (flat_get writeC 4 writeC_len l i 3 hi (by omega))
  exact ⟨b, off, ha, hb, h0, by rw [Nat.add_assoc]; exact h1, by rw [Nat.add_assoc]; exact h2, by rw [Nat.add_assoc]; exact h3⟩
end

end Go.Proofs.YtcgfhjkdgpgheaaDoor

/- Read -/
namespace Go.Proofs.YtcgfhjkdgpgheaaDoor

open Go.RowKit

abbrev St := Option (List UInt8)
section

variable {α β : Type} {p : Prs α} {f : α → Prs β} {st st1 st2 st' : St} {x : α} {y : β} {n k : Nat} {ys : List α}

/-- Either y is read, or it fails (and y is anything). -/
def Res (p : Prs α) (st : St) (y : α) (st' : St) : Prop := (∃ l r, st = some l ∧ p l = some (y, r) ∧ st' = some r) ∨ ((∀ l, st = some l → p l = none) ∧ st' = none)
theorem Res.bind (h1 : Res p st x st1) (h2 : Res (f x) st1 y st2) : Res (bindP p f) st y st2 := by
  rcases h1 with ⟨l, r, rfl, hp, rfl⟩ | ⟨hp, rfl⟩
  · rcases h2 with ⟨l', r', e, hf, rfl⟩ | ⟨hf, rfl⟩
    · injection e with e; subst e
      exact .inl ⟨l, r', rfl, by rw [bind_some hp]; exact hf, rfl⟩
    · exact .inr ⟨fun l' e => by injection e with e; subst e; rw [bind_some hp]; exact hf r rfl, rfl⟩
  · rcases h2 with ⟨l', r', e, _⟩ | ⟨_, rfl⟩
    · cases e
    · exact .inr ⟨fun l e => bind_none (hp l e), rfl⟩
theorem Res.pure (y : α) (st : St) : Res (pureP y) st y st := by
  cases st with
  | none => exact .inr ⟨(fun l e => by cases e), rfl⟩
  | some l => exact .inl ⟨l, l, rfl, rfl, rfl⟩
theorem Res.yes {l r : List UInt8} (h : p l = some (x, r)) : Res p (some l) x (some r) := .inl ⟨l, r, rfl, h, rfl⟩
theorem Res.no (x : α) (h : ∀ l, st = some l → p l = none) : Res p st x none := .inr ⟨h, rfl⟩
/-- p, if what is read is good. -/
def guardP (c : α → Bool) (p : Prs α) : Prs α := fun l => match p l with
  | some (x, r) => if c x = true then some (x, r) else none
  | none => none
theorem guard_yes {c : α → Bool} {l r : List UInt8} (h : p l = some (x, r)) (hc : c x = true) : guardP c p l = some (x, r) := by unfold guardP; rw [h]; simp [hc]
theorem guard_bad {c : α → Bool} {l r : List UInt8} (h : p l = some (x, r)) (hc : c x = false) : guardP c p l = none := by unfold guardP; rw [h]; simp [hc]
theorem guard_none {c : α → Bool} {l : List UInt8} (h : p l = none) : guardP c p l = none := by unfold guardP; rw [h]
theorem Res.guard_no {c : α → Bool} (h : Res p st x none) (z : α) : Res (guardP c p) st z none := by
  rcases h with ⟨l, r, _, _, e⟩ | ⟨h, _⟩
  · cases e
  · exact .no z fun l e => guard_none (h l e)
theorem Res.guard_bad {c : α → Bool} (h : Res p st x st') (hc : c x = false) (z : α) : Res (guardP c p) st z none := by
  rcases h with ⟨l, r, rfl, h, _⟩ | ⟨h, _⟩
  · exact .no z fun l' e => by injection e with e; subst e; exact Go.Proofs.YtcgfhjkdgpgheaaDoor.guard_bad h hc
  · exact .no z fun l e => guard_none (h l e)
theorem Res.guard_yes {c : α → Bool} (h : Res p st x st') (hc : c x = true) : Res (guardP c p) st x st' := by
  rcases h with ⟨l, r, rfl, h, rfl⟩ | ⟨h, rfl⟩
  · exact .yes (Go.Proofs.YtcgfhjkdgpgheaaDoor.guard_yes h hc)
  · exact .no x fun l e => guard_none (h l e)
theorem ext_guard {c : α → Bool} (hp : ExtP p) : ExtP (guardP c p) := by
  intro l x r s h
  unfold guardP at h
  split at h
  · rename_i y r' e
    split at h
    · rename_i hc
      injection h with h; injection h with h1 h2
      subst h1; subst h2
      exact Go.Proofs.YtcgfhjkdgpgheaaDoor.guard_yes (hp _ _ _ s e) hc
    · cases h
  · cases h
/-- What is read twice is the same. -/
theorem Res.same {x' : α} (h : Res p st x st1) (h' : Res p st x' st2) : st1 = st2 ∧ (st1 ≠ none → x = x') := by
  rcases h with ⟨l, r, rfl, h1, rfl⟩ | ⟨h1, rfl⟩
  · rcases h' with ⟨l', r', e, h2, rfl⟩ | ⟨h2, rfl⟩
    · injection e with e; subst e
      rw [h1] at h2
      injection h2 with h2; injection h2 with h3 h4
      exact ⟨by rw [h4], fun _ => h3⟩
    · have := h2 l rfl
      rw [h1] at this; cases this
  · rcases h' with ⟨l', r', rfl, h2, rfl⟩ | ⟨h2, rfl⟩
    · have := h1 l' rfl
      rw [h2] at this; cases this
    · exact ⟨rfl, fun e => absurd rfl e⟩

/-- A list: how many, one byte, then each. -/
def listP (p : Prs α) : Prs (List α) := bindP (numP 1) fun n => repP p n
/-- k of n were read, one after the other, or it has failed. -/
def RunZ (p : Prs α) (n : Nat) (st1 : St) (k : Nat) (ys : List α) (st : St) : Prop :=
  k ≤ n ∧ ys.length = k ∧ ((∃ l r, st1 = some l ∧ st = some r ∧ RunP p n l k ys r) ∨ (st = none ∧ ∀ l, st1 = some l → repP p n l = none))
theorem RunZ.start (p : Prs α) (n : Nat) (st1 : St) : RunZ p n st1 0 [] st1 := by
  refine ⟨Nat.zero_le _, rfl, ?_⟩
  cases st1 with
  | none => exact .inr ⟨rfl, fun l e => by cases e⟩
  | some l => exact .inl ⟨l, l, rfl, rfl, RunP.start p n l⟩
theorem RunZ.next (h : RunZ p n st1 k ys st) (hk : k < n) (hr : Res p st x st') : RunZ p n st1 (k + 1) (ys ++ [x]) st' := by
  obtain ⟨_, h2, h3⟩ := h
  refine ⟨hk, by simp [h2], ?_⟩
  rcases h3 with ⟨l, r, rfl, rfl, hR⟩ | ⟨rfl, hn⟩
  · rcases hr with ⟨l', r', e, hp, rfl⟩ | ⟨hp, rfl⟩
    · injection e with e; subst e
      exact .inl ⟨l, r', rfl, rfl, hR.next hk hp⟩
    · exact .inr ⟨rfl, fun l' e => by injection e with e; subst e; exact hR.fail hk (hp r rfl)⟩
  · rcases hr with ⟨l', r', e, _⟩ | ⟨_, rfl⟩
    · cases e
    · exact .inr ⟨rfl, hn⟩
theorem RunZ.done (h : RunZ p n st1 n ys st) : Res (repP p n) st1 ys st := by
  obtain ⟨_, _, h3⟩ := h
  rcases h3 with ⟨l, r, rfl, rfl, hR⟩ | ⟨rfl, hn⟩
  · exact .yes hR.done
  · exact .no ys hn
theorem RunZ.stop (h : RunZ p n st1 k ys none) (zs : List α) : Res (repP p n) st1 zs none := by
  obtain ⟨_, _, h3⟩ := h
  rcases h3 with ⟨l, r, _, e, _⟩ | ⟨_, hn⟩
  · cases e
  · exact .no zs hn
theorem RunZ.len (h : RunZ p n st1 k ys st) : ys.length = k := h.2.1
theorem num_lt {x : Nat} (h : Res (numP k) st x st') (h0 : st' = none → x = 0) (hk : 0 < 256 ^ k) : x < 256 ^ k := by
  rcases h with ⟨l, r, rfl, h, rfl⟩ | ⟨_, e⟩
  · unfold numP at h
    split at h
    · rename_i hl
      injection h with h; injection h with h _
      subst h
      have := numB_lt (l.take k)
      rw [List.length_take, Nat.min_eq_left hl] at this
      exact this
    · cases h
  · rw [h0 e]; exact hk
theorem text_le {x : List UInt8} {lim : Nat} (h : Res (textP lim) st x st') (h0 : st' = none → x = []) : x.length ≤ lim := by
  rcases h with ⟨l, r, rfl, h, rfl⟩ | ⟨_, e⟩
  · unfold textP at h
    split at h
    · rename_i hl
      injection h with h; injection h with h _
      subst h
      have := hl.2.1
      rw [List.length_take]; omega
    · cases h
  · rw [h0 e]; exact Nat.zero_le _
end

/-- The program's reader in block g, the document's: as a state. -/
def RS (g : Nat) (st : St) (W : World) : Prop := match st with
  | some l => RdAt W g l true
  | none => RdAt W g [] false
/-- What is said of a reader stands as long as the blocks up to its own stand. -/
class Keep (g : Nat) (rd : World → Prop) : Prop where
  keep : ∀ W W' : World, rd W → (∀ b, b ≤ g → W'.heap[b]? = W.heap[b]?) → rd W'
/-- The program's reader. -/
instance (g : Nat) (st : St) : Keep g (RS g st) := ⟨fun W W' h hk => by
  cases st with
  | none => exact RdAt.keep h hk
  | some l => exact RdAt.keep h hk⟩
theorem RS.lt {g : Nat} {st : St} {W : World} (h : RS g st W) : g < W.heap.size := by
  cases st with
  | none => exact RdAt.lt h
  | some l => exact RdAt.lt h
/-- Something is taken: it is answered as P tells, the reader goes on; z where it fails. -/
def Took1 {α : Type} (rd : St → World → Prop) (g : Nat) (P : α → Value) (p : Prs α) (z : α) (st : St) (W : World) (e : Ending) (w' : World) : Prop :=
  ∃ x st', e = .returned (P x) ∧ rd st' w' ∧ Only g W w' ∧ Res p st x st' ∧ (st' = none → x = z)
abbrev numV (x : Nat) : Value := .int .u64 ((x : Nat) : Int)
abbrev textV (x : List UInt8) : Value := .string ⟨x.toArray⟩
theorem takeS_any (g k : Nat) (st : St) (W : World) (h : RS g st W) (h8 : k ≤ 8) :
    Calls Tryd.prog 48 #[.pointer (some ⟨g, 0, none⟩), .int .i64 k] W (Took1 (RS g) g numV (numP k) 0 st W) := by
  cases st with
  | none => exact (take_no g [] false k W h (.inl rfl)).mono fun e w' ⟨h1, h2, h3⟩ => ⟨0, none, h1, h2, h3, .no _ (fun l e => by cases e), fun _ => rfl⟩
  | some l =>
    by_cases hk : k ≤ l.length
    · exact (take_yes g l k W h hk h8).mono fun e w' ⟨h1, h2, h3⟩ => ⟨_, some (l.drop k), h1, h2, h3, .yes (by unfold numP; rw [if_pos hk]), fun e => by cases e⟩
    · exact (take_no g l true k W h (.inr (.inr (.inr (by omega))))).mono fun e w' ⟨h1, h2, h3⟩ => ⟨0, none, h1, h2, h3, .no _ (fun l' e => by injection e with e; subst e; unfold numP; rw [if_neg hk]), fun _ => rfl⟩
theorem takeTextS_any (g m : Nat) (st : St) (W : World) (h : RS g st W) :
    Calls Tryd.prog 86 #[.pointer (some ⟨g, 0, none⟩), .int .i64 (m : Int)] W (Took1 (RS g) g textV (textP m) [] st W) := by
  cases st with
  | none => exact (takeText_no g [] false m W h (fun h => by cases h.1)).mono fun e w' ⟨h1, h2, h3⟩ => ⟨[], none, h1, h2, h3, .no _ (fun l e => by cases e), fun _ => rfl⟩
  | some l =>
    by_cases hk : textOk l m
    · exact (takeText_yes g l m W h hk).mono fun e w' ⟨h1, h2, h3⟩ => ⟨_, some _, h1, h2, h3, .yes (by unfold textP; rw [if_pos hk]), fun e => by cases e⟩
    · exact (takeText_no g l true m W h (fun h => hk h.2)).mono fun e w' ⟨h1, h2, h3⟩ => ⟨[], none, h1, h2, h3, .no _ (fun l' e => by injection e with e; subst e; unfold textP; rw [if_neg hk]), fun _ => rfl⟩
end Go.Proofs.YtcgfhjkdgpgheaaDoor
