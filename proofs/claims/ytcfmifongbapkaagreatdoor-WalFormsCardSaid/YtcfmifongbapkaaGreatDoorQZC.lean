
/- Words for a row of structs that a call makes beside its boxes, and for a call that answers such a row. No condition. Words for several rows of the call's own beside boxes: any of them may grow, the boxes may be written to. No condition. Words for a reader that is taken from while the call makes boxes and rows of its own. No condition. Append of bytes onto a row of the call's own at a step of a region that draws its order. No condition. -/
import Derived.Test.YtcfmifongbapkaaGreatDoorQF
import Derived.Test.YtcfmifongbapkaaGreatDoorQI
import Derived.Test.YtcfmifongbapkaaGreatDoorQA
/- RowBox -/
namespace Go.Proofs.YtcfmifongbapkaaGreatDoor

open Go.RowKit

/-- A row of elements of k cells is the call's own, beside boxes that lie there. -/
def MadeL {α : Type} (f : α → List Value) (k : Nat) (e : TypeId) (w wr : World) (v : Value) (l : List α) (L : List (Nat × Array Value × TypeId)) : Prop :=
  Boxs w wr L ∧ wr.ownsRow w.heap.size e k v l.length (l.flatMap f) ∧ ∀ b ∈ L, v.ownBlock ≠ some b.1
/-- A new row is answered. -/
def NewL {α : Type} (f : α → List Value) (k : Nat) (w : World) (l : List α) (e : Ending) (w' : World) : Prop :=
  ∃ a c, e = .returned (.slice a l.length c) ∧ RowAt w' w'.heap.size a l.length k (l.flatMap f) ∧ ((l.length ≤ c ∧ c ≤ maxLen) ∧ ∀ j, (Value.slice a l.length c).ownBlock = some j → w.heap.size ≤ j) ∧ Below w.heap.size w w'
section

variable {α : Type} {f : α → List Value} {k : Nat} {e : TypeId} {w wr w1 : World} {v v' : Value} {l : List α} {x : α} {L : List (Nat × Array Value × TypeId)} {o : Obj}

end

end Go.Proofs.YtcfmifongbapkaaGreatDoor

/- Owns -/
namespace Go.Proofs.YtcfmifongbapkaaGreatDoor

open Go.RowKit

/-- A row: the kind of its elements, how many cells each has, the slice, how many there are, and the cells. -/
structure Row1 where
  e : TypeId
  k : Nat
  v : Value
  n : Nat
  xs : List Value
/-- Two rows lie apart. -/
def Apart (r s : Row1) : Prop := ∀ j, r.v.ownBlock = some j → s.v.ownBlock ≠ some j
/-- Rows of the call's own, apart from one another and from the boxes. -/
def Owns (w W : World) (L : List (Nat × Array Value × TypeId)) (Rs : List Row1) : Prop :=
  Boxs w W L ∧ (∀ r ∈ Rs, W.ownsRow w.heap.size r.e r.k r.v r.n r.xs ∧ ∀ b ∈ L, r.v.ownBlock ≠ some b.1) ∧ Rs.Pairwise Apart
section

variable {w W W' : World} {L : List (Nat × Array Value × TypeId)} {Rs Rs' : List Row1} {r : Row1}

theorem own_keep {B n k : Nat} {e : TypeId} {v : Value} {xs : List Value} (h : W.ownsRow B e k v n xs) (hk : ∀ j, v.ownBlock = some j → W'.heap[j]? = W.heap[j]?) : W'.ownsRow B e k v n xs := by
  refine ⟨h.1, ?_⟩
  rcases h.2 with ⟨rfl, rfl⟩ | ⟨b, cap, cur, rfl, h1, hh, hr⟩
  · exact .inl ⟨rfl, rfl⟩
  · exact .inr ⟨b, cap, cur, rfl, h1, (hk b rfl).trans hh, hr⟩
end

end Go.Proofs.YtcfmifongbapkaaGreatDoor

/- ReadOwn -/
namespace Go.Proofs.YtcfmifongbapkaaGreatDoor

open Go.RowKit

/-- The reader, boxes and rows of the call's own; nothing else was changed. -/
def RdO (rd : World → Prop) (g : Nat) (w W : World) (bs : List (Nat × Array Value × TypeId)) (Rs : List Row1) : Prop :=
  (rd W ∧ Only g w W ∧ g < w.heap.size) ∧ (∀ b ∈ bs, w.heap.size ≤ b.1 ∧ BoxC W b.1 b.2.1 b.2.2) ∧ (∀ r ∈ Rs, W.ownsRow w.heap.size r.e r.k r.v r.n r.xs ∧ ∀ b ∈ bs, r.v.ownBlock ≠ some b.1) ∧ Rs.Pairwise Apart
theorem below_only {g : Nat} {W W' : World} (hb : Below W.heap.size W W') : Only g W W' := ⟨hb.os, hb.tape, hb.output, hb.size, fun _ h _ => hb.block _ h⟩
section

variable {rd rd' : World → Prop} {g : Nat} {w W W' : World} {bs : List (Nat × Array Value × TypeId)} {Rs : List Row1} {r : Row1} {G : Nat} {cs : Array Value} {t : TypeId}

theorem RdO.start (h : rd w) (hg : g < w.heap.size) : RdO rd g w w [] [] := ⟨⟨h, Only.refl _ _, hg⟩, (fun b hb => by cases hb), (fun r hr => by cases hr), .nil⟩
theorem RdO.rdr (h : RdO rd g w W bs Rs) : rd W := h.1.1
theorem RdO.onl (h : RdO rd g w W bs Rs) : Only g w W := h.1.2.1
theorem RdO.gt (h : RdO rd g w W bs Rs) : g < w.heap.size := h.1.2.2
theorem RdO.size (h : RdO rd g w W bs Rs) : w.heap.size ≤ W.heap.size := h.1.2.1.size
theorem RdO.get (h : RdO rd g w W bs Rs) (i : Nat) (G : Nat) (cs : Array Value) (t : TypeId) (hi : bs[i]? = some (G, cs, t)) : BoxC W G cs t := (h.2.1 _ (List.mem_of_getElem? hi)).2
theorem RdO.ge (h : RdO rd g w W bs Rs) (i : Nat) (G : Nat) (cs : Array Value) (t : TypeId) (hi : bs[i]? = some (G, cs, t)) : w.heap.size ≤ G := (h.2.1 _ (List.mem_of_getElem? hi)).1
theorem RdO.own (h : RdO rd g w W bs Rs) (i : Nat) (r : Row1) (hi : Rs[i]? = some r) : W.ownsRow w.heap.size r.e r.k r.v r.n r.xs := (h.2.2.1 r (List.mem_of_getElem? hi)).1
theorem RdO.head (h : RdO rd g w W bs (r :: Rs)) : W.ownsRow w.heap.size r.e r.k r.v r.n r.xs := (h.2.2.1 r (List.mem_cons_self ..)).1
/-- Something is done to the reader alone. -/
theorem RdO.only (h : RdO rd g w W bs Rs) (hr : rd' W') (ho : Only g W W') : RdO rd' g w W' bs Rs := by
  refine ⟨⟨hr, h.onl.trans ho, h.gt⟩, fun b hb => ⟨(h.2.1 b hb).1, (h.2.1 b hb).2.only ho (by have := (h.2.1 b hb).1; have := h.gt; omega)⟩, fun r hr => ⟨ownk_grown (h.2.2.1 r hr).1 ho (fun j hj e => ?_), (h.2.2.1 r hr).2⟩, h.2.2.2⟩
  injection e with e
  have h1 := ((h.2.2.1 r hr).1.lt j hj).1
  have h2 := h.gt
  omega
theorem RdO.below [Keep g rd] (h : RdO rd g w W bs Rs) (hb : Below W.heap.size W W') : RdO rd g w W' bs Rs :=
  h.only (Keep.keep (g := g) W W' h.rdr fun b hb' => hb.block b (by have h1 := h.gt; have h2 := h.size; omega)) (below_only hb)
theorem RdO.drew [Keep g rd] (h : RdO rd g w W bs Rs) : RdO rd g w W.drew bs Rs := h.below (below_drewN 1 (Below.refl _ _))
theorem RdO.alloc [Keep g rd] (h : RdO rd g w W bs Rs) (o : Obj) : RdO rd g w (W.alloc o) bs Rs := h.below ((Below.refl _ _).alloc (Nat.le_refl _) _)
/-- A box is made. -/
theorem RdO.more [Keep g rd] (h : RdO rd g w W bs Rs) (cs : Array Value) (t : TypeId) : RdO rd g w (W.alloc (.cells cs t)) ((W.heap.size, cs, t) :: bs) Rs := by
  have h' := h.alloc (.cells cs t)
  refine ⟨h'.1, fun b hb => ?_, fun r hr => ⟨(h'.2.2.1 r hr).1, fun b hb hv => ?_⟩, h'.2.2.2⟩
  · rcases List.mem_cons.1 hb with rfl | hb
    · exact ⟨h.size, BoxC.new W cs t⟩
    · exact h'.2.1 b hb
  · rcases List.mem_cons.1 hb with rfl | hb
    · have := ((h.2.2.1 r hr).1.lt _ hv).2; simp at this
    · exact (h.2.2.1 r hr).2 b hb hv
/-- A cell is written, elsewhere than the reader. -/
theorem RdO.out [Keep g rd] (h : RdO rd g w W bs Rs) (hG : w.heap.size ≤ G) (i : Nat) (u : Value) : rd (W.setCell ⟨G, i, none⟩ u) ∧ Only g w (W.setCell ⟨G, i, none⟩ u) := by
  have hg := h.gt
  have hb : ∀ b, b < w.heap.size → (W.setCell ⟨G, i, none⟩ u).heap[b]? = W.heap[b]? := fun b hb => Below.heap_setCell _ _ _ _ (by show b ≠ G; omega)
  exact ⟨Keep.keep (g := g) W _ h.rdr fun b hb' => hb b (by omega), ⟨h.onl.os, h.onl.tape, h.onl.output, by have := h.onl.size; simpa [World.setCell] using this, fun b hb' hne => (hb b hb').trans (h.onl.block b hb' hne)⟩⟩
/-- A box is written to. -/
theorem RdO.set [Keep g rd] (h : RdO rd g w W ((G, cs, t) :: bs) Rs) (hl : ∀ b ∈ bs, b.1 ≠ G) (i : Nat) (u : Value) : RdO rd g w (W.setCell ⟨G, i, none⟩ u) ((G, cs.setIfInBounds i u, t) :: bs) Rs := by
  have hG := h.2.1 (G, cs, t) (List.mem_cons_self ..)
  obtain ⟨h1, h2⟩ := h.out hG.1 i u
  refine ⟨⟨h1, h2, h.gt⟩, fun b hb => ?_, fun s hs => ⟨own_keep (h.2.2.1 s hs).1 fun j hj => Below.heap_setCell _ _ _ _ ?_, fun b hb => ?_⟩, h.2.2.2⟩
  · rcases List.mem_cons.1 hb with rfl | hb
    · exact ⟨hG.1, hG.2.set i u⟩
    · exact ⟨(h.2.1 b (List.mem_cons_of_mem _ hb)).1, (h.2.1 b (List.mem_cons_of_mem _ hb)).2.far i u (hl b hb)⟩
  · show j ≠ G
    rintro rfl
    exact (h.2.2.1 s hs).2 (j, cs, t) (List.mem_cons_self ..) hj
  · rcases List.mem_cons.1 hb with rfl | hb
    · exact (h.2.2.1 s hs).2 (G, cs, t) (List.mem_cons_self ..)
    · exact (h.2.2.1 s hs).2 b (List.mem_cons_of_mem _ hb)
theorem RdO.tail {b : Nat × Array Value × TypeId} (h : RdO rd g w W (b :: bs) Rs) : RdO rd g w W bs Rs := ⟨h.1, fun c hc => h.2.1 c (List.mem_cons_of_mem _ hc), fun r hr => ⟨(h.2.2.1 r hr).1, fun c hc => (h.2.2.1 r hr).2 c (List.mem_cons_of_mem _ hc)⟩, h.2.2.2⟩
/-- Two boxes change places. -/
theorem RdO.swap {a b : Nat × Array Value × TypeId} (h : RdO rd g w W (a :: b :: bs) Rs) : RdO rd g w W (b :: a :: bs) Rs := by
  have hm : ∀ c, c ∈ b :: a :: bs → c ∈ a :: b :: bs := fun c hc => by
    simp only [List.mem_cons] at hc ⊢
    rcases hc with h | h | h
    · exact .inr (.inl h)
    · exact .inl h
    · exact .inr (.inr h)
  exact ⟨h.1, fun c hc => h.2.1 c (hm c hc), fun r hr => ⟨(h.2.2.1 r hr).1, fun c hc => (h.2.2.1 r hr).2 c (hm c hc)⟩, h.2.2.2⟩
theorem RdO.none (h : RdO rd g w W bs Rs) (e : TypeId) (k : Nat) : RdO rd g w W bs (⟨e, k, .slice Option.none 0 0, 0, []⟩ :: Rs) := by
  refine ⟨h.1, h.2.1, fun r hr => ?_, .cons (fun s _ j hj => by cases hj) h.2.2.2⟩
  rcases List.mem_cons.1 hr with rfl | hr
  · exact ⟨World.ownsRow_nil _ _ _ _, fun _ _ hb => by cases hb⟩
  · exact h.2.2.1 r hr
/-- The first row grows. -/
theorem RdO.grow [Keep g rd] {v' : Value} {n' : Nat} {xs' : List Value} (h : RdO rd g w W bs (r :: Rs)) (ho : W'.ownsRow w.heap.size r.e r.k v' n' xs') (hg : W.grownBy W' r.v.ownBlock) (hat : v'.ownBlock = r.v.ownBlock ∨ v'.ownBlock = some W.heap.size) : RdO rd g w W' bs (⟨r.e, r.k, v', n', xs'⟩ :: Rs) := by
  have hh := (h.2.2.1 r (List.mem_cons_self ..))
  obtain ⟨hp1, hp2⟩ := List.pairwise_cons.1 h.2.2.2
  have hgt := h.gt
  have hsz := h.size
  have hblk : ∀ b, b < w.heap.size → W'.heap[b]? = W.heap[b]? := fun b hb => hg.block b (by omega) (fun e => by have := (hh.1.lt b e.symm).1; omega)
  refine ⟨⟨Keep.keep (g := g) W W' h.rdr fun b hb => hblk b (by omega), ⟨hg.os.trans h.onl.os, hg.tape.trans h.onl.tape, hg.output.trans h.onl.output, Nat.le_trans h.onl.size hg.size, fun b hb hne => (hblk b hb).trans (h.onl.block b hb hne)⟩, h.gt⟩, fun b hb => ⟨(h.2.1 b hb).1, (h.2.1 b hb).2.grown hg (fun e => hh.2 b hb e.symm)⟩, fun s hs => ?_, .cons (fun s hs j hj hj' => ?_) hp2⟩
  · rcases List.mem_cons.1 hs with rfl | hs
    · refine ⟨ho, fun b hb hv => ?_⟩
      rcases hat with e1 | e1
      · exact hh.2 b hb (e1 ▸ hv)
      · rw [e1] at hv; injection hv with hv
        have := ((h.2.1 b hb).2).lt
        omega
    · have hS := h.2.2.1 s (List.mem_cons_of_mem _ hs)
      exact ⟨ownk_grown hS.1 hg (fun j hj e => hp1 s hs j e hj), hS.2⟩
  · rcases hat with e1 | e1
    · exact hp1 s hs j (e1 ▸ hj) hj'
    · rw [show v'.ownBlock = some W.heap.size from e1] at hj
      injection hj with hj
      have := ((h.2.2.1 s (List.mem_cons_of_mem _ hs)).1.lt j hj').2
      omega
/-- A row that a call has made. -/
theorem RdO.add {e : TypeId} {k : Nat} {v : Value} {n : Nat} {xs : List Value} (h : RdO rd g w W bs Rs) (hr : rd' W') (ho : Only g W W') (hrow : W'.ownsRow W.heap.size e k v n xs) : RdO rd' g w W' bs (⟨e, k, v, n, xs⟩ :: Rs) := by
  have h' := h.only hr ho
  have hsz := h.size
  refine ⟨h'.1, h'.2.1, fun s hs => ?_, .cons (fun s hs j hj hj' => ?_) h'.2.2.2⟩
  · rcases List.mem_cons.1 hs with rfl | hs
    · refine ⟨?_, fun b hb hv => ?_⟩
      · refine ⟨hrow.1, ?_⟩
        rcases hrow.2 with h0 | ⟨b, cap, cur, h1, h2, h3⟩
        · exact .inl h0
        · exact .inr ⟨b, cap, cur, h1, Nat.le_trans hsz h2, h3⟩
      · have h1 := (hrow.lt _ hv).1
        have h2 := ((h.2.1 b hb).2).lt
        omega
    · exact h'.2.2.1 s hs
  · have h1 := (hrow.lt j hj).1
    have h2 := ((h.2.2.1 s hs).1.lt j hj').2
    omega
end

section

variable {P : Program} (w : World)

/-- Append onto a row of the call's own, at a step of a region that draws its order. -/
theorem step_append_rowk {ops : Array Oper} {o : Oper} {a' : Act} {K : Act → World → Prop} {Q : Exit → Act → World → Prop} {E : Prop} (hgd : o.guard = none) (s x : Operand) (t : TypeId)
    (ho : o.op = .call { callee := .builtin .append, args := #[s, x], argTypes := #[t, t] })
    (base : Nat) (e : TypeId) (i : TypeInfo) (z : Value) (k bytes : Nat) (ht : P.underlying t = some (.slice e)) (hi : P.info? e = some i) (hz : i.zero = some z)
    (hsize : i.size = k) (hby : i.bytes = bytes) (hzs : z.cells.size = k) (hk : 0 < k) (v : Value) (n : Nat) (xs : List Value) (hs : a'.eval s = v) (hown : w.ownsRow base e k v n xs)
    (B : Nat) (a : Option Addr) (m c : Nat) (news : List Value) (hx : a'.eval x = .slice a m c) (hr : RowAt w B a m k news) (h1 : ∀ u ∈ news, u.oneCell' = true)
    (h63 : n + m ≤ maxLen) (hlen : (n + m) * bytes ≤ 140737488355328) (hbase : base ≤ w.heap.size)
    (h : ∀ v' w', w'.ownsRow base e k v' (n + m) (xs ++ news) → w.grownBy w' v.ownBlock → (v'.ownBlock = v.ownBlock ∨ v'.ownBlock = some w.heap.size) → K (a'.put o.dst v') w') :
    if Region.wanted o (yielded ops a'.tmps) = true then Oper.wp P o a' w K Q else E := by
  have hw : Region.wanted o (yielded ops a'.tmps) = true := by simp [Region.wanted, hgd]
  rw [if_pos hw]
  obtain ⟨v', w', hrun, h2, h3, h4⟩ := run_append_rowk (P := P) w base t o.type e i z k bytes ht hi hz hsize hby hzs hk v n xs hown B a m c news hr h1 h63 hlen hbase
  unfold Oper.wp execOp
  simp only [ho, resolve, invoke, builtin, Sem.run_bind, Sem.run_pure, Result.andThen_ok, List.map_toArray, List.map_cons, List.map_nil, hs, hx, hrun]
  exact h v' w' h2 h3 h4
end

end Go.Proofs.YtcfmifongbapkaaGreatDoor

/- StepAppend -/
namespace Go.Proofs.YtcfmifongbapkaaGreatDoor

open Go.RowKit

set_option linter.unusedVariables false

/-- Append of bytes at a step of a region that draws its order. -/
theorem step_append_bytes {P : Program} (w : World) {ops : Array Oper} {o : Oper} {a' : Act} {K : Act → World → Prop} {Q : Exit → Act → World → Prop} {E : Prop} (hgd : o.guard = none) (s x : Operand) (t : TypeId)
    (ho : o.op = .call { callee := .builtin .append, args := #[s, x], argTypes := #[t, t] })
    (base : Nat) (e : TypeId) (i : TypeInfo) (ht : P.underlying t = some (.slice e)) (hi : P.info? e = some i) (hz : i.zero = some (.int .u8 0))
    (hsize : i.size = 1) (hby : i.bytes = 1) (v : Value) (n : Nat) (l : List UInt8) (hs : a'.eval s = v) (hown : w.ownsRow base e 1 v n (bcells l))
    (B : Nat) (a : Option Addr) (m : Nat) (news : List UInt8) (c : Nat) (hx : a'.eval x = .slice a m c) (hr : BAt w B a m news)
    (hlen : n + m ≤ 140737488355328) (hbase : base ≤ w.heap.size)
    (h : ∀ v' w', w'.ownsRow base e 1 v' (n + m) (bcells (l ++ news)) → w.grownBy w' v.ownBlock → K (a'.put o.dst v') w') :
    if Region.wanted o (yielded ops a'.tmps) = true then Oper.wp P o a' w K Q else E := by
  have hw : Region.wanted o (yielded ops a'.tmps) = true := by simp [Region.wanted, hgd]
  rw [if_pos hw]
  obtain ⟨v', w', hrun, h2, h3⟩ := run_append_bytes (P := P) w base t o.type e i ht hi hz hsize hby v n l hown B a m news c hr hlen hbase
  unfold Oper.wp execOp
  simp only [ho, resolve, invoke, builtin, Sem.run_bind, Sem.run_pure, Result.andThen_ok, List.map_toArray, List.map_cons, List.map_nil, hs, hx, hrun]
  exact h v' w' h2 h3
end Go.Proofs.YtcfmifongbapkaaGreatDoor
