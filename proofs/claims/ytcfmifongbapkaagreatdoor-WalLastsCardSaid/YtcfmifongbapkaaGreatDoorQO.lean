/- Words for a record in memory. No condition. Words for a row of structs that a call makes beside its boxes, and for a call that answers such a row. No condition. Words for several rows of the call's own beside boxes: any of them may grow, the boxes may be written to. No condition. Words for a reader that is taken from while the call makes boxes and rows of its own. No condition. -/
import Derived.Test.YtcfmifongbapkaaGreatDoorQH
import Derived.Test.YtcfmifongbapkaaGreatDoorQN
import Derived.Test.YtcfmifongbapkaaGreatDoorQF
import Derived.Test.YtcfmifongbapkaaGreatDoorQI
/- WalMem -/
namespace Go.Proofs.YtcfmifongbapkaaGreatDoor

open Go.RowKit

set_option linter.unusedVariables false
set_option linter.unusedSimpArgs false

/-- A record by value: its kind, ballot, slot, command, data. -/
structure RcM where
  k : Int
  br : Nat
  bn : Int
  sl : Int
  cm : CmM
  da : Option Addr
  dn : Nat
  dc : Nat
abbrev rcV (x : RcM) : Array Value := #[.int .i64 x.k, .int .u32 ((x.br : Nat) : Int), .int .i64 x.bn, .int .i64 x.sl, .int .i64 x.cm.k, .int .i64 x.cm.s, .int .i64 x.cm.q, .slice x.cm.a x.cm.n x.cm.c, .slice x.cm.b x.cm.m x.cm.d, .int .i64 x.cm.i, .int .i64 x.cm.j, .int .i64 x.cm.g, .int .u64 ((x.cm.st : Nat) : Int), .bool x.cm.y, .slice x.da x.dn x.dc]
abbrev zeroR : RcM := ⟨0, 0, 0, 0, zeroM, none, 0, 0⟩
abbrev zeroRV : Array Value := #[.int .i64 0, .int .u32 0, .int .i64 0, .int .i64 0, .int .i64 0, .int .i64 0, .int .i64 0, .slice none 0 0, .slice none 0 0, .int .i64 0, .int .i64 0, .int .i64 0, .int .u64 0, .bool false, .slice none 0 0]
/-- What its lists and its data hold. -/
structure RcL where
  rs : List RdM
  ws : List WrM
  dl : List UInt8
abbrev noLR : RcL := ⟨[], [], []⟩
def rcT (x : RcM) (L : RcL) : Rc := ⟨x.k, (((x.br : Nat) : Int), x.bn), x.sl, cmT x.cm L.rs L.ws, L.dl⟩
/-- Its lists and its data lie in memory. -/
structure RcAt (w : World) (x : RcM) (L : RcL) : Prop where
  cm : CmAt w x.cm L.rs L.ws
  da : BAt w w.heap.size x.da x.dn L.dl
  br : x.br < 4294967296
/-- They are of a size that is looked at. -/
structure RcF (x : RcM) : Prop where
  n : x.cm.n ≤ 1000000
  m : x.cm.m ≤ 1000000
  dn : x.dn ≤ 1000000
section

variable {w w' : World} {x y : RcM} {L L' : RcL}

theorem RcAt.later (h : RcAt w x L) (hb : Below w.heap.size w w') : RcAt w' x L := ⟨h.cm.later hb, (h.da.below hb (Nat.le_refl _)).more hb.size, h.br⟩
theorem RcAt.zero : RcAt w zeroR noLR := ⟨CmAt.zero, BAt.nil, by show 0 < 4294967296; decide⟩
theorem RcF.zero : RcF zeroR := ⟨Nat.zero_le _, Nat.zero_le _, Nat.zero_le _⟩
theorem rcT_zero : rcT zeroR noLR = zeroRc := rfl
theorem RcAt.ok (h : RcAt w x L) : RcOk (rcT x L) := by
  refine ⟨⟨?_, ?_⟩, ?_, ?_, h.cm.st⟩
  · show 0 ≤ ((x.br : Nat) : Int); omega
  · have := h.br; show ((x.br : Nat) : Int) < 4294967296; omega
  · intro z hz
    obtain ⟨u, hu, rfl⟩ := List.mem_map.1 hz
    exact (h.cm.tx.okR u hu).2
  · intro z hz
    obtain ⟨u, hu, rfl⟩ := List.mem_map.1 hz
    exact (h.cm.tx.okW u hu).2.1
/-- What a record's kind names of it. -/
def namedR (x : RcM) : RcM :=
  if x.k = 1 then ⟨1, x.br, x.bn, 0, zeroM, none, 0, 0⟩ else if x.k = 2 then ⟨2, x.br, x.bn, x.sl, x.cm, none, 0, 0⟩
  else if x.k = 3 then ⟨3, 0, 0, x.sl, x.cm, none, 0, 0⟩ else if x.k = 4 then ⟨4, 0, 0, x.sl, zeroM, x.da, x.dn, x.dc⟩ else zeroR
def namedRL (x : RcM) (L : RcL) : RcL :=
  if x.k = 1 then noLR else if x.k = 2 then ⟨L.rs, L.ws, []⟩ else if x.k = 3 then ⟨L.rs, L.ws, []⟩ else if x.k = 4 then ⟨[], [], L.dl⟩ else noLR
theorem RcAt.named (h : RcAt w x L) : RcAt w (namedR x) (namedRL x L) := by
  unfold namedR namedRL
  split
  · exact ⟨CmAt.zero, BAt.nil, h.br⟩
  · split
    · exact ⟨h.cm, BAt.nil, h.br⟩
    · split
      · exact ⟨h.cm, BAt.nil, by show 0 < 4294967296; decide⟩
      · split
        · exact ⟨CmAt.zero, h.da, by show 0 < 4294967296; decide⟩
        · exact RcAt.zero
/-- Whether two records in memory are alike. -/
noncomputable def sameR (x y : RcM) (L L' : RcL) : Bool := (x.k == y.k) && (eqB (((x.br : Nat) : Int), x.bn) (((y.br : Nat) : Int), y.bn) && ((x.sl == y.sl) && (sameC x.cm y.cm L.rs L'.rs L.ws L'.ws && eqB L.dl L'.dl)))
theorem sameR_iff (x y : RcM) (L L' : RcL) : sameR x y L L' = true ↔ rcT x L = rcT y L' := by
  unfold sameR rcT
  rw [sameC_eqB]
  simp only [Bool.and_eq_true, beq_iff_eq, eqB_iff]
  constructor
  · rintro ⟨h1, h2, h3, h4, h5⟩
    rw [h1, h2, h3, h4, h5]
  · intro h
    injection h with h1 h2 h3 h4 h5
    exact ⟨h1, h2, h3, h4, h5⟩
theorem sameR_eqB (x y : RcM) (L L' : RcL) : sameR x y L L' = eqB (rcT x L) (rcT y L') := by
  cases e : sameR x y L L'
  · exact (eqB_no fun h => by rw [(sameR_iff _ _ _ _).2 h] at e; cases e).symm
  · exact (eqB_yes ((sameR_iff _ _ _ _).1 e)).symm
/-- A record and what its kind names of it are alike. -/
noncomputable def cleanR (x : RcM) (L : RcL) : Bool := sameR x (namedR x) L (namedRL x L)
noncomputable def chainR (x : RcM) (L : RcL) : Bool := formB x.bn && (decide (0 ≤ x.sl) && (decide (x.sl ≤ 1000000) && (formCm (cmT x.cm L.rs L.ws) && decide (x.dn ≤ 59900))))
theorem zero_form : formCm zeroC = true := rfl
theorem form_rec (h : RcAt w x L) : formR (rcT x L) = (!(x.k == 0) && (cleanR x L && chainR x L)) := by
  have hl := h.da.len
  have key : FormR (rcT x L) ↔ (¬ x.k = 0 ∧ rcT x L = rcT (namedR x) (namedRL x L) ∧ (formB x.bn = true ∧ 0 ≤ x.sl ∧ x.sl ≤ 1000000 ∧ formCm (cmT x.cm L.rs L.ws) = true ∧ x.dn ≤ 59900)) := by
    unfold namedR namedRL FormR slotP rcT
    simp only [Rc.mk.injEq]
    by_cases h1 : x.k = 1
    · rw [if_pos h1, if_pos h1]
      rw [h1]
      constructor
      · rintro (⟨_, a, b, c, d⟩ | ⟨e, _⟩ | ⟨e, _⟩ | ⟨e, _⟩)
        · refine ⟨by decide, ⟨rfl, rfl, b, c, d⟩, a, by omega, by omega, by rw [c]; rfl, by rw [← hl, d]; exact Nat.zero_le _⟩
        all_goals omega
      · rintro ⟨_, ⟨_, _, b, c, d⟩, a, _⟩
        exact .inl ⟨rfl, a, b, c, d⟩
    · rw [if_neg h1, if_neg h1]
      by_cases h2 : x.k = 2
      · rw [if_pos h2, if_pos h2]
        rw [h2]
        constructor
        · rintro (⟨e, _⟩ | ⟨_, a, b, c, d⟩ | ⟨e, _⟩ | ⟨e, _⟩)
          · omega
          · exact ⟨by decide, ⟨rfl, rfl, rfl, rfl, d⟩, a, b.1, b.2, c, by rw [← hl, d]; exact Nat.zero_le _⟩
          all_goals omega
        · rintro ⟨_, ⟨_, _, _, _, d⟩, a, b, c, e, _⟩
          exact .inr (.inl ⟨rfl, a, ⟨b, c⟩, e, d⟩)
      · rw [if_neg h2, if_neg h2]
        by_cases h3 : x.k = 3
        · rw [if_pos h3, if_pos h3]
          rw [h3]
          constructor
          · rintro (⟨e, _⟩ | ⟨e, _⟩ | ⟨_, a, b, c, d⟩ | ⟨e, _⟩)
            · omega
            · omega
            · refine ⟨by decide, ⟨rfl, a, rfl, rfl, d⟩, ?_, b.1, b.2, c, by rw [← hl, d]; exact Nat.zero_le _⟩
              injection a with a1 a2
              rw [a2]; rfl
            · omega
          · rintro ⟨_, ⟨_, a, _, _, d⟩, _, b, c, e, _⟩
            exact .inr (.inr (.inl ⟨rfl, a, ⟨b, c⟩, e, d⟩))
        · rw [if_neg h3, if_neg h3]
          by_cases h4 : x.k = 4
          · rw [if_pos h4, if_pos h4]
            rw [h4]
            constructor
            · rintro (⟨e, _⟩ | ⟨e, _⟩ | ⟨e, _⟩ | ⟨_, a, b, c, d⟩)
              · omega
              · omega
              · omega
              · refine ⟨by decide, ⟨rfl, a, rfl, c, rfl⟩, ?_, b.1, b.2, by rw [c]; rfl, by rw [← hl]; exact d⟩
                injection a with a1 a2
                rw [a2]; rfl
            · rintro ⟨_, ⟨_, a, _, c, _⟩, _, b, b2, _, d⟩
              exact .inr (.inr (.inr ⟨rfl, a, ⟨b, b2⟩, c, by rw [hl]; exact d⟩))
          · rw [if_neg h4, if_neg h4]
            constructor
            · rintro (⟨e, _⟩ | ⟨e, _⟩ | ⟨e, _⟩ | ⟨e, _⟩) <;> omega
            · rintro ⟨h0, ⟨e, _⟩, _⟩
              exact absurd e h0
  rw [Bool.eq_iff_iff, formR_iff, key]
  unfold cleanR chainR
  simp only [Bool.and_eq_true, Bool.not_eq_true', beq_eq_false_iff_ne, ne_eq, sameR_iff, decide_eq_true_eq]
end

/-- Whole loads of records as words of their own. -/
def ldK (p : Value) : Sem Value := Instr.loadAt 36 p
def ldR (p : Value) : Sem Value := Instr.loadAt 47 p
@[go_sem ↓ high] theorem ldK_eq (p : Value) : Instr.loadAt 36 p = ldK p := rfl
@[go_sem ↓ high] theorem ldR_eq (p : Value) : Instr.loadAt 47 p = ldR p := rfl
theorem BoxC.ldK {w : World} {g : Nat} {x : RcM} (h : BoxC w g (rcV x) 36) : (Go.Proofs.YtcfmifongbapkaaGreatDoor.ldK (.pointer (some ⟨g, 0, none⟩))).run Tryz.prog w = .ok (.agg (rcV x)) w := by
  unfold Go.Proofs.YtcfmifongbapkaaGreatDoor.ldK
  simp only [Instr.loadAt, Instr.sureAddr, Sem.run_bind, Sem.run_pure, Result.andThen_ok]
  exact run_loadVar_row w g 36 36 (rcV x) (0, 0) _ h Tryz.underlying36 rfl (by kernel_rfl)
theorem BoxC.ldR {w : World} {g : Nat} {x : RcM} (h : BoxC w g (rcV x) 47) : (Go.Proofs.YtcfmifongbapkaaGreatDoor.ldR (.pointer (some ⟨g, 0, none⟩))).run Tryz.prog w = .ok (.agg (rcV x)) w := by
  unfold Go.Proofs.YtcfmifongbapkaaGreatDoor.ldR
  simp only [Instr.loadAt, Instr.sureAddr, Sem.run_bind, Sem.run_pure, Result.andThen_ok]
  exact run_loadVar_row w g 47 47 (rcV x) (0, 0) _ h Tryz.underlying47 rfl (by kernel_rfl)
/-- A whole box is stored. -/
theorem wpList_store_k {ops : Array Oper} {rest : List Oper} {o : Oper} {a : Act} {w : World} {Q : Exit → Act → World → Prop} (hgd : o.guard = none) (x y : Operand) (ho : o.op = .store 36 x y)
    (g : Nat) (m : RcM) (hx : a.eval x = .pointer (some ⟨g, 0, none⟩)) (hy : a.eval y = .agg (rcV m)) (m' : RcM) (hb : BoxC w g (rcV m') 36)
    (h : wpList Tryz.prog ops Q rest (a.put o.dst undef) (w.setRow g (rcV m))) : wpList Tryz.prog ops Q (o :: rest) a w :=
  wpList_store_row hgd 36 x y ho g (rcV m) hx hy 36 (rcV m') hb (by kernel_rfl) rfl (by simp [Value.oneCell']) h
theorem wpList_store_r {ops : Array Oper} {rest : List Oper} {o : Oper} {a : Act} {w : World} {Q : Exit → Act → World → Prop} (hgd : o.guard = none) (x y : Operand) (ho : o.op = .store 47 x y)
    (g : Nat) (m : RcM) (hx : a.eval x = .pointer (some ⟨g, 0, none⟩)) (hy : a.eval y = .agg (rcV m)) (m' : RcM) (hb : BoxC w g (rcV m') 47)
    (h : wpList Tryz.prog ops Q rest (a.put o.dst undef) (w.setRow g (rcV m))) : wpList Tryz.prog ops Q (o :: rest) a w :=
  wpList_store_row hgd 47 x y ho g (rcV m) hx hy 47 (rcV m') hb (by kernel_rfl) rfl (by simp [Value.oneCell']) h
theorem Boxs.fillK {w W : World} {G : Nat} {cs : Array Value} {t : TypeId} {l : List (Nat × Array Value × TypeId)} (h : Boxs w W ((G, cs, t) :: l)) (hG : w.heap.size ≤ G) (hl : ∀ b ∈ l, b.1 ≠ G) (ds : Array Value) : Boxs w (W.setRow G ds) ((G, ds, t) :: l) :=
  ⟨⟨h.1.os, h.1.tape, h.1.output, by rw [setRow_size]; exact h.1.size, fun b hb => (setRow_other W G b ds (by omega)).trans (h.1.block b hb)⟩, fun b hb => by
    rcases List.mem_cons.1 hb with rfl | hb
    · exact (h.get 0 _ _ _ rfl).fill ds
    · have h2 := h.2 b (List.mem_cons_of_mem _ hb)
      exact (setRow_other W G b.1 ds (hl b hb)).trans h2⟩
end Go.Proofs.YtcfmifongbapkaaGreatDoor

/- RowBox -/
namespace Go.Proofs.YtcfmifongbapkaaGreatDoor

open Go.RowKit

/-- A row of elements of k cells is the call's own, beside boxes that lie there. -/
def MadeL {α : Type} (f : α → List Value) (k : Nat) (e : TypeId) (w wr : World) (v : Value) (l : List α) (L : List (Nat × Array Value × TypeId)) : Prop :=
  Boxs w wr L ∧ wr.ownsRow w.heap.size e k v l.length (l.flatMap f) ∧ ∀ b ∈ L, v.ownBlock ≠ some b.1
/-- A new row is answered. -/
def NewL {α : Type} (f : α → List Value) (k : Nat) (w : World) (l : List α) (e : Ending) (w' : World) : Prop :=
  ∃ a c, e = .returned (.slice a l.length c) ∧ RowAt w' w'.heap.size a l.length k (l.flatMap f) ∧ ((l.length ≤ c ∧ c ≤ maxLen) ∧ ∀ j, (Value.slice a l.length c).ownBlock = some j → w.heap.size ≤ j) ∧ Below w.heap.size w w'
theorem flatL_snoc {α : Type} (f : α → List Value) (l : List α) (x : α) : (l ++ [x]).flatMap f = l.flatMap f ++ f x := by simp [List.flatMap_append]
section

variable {α : Type} {f : α → List Value} {k : Nat} {e : TypeId} {w wr w1 : World} {v v' : Value} {l : List α} {x : α} {L : List (Nat × Array Value × TypeId)} {o : Obj}

theorem MadeL.start (h : Boxs w wr L) : MadeL f k e w wr (.slice none 0 0) ([] : List α) L := ⟨h, World.ownsRow_nil _ _ _ _, fun _ _ h => by cases h⟩
theorem MadeL.boxs (h : MadeL f k e w wr v l L) : Boxs w wr L := h.1
theorem MadeL.bel (h : MadeL f k e w wr v l L) : Below w.heap.size w wr := h.1.1
theorem MadeL.own (h : MadeL f k e w wr v l L) : wr.ownsRow w.heap.size e k v l.length (l.flatMap f) := h.2.1
theorem MadeL.below (h : MadeL f k e w wr v l L) (hb : Below wr.heap.size wr w1) : MadeL f k e w w1 v l L := ⟨h.1.below hb, ownk_below h.2.1 hb, h.2.2⟩
theorem MadeL.drewN (h : MadeL f k e w wr v l L) (q : Nat) : MadeL f k e w (wr.drewN q) v l L := h.below (below_drewN q (Below.refl _ _))
theorem MadeL.more (h : MadeL f k e w wr v l L) (cs : Array Value) (t : TypeId) : MadeL f k e w (wr.alloc (.cells cs t)) v l ((wr.heap.size, cs, t) :: L) :=
  ⟨h.1.more cs t, h.2.1.alloc _, fun b hb hv => by
    rcases List.mem_cons.1 hb with rfl | hb
    · have := (h.2.1.lt _ hv).2; simp at this
    · exact h.2.2 b hb hv⟩
theorem MadeL.tail {b : Nat × Array Value × TypeId} (h : MadeL f k e w wr v l (b :: L)) : MadeL f k e w wr v l L := ⟨h.1.tail, h.2.1, fun c hc => h.2.2 c (List.mem_cons_of_mem _ hc)⟩
theorem MadeL.pushes {m : List α} (h : MadeL f k e w wr v l L) (ho : w1.ownsRow w.heap.size e k v' (l.length + m.length) (l.flatMap f ++ m.flatMap f)) (hg : wr.grownBy w1 v.ownBlock) (hat : v'.ownBlock = v.ownBlock ∨ v'.ownBlock = some wr.heap.size) : MadeL f k e w w1 v' (l ++ m) L := by
  have hsz := h.1.1.size
  refine ⟨⟨h.1.1.grown hg hsz (fun j hj => (h.2.1.lt j hj).1), fun b hb => (h.1.2 b hb).grown hg (fun e => h.2.2 b hb e.symm)⟩, by rw [List.flatMap_append, List.length_append]; exact ho, fun b hb hv => ?_⟩
  rcases hat with e1 | e1
  · exact h.2.2 b hb (e1 ▸ hv)
  · rw [e1] at hv; injection hv with hv
    have := (h.1.2 b hb).lt
    omega
theorem MadeL.push (h : MadeL f k e w wr v l L) (ho : w1.ownsRow w.heap.size e k v' (l.length + 1) (l.flatMap f ++ f x)) (hg : (wr.alloc o).grownBy w1 v.ownBlock) (hat : v'.ownBlock = v.ownBlock ∨ v'.ownBlock = some (wr.alloc o).heap.size) : MadeL f k e w w1 v' (l ++ [x]) L := by
  have h' : MadeL f k e w (wr.alloc o) v l L := h.below ((Below.refl _ _).alloc (Nat.le_refl _) _)
  exact h'.pushes (m := [x]) (by simpa using ho) hg hat
theorem MadeL.lies (h : MadeL f k e w wr v l L) : ∃ a c, v = .slice a l.length c ∧ RowAt wr wr.heap.size a l.length k (l.flatMap f) ∧ (l.length ≤ c ∧ c ≤ maxLen) := by
  obtain ⟨a, c, rfl, h1, h2⟩ := ownk_form h.2.1
  exact ⟨a, c, rfl, RowAt.of_own h.2.1, h1, h2⟩
theorem NewL.none (hb : Below w.heap.size w w1) : NewL f k w ([] : List α) (.returned (.slice Option.none 0 0)) w1 := ⟨Option.none, 0, rfl, RowAt.nil, ⟨⟨Nat.le_refl _, by unfold maxLen; omega⟩, fun _ h => by cases h⟩, hb⟩
theorem NewL.of (h : MadeL f k e w wr v l L) : NewL f k w l (.returned v) wr := by
  obtain ⟨a, c, rfl, h1, h2⟩ := h.lies
  exact ⟨a, c, rfl, h1, ⟨h2, fun j hj => (h.2.1.lt j hj).1⟩, h.bel⟩
/-- A row whose block is left as it is. -/
theorem RowAt.apart {W W' : World} {B n c : Nat} {a : Option Addr} {xs : List Value} (h : RowAt W B a n k xs) (hk : ∀ j, (Value.slice a n c).ownBlock = some j → W'.heap[j]? = W.heap[j]?) : RowAt W' B a n k xs := by
  rcases h with ⟨hl, h | ⟨b, off, rfl, hb, hc⟩⟩
  · exact ⟨hl, .inl h⟩
  · exact ⟨hl, .inr ⟨b, off, rfl, hb, fun j u hu => (World.cell?_of_block (hk b rfl)).trans (hc j u hu)⟩⟩
end

end Go.Proofs.YtcfmifongbapkaaGreatDoor

/- Owns -/
namespace Go.Proofs.YtcfmifongbapkaaGreatDoor

open Go.RowKit

/-- A row: the kind of its elements, how many cells each has, the slice, how many there are, and the cells. -/
structure Row1 where
  e : TypeId
  k : Nat
  v : Value
  n : Nat
  xs : List Value
/-- Two rows lie apart. -/
def Apart (r s : Row1) : Prop := ∀ j, r.v.ownBlock = some j → s.v.ownBlock ≠ some j
/-- Rows of the call's own, apart from one another and from the boxes. -/
def Owns (w W : World) (L : List (Nat × Array Value × TypeId)) (Rs : List Row1) : Prop :=
  Boxs w W L ∧ (∀ r ∈ Rs, W.ownsRow w.heap.size r.e r.k r.v r.n r.xs ∧ ∀ b ∈ L, r.v.ownBlock ≠ some b.1) ∧ Rs.Pairwise Apart
theorem Apart.symm {r s : Row1} (h : Apart r s) : Apart s r := fun j hs hr => h j hr hs
section

variable {w W W' : World} {L : List (Nat × Array Value × TypeId)} {Rs Rs' : List Row1} {r : Row1}

theorem Owns.boxs (h : Owns w W L Rs) : Boxs w W L := h.1
theorem Owns.bel (h : Owns w W L Rs) : Below w.heap.size w W := h.1.1
theorem Owns.size (h : Owns w W L Rs) : w.heap.size ≤ W.heap.size := h.1.1.size
theorem Owns.head (h : Owns w W L (r :: Rs)) : W.ownsRow w.heap.size r.e r.k r.v r.n r.xs := (h.2.1 r (List.mem_cons_self ..)).1
theorem Owns.get (h : Owns w W L Rs) (i : Nat) (r : Row1) (hi : Rs[i]? = some r) : W.ownsRow w.heap.size r.e r.k r.v r.n r.xs := (h.2.1 r (List.mem_of_getElem? hi)).1
theorem Owns.start (h : Boxs w W L) : Owns w W L [] := ⟨h, (fun r hr => by cases hr), .nil⟩
theorem Owns.none (h : Owns w W L Rs) (e : TypeId) (k : Nat) : Owns w W L (⟨e, k, .slice Option.none 0 0, 0, []⟩ :: Rs) := by
  refine ⟨h.1, fun r hr => ?_, .cons (fun s _ j hj => by cases hj) h.2.2⟩
  rcases List.mem_cons.1 hr with rfl | hr
  · exact ⟨World.ownsRow_nil _ _ _ _, fun _ _ hb => by cases hb⟩
  · exact h.2.1 r hr
theorem Owns.below (h : Owns w W L Rs) (hb : Below W.heap.size W W') : Owns w W' L Rs := ⟨h.1.below hb, fun r hr => ⟨ownk_below (h.2.1 r hr).1 hb, (h.2.1 r hr).2⟩, h.2.2⟩
theorem Owns.drew (h : Owns w W L Rs) : Owns w W.drew L Rs := h.below (below_drewN 1 (Below.refl _ _))
theorem Owns.alloc (h : Owns w W L Rs) (o : Obj) : Owns w (W.alloc o) L Rs := h.below ((Below.refl _ _).alloc (Nat.le_refl _) _)
theorem Owns.perm (h : Owns w W L Rs) (hp : Rs.Perm Rs') : Owns w W L Rs' :=
  ⟨h.1, fun r hr => h.2.1 r (hp.mem_iff.2 hr), (hp.pairwise_iff (fun hxy => Apart.symm hxy)).1 h.2.2⟩
/-- The first row goes last. -/
theorem Owns.turn (h : Owns w W L (r :: Rs)) : Owns w W L (Rs ++ [r]) := h.perm (List.perm_append_singleton r Rs).symm
/-- The first row grows. -/
theorem Owns.grow {v' : Value} {n' : Nat} {xs' : List Value} (h : Owns w W L (r :: Rs)) (ho : W'.ownsRow w.heap.size r.e r.k v' n' xs') (hg : W.grownBy W' r.v.ownBlock) (hat : v'.ownBlock = r.v.ownBlock ∨ v'.ownBlock = some W.heap.size) : Owns w W' L (⟨r.e, r.k, v', n', xs'⟩ :: Rs) := by
  have hh := (h.2.1 r (List.mem_cons_self ..))
  obtain ⟨hp1, hp2⟩ := List.pairwise_cons.1 h.2.2
  refine ⟨⟨h.1.1.grown hg h.1.1.size (fun j hj => (hh.1.lt j hj).1), fun b hb => (h.1.2 b hb).grown hg (fun e => hh.2 b hb e.symm)⟩, fun s hs => ?_, .cons (fun s hs j hj hj' => ?_) hp2⟩
  · rcases List.mem_cons.1 hs with rfl | hs
    · refine ⟨ho, fun b hb hv => ?_⟩
      rcases hat with e1 | e1
      · exact hh.2 b hb (e1 ▸ hv)
      · rw [e1] at hv; injection hv with hv
        have := (h.1.2 b hb).lt
        omega
    · have hS := h.2.1 s (List.mem_cons_of_mem _ hs)
      exact ⟨ownk_grown hS.1 hg (fun j hj e => hp1 s hs j e hj), hS.2⟩
  · rcases hat with e1 | e1
    · exact hp1 s hs j (e1 ▸ hj) hj'
    · rw [show v'.ownBlock = some W.heap.size from e1] at hj
      injection hj with hj
      have := ((h.2.1 s (List.mem_cons_of_mem _ hs)).1.lt j hj').2
      omega
theorem own_keep {B n k : Nat} {e : TypeId} {v : Value} {xs : List Value} (h : W.ownsRow B e k v n xs) (hk : ∀ j, v.ownBlock = some j → W'.heap[j]? = W.heap[j]?) : W'.ownsRow B e k v n xs := by
  refine ⟨h.1, ?_⟩
  rcases h.2 with ⟨rfl, rfl⟩ | ⟨b, cap, cur, rfl, h1, hh, hr⟩
  · exact .inl ⟨rfl, rfl⟩
  · exact .inr ⟨b, cap, cur, rfl, h1, (hk b rfl).trans hh, hr⟩
/-- A row whose block is left as it is. -/
theorem RowAt.stays {B n k c : Nat} {a : Option Addr} {xs : List Value} (h : RowAt W B a n k xs) (hk : ∀ j, (Value.slice a n c).ownBlock = some j → j < B → W'.heap[j]? = W.heap[j]?) : RowAt W' B a n k xs := by
  rcases h with ⟨hl, h | ⟨b, off, rfl, hb, hc⟩⟩
  · exact ⟨hl, .inl h⟩
  · exact ⟨hl, .inr ⟨b, off, rfl, hb, fun j u hu => (World.cell?_of_block (hk b rfl hb)).trans (hc j u hu)⟩⟩
/-- A box is written to. -/
theorem Owns.set {G : Nat} {cs : Array Value} {t : TypeId} (h : Owns w W ((G, cs, t) :: L) Rs) (hG : w.heap.size ≤ G) (hl : ∀ b ∈ L, b.1 ≠ G) (i : Nat) (u : Value) : Owns w (W.setCell ⟨G, i, Option.none⟩ u) ((G, cs.setIfInBounds i u, t) :: L) Rs := by
  refine ⟨⟨h.1.1.setCell hG _, fun b hb => ?_⟩, fun s hs => ⟨own_keep (h.2.1 s hs).1 fun j hj => Below.heap_setCell _ _ _ _ ?_, fun b hb => ?_⟩, h.2.2⟩
  · rcases List.mem_cons.1 hb with rfl | hb
    · exact (h.1.get 0 _ _ _ rfl).set i u
    · exact (h.1.2 b (List.mem_cons_of_mem _ hb)).far i u (hl b hb)
  · show j ≠ G
    rintro rfl
    exact (h.2.1 s hs).2 (j, cs, t) (List.mem_cons_self ..) hj
  · rcases List.mem_cons.1 hb with rfl | hb
    · exact (h.2.1 s hs).2 (G, cs, t) (List.mem_cons_self ..)
    · exact (h.2.1 s hs).2 b (List.mem_cons_of_mem _ hb)
/-- A box is made beside them. -/
theorem Owns.more (h : Owns w W L Rs) (cs : Array Value) (t : TypeId) : Owns w (W.alloc (.cells cs t)) ((W.heap.size, cs, t) :: L) Rs := by
  have h' := h.alloc (.cells cs t)
  refine ⟨h.1.more cs t, fun r hr => ⟨(h'.2.1 r hr).1, fun b hb hv => ?_⟩, h.2.2⟩
  rcases List.mem_cons.1 hb with rfl | hb
  · have := ((h.2.1 r hr).1.lt _ hv).2; simp at this
  · exact (h.2.1 r hr).2 b hb hv
theorem Owns.tail {b : Nat × Array Value × TypeId} (h : Owns w W (b :: L) Rs) : Owns w W L Rs := ⟨h.1.tail, fun r hr => ⟨(h.2.1 r hr).1, fun c hc => (h.2.1 r hr).2 c (List.mem_cons_of_mem _ hc)⟩, h.2.2⟩
end

end Go.Proofs.YtcfmifongbapkaaGreatDoor

/- ReadOwn -/
namespace Go.Proofs.YtcfmifongbapkaaGreatDoor

open Go.RowKit

/-- The reader, boxes and rows of the call's own; nothing else was changed. -/
def RdO (rd : World → Prop) (g : Nat) (w W : World) (bs : List (Nat × Array Value × TypeId)) (Rs : List Row1) : Prop :=
  (rd W ∧ Only g w W ∧ g < w.heap.size) ∧ (∀ b ∈ bs, w.heap.size ≤ b.1 ∧ BoxC W b.1 b.2.1 b.2.2) ∧ (∀ r ∈ Rs, W.ownsRow w.heap.size r.e r.k r.v r.n r.xs ∧ ∀ b ∈ bs, r.v.ownBlock ≠ some b.1) ∧ Rs.Pairwise Apart
theorem below_only {g : Nat} {W W' : World} (hb : Below W.heap.size W W') : Only g W W' := ⟨hb.os, hb.tape, hb.output, hb.size, fun _ h _ => hb.block _ h⟩
section

variable {rd rd' : World → Prop} {g : Nat} {w W W' : World} {bs : List (Nat × Array Value × TypeId)} {Rs : List Row1} {r : Row1} {G : Nat} {cs : Array Value} {t : TypeId}

theorem RdO.start (h : rd w) (hg : g < w.heap.size) : RdO rd g w w [] [] := ⟨⟨h, Only.refl _ _, hg⟩, (fun b hb => by cases hb), (fun r hr => by cases hr), .nil⟩
theorem RdO.rdr (h : RdO rd g w W bs Rs) : rd W := h.1.1
theorem RdO.onl (h : RdO rd g w W bs Rs) : Only g w W := h.1.2.1
theorem RdO.gt (h : RdO rd g w W bs Rs) : g < w.heap.size := h.1.2.2
theorem RdO.size (h : RdO rd g w W bs Rs) : w.heap.size ≤ W.heap.size := h.1.2.1.size
theorem RdO.get (h : RdO rd g w W bs Rs) (i : Nat) (G : Nat) (cs : Array Value) (t : TypeId) (hi : bs[i]? = some (G, cs, t)) : BoxC W G cs t := (h.2.1 _ (List.mem_of_getElem? hi)).2
theorem RdO.ge (h : RdO rd g w W bs Rs) (i : Nat) (G : Nat) (cs : Array Value) (t : TypeId) (hi : bs[i]? = some (G, cs, t)) : w.heap.size ≤ G := (h.2.1 _ (List.mem_of_getElem? hi)).1
theorem RdO.own (h : RdO rd g w W bs Rs) (i : Nat) (r : Row1) (hi : Rs[i]? = some r) : W.ownsRow w.heap.size r.e r.k r.v r.n r.xs := (h.2.2.1 r (List.mem_of_getElem? hi)).1
theorem RdO.head (h : RdO rd g w W bs (r :: Rs)) : W.ownsRow w.heap.size r.e r.k r.v r.n r.xs := (h.2.2.1 r (List.mem_cons_self ..)).1
/-- Something is done to the reader alone. -/
theorem RdO.only (h : RdO rd g w W bs Rs) (hr : rd' W') (ho : Only g W W') : RdO rd' g w W' bs Rs := by
  refine ⟨⟨hr, h.onl.trans ho, h.gt⟩, fun b hb => ⟨(h.2.1 b hb).1, (h.2.1 b hb).2.only ho (by have := (h.2.1 b hb).1; have := h.gt; omega)⟩, fun r hr => ⟨ownk_grown (h.2.2.1 r hr).1 ho (fun j hj e => ?_), (h.2.2.1 r hr).2⟩, h.2.2.2⟩
  injection e with e
  have h1 := ((h.2.2.1 r hr).1.lt j hj).1
  have h2 := h.gt
  omega
theorem RdO.below [Keep g rd] (h : RdO rd g w W bs Rs) (hb : Below W.heap.size W W') : RdO rd g w W' bs Rs :=
  h.only (Keep.keep (g := g) W W' h.rdr fun b hb' => hb.block b (by have h1 := h.gt; have h2 := h.size; omega)) (below_only hb)
theorem RdO.drew [Keep g rd] (h : RdO rd g w W bs Rs) : RdO rd g w W.drew bs Rs := h.below (below_drewN 1 (Below.refl _ _))
theorem RdO.alloc [Keep g rd] (h : RdO rd g w W bs Rs) (o : Obj) : RdO rd g w (W.alloc o) bs Rs := h.below ((Below.refl _ _).alloc (Nat.le_refl _) _)
/-- A box is made. -/
theorem RdO.more [Keep g rd] (h : RdO rd g w W bs Rs) (cs : Array Value) (t : TypeId) : RdO rd g w (W.alloc (.cells cs t)) ((W.heap.size, cs, t) :: bs) Rs := by
  have h' := h.alloc (.cells cs t)
  refine ⟨h'.1, fun b hb => ?_, fun r hr => ⟨(h'.2.2.1 r hr).1, fun b hb hv => ?_⟩, h'.2.2.2⟩
  · rcases List.mem_cons.1 hb with rfl | hb
    · exact ⟨h.size, BoxC.new W cs t⟩
    · exact h'.2.1 b hb
  · rcases List.mem_cons.1 hb with rfl | hb
    · have := ((h.2.2.1 r hr).1.lt _ hv).2; simp at this
    · exact (h.2.2.1 r hr).2 b hb hv
/-- A cell is written, elsewhere than the reader. -/
theorem RdO.out [Keep g rd] (h : RdO rd g w W bs Rs) (hG : w.heap.size ≤ G) (i : Nat) (u : Value) : rd (W.setCell ⟨G, i, none⟩ u) ∧ Only g w (W.setCell ⟨G, i, none⟩ u) := by
  have hg := h.gt
  have hb : ∀ b, b < w.heap.size → (W.setCell ⟨G, i, none⟩ u).heap[b]? = W.heap[b]? := fun b hb => Below.heap_setCell _ _ _ _ (by show b ≠ G; omega)
  exact ⟨Keep.keep (g := g) W _ h.rdr fun b hb' => hb b (by omega), ⟨h.onl.os, h.onl.tape, h.onl.output, by have := h.onl.size; simpa [World.setCell] using this, fun b hb' hne => (hb b hb').trans (h.onl.block b hb' hne)⟩⟩
/-- A box is written to. -/
theorem RdO.set [Keep g rd] (h : RdO rd g w W ((G, cs, t) :: bs) Rs) (hl : ∀ b ∈ bs, b.1 ≠ G) (i : Nat) (u : Value) : RdO rd g w (W.setCell ⟨G, i, none⟩ u) ((G, cs.setIfInBounds i u, t) :: bs) Rs := by
  have hG := h.2.1 (G, cs, t) (List.mem_cons_self ..)
  obtain ⟨h1, h2⟩ := h.out hG.1 i u
  refine ⟨⟨h1, h2, h.gt⟩, fun b hb => ?_, fun s hs => ⟨own_keep (h.2.2.1 s hs).1 fun j hj => Below.heap_setCell _ _ _ _ ?_, fun b hb => ?_⟩, h.2.2.2⟩
  · rcases List.mem_cons.1 hb with rfl | hb
    · exact ⟨hG.1, hG.2.set i u⟩
    · exact ⟨(h.2.1 b (List.mem_cons_of_mem _ hb)).1, (h.2.1 b (List.mem_cons_of_mem _ hb)).2.far i u (hl b hb)⟩
  · show j ≠ G
    rintro rfl
    exact (h.2.2.1 s hs).2 (j, cs, t) (List.mem_cons_self ..) hj
  · rcases List.mem_cons.1 hb with rfl | hb
    · exact (h.2.2.1 s hs).2 (G, cs, t) (List.mem_cons_self ..)
    · exact (h.2.2.1 s hs).2 b (List.mem_cons_of_mem _ hb)
theorem RdO.tail {b : Nat × Array Value × TypeId} (h : RdO rd g w W (b :: bs) Rs) : RdO rd g w W bs Rs := ⟨h.1, fun c hc => h.2.1 c (List.mem_cons_of_mem _ hc), fun r hr => ⟨(h.2.2.1 r hr).1, fun c hc => (h.2.2.1 r hr).2 c (List.mem_cons_of_mem _ hc)⟩, h.2.2.2⟩
/-- Two boxes change places. -/
theorem RdO.swap {a b : Nat × Array Value × TypeId} (h : RdO rd g w W (a :: b :: bs) Rs) : RdO rd g w W (b :: a :: bs) Rs := by
  have hm : ∀ c, c ∈ b :: a :: bs → c ∈ a :: b :: bs := fun c hc => by
    simp only [List.mem_cons] at hc ⊢
    rcases hc with h | h | h
    · exact .inr (.inl h)
    · exact .inl h
    · exact .inr (.inr h)
  exact ⟨h.1, fun c hc => h.2.1 c (hm c hc), fun r hr => ⟨(h.2.2.1 r hr).1, fun c hc => (h.2.2.1 r hr).2 c (hm c hc)⟩, h.2.2.2⟩
theorem RdO.none (h : RdO rd g w W bs Rs) (e : TypeId) (k : Nat) : RdO rd g w W bs (⟨e, k, .slice Option.none 0 0, 0, []⟩ :: Rs) := by
  refine ⟨h.1, h.2.1, fun r hr => ?_, .cons (fun s _ j hj => by cases hj) h.2.2.2⟩
  rcases List.mem_cons.1 hr with rfl | hr
  · exact ⟨World.ownsRow_nil _ _ _ _, fun _ _ hb => by cases hb⟩
  · exact h.2.2.1 r hr
theorem RdO.turn (h : RdO rd g w W bs (r :: Rs)) : RdO rd g w W bs (Rs ++ [r]) :=
  have hp := (List.perm_append_singleton r Rs).symm
  ⟨h.1, h.2.1, fun s hs => h.2.2.1 s (hp.mem_iff.2 hs), (hp.pairwise_iff (fun hxy => Apart.symm hxy)).1 h.2.2.2⟩
/-- The first row grows. -/
theorem RdO.grow [Keep g rd] {v' : Value} {n' : Nat} {xs' : List Value} (h : RdO rd g w W bs (r :: Rs)) (ho : W'.ownsRow w.heap.size r.e r.k v' n' xs') (hg : W.grownBy W' r.v.ownBlock) (hat : v'.ownBlock = r.v.ownBlock ∨ v'.ownBlock = some W.heap.size) : RdO rd g w W' bs (⟨r.e, r.k, v', n', xs'⟩ :: Rs) := by
  have hh := (h.2.2.1 r (List.mem_cons_self ..))
  obtain ⟨hp1, hp2⟩ := List.pairwise_cons.1 h.2.2.2
  have hgt := h.gt
  have hsz := h.size
  have hblk : ∀ b, b < w.heap.size → W'.heap[b]? = W.heap[b]? := fun b hb => hg.block b (by omega) (fun e => by have := (hh.1.lt b e.symm).1; omega)
  refine ⟨⟨Keep.keep (g := g) W W' h.rdr fun b hb => hblk b (by omega), ⟨hg.os.trans h.onl.os, hg.tape.trans h.onl.tape, hg.output.trans h.onl.output, Nat.le_trans h.onl.size hg.size, fun b hb hne => (hblk b hb).trans (h.onl.block b hb hne)⟩, h.gt⟩, fun b hb => ⟨(h.2.1 b hb).1, (h.2.1 b hb).2.grown hg (fun e => hh.2 b hb e.symm)⟩, fun s hs => ?_, .cons (fun s hs j hj hj' => ?_) hp2⟩
  · rcases List.mem_cons.1 hs with rfl | hs
    · refine ⟨ho, fun b hb hv => ?_⟩
      rcases hat with e1 | e1
      · exact hh.2 b hb (e1 ▸ hv)
      · rw [e1] at hv; injection hv with hv
        have := ((h.2.1 b hb).2).lt
        omega
    · have hS := h.2.2.1 s (List.mem_cons_of_mem _ hs)
      exact ⟨ownk_grown hS.1 hg (fun j hj e => hp1 s hs j e hj), hS.2⟩
  · rcases hat with e1 | e1
    · exact hp1 s hs j (e1 ▸ hj) hj'
    · rw [show v'.ownBlock = some W.heap.size from e1] at hj
      injection hj with hj
      have := ((h.2.2.1 s (List.mem_cons_of_mem _ hs)).1.lt j hj').2
      omega
/-- A row that a call has made. -/
theorem RdO.add {e : TypeId} {k : Nat} {v : Value} {n : Nat} {xs : List Value} (h : RdO rd g w W bs Rs) (hr : rd' W') (ho : Only g W W') (hrow : W'.ownsRow W.heap.size e k v n xs) : RdO rd' g w W' bs (⟨e, k, v, n, xs⟩ :: Rs) := by
  have h' := h.only hr ho
  have hsz := h.size
  refine ⟨h'.1, h'.2.1, fun s hs => ?_, .cons (fun s hs j hj hj' => ?_) h'.2.2.2⟩
  · rcases List.mem_cons.1 hs with rfl | hs
    · refine ⟨?_, fun b hb hv => ?_⟩
      · refine ⟨hrow.1, ?_⟩
        rcases hrow.2 with h0 | ⟨b, cap, cur, h1, h2, h3⟩
        · exact .inl h0
        · exact .inr ⟨b, cap, cur, h1, Nat.le_trans hsz h2, h3⟩
      · have h1 := (hrow.lt _ hv).1
        have h2 := ((h.2.1 b hb).2).lt
        omega
    · exact h'.2.2.1 s hs
  · have h1 := (hrow.lt j hj).1
    have h2 := ((h.2.2.1 s hs).1.lt j hj').2
    omega
end

section

variable {P : Program} (w : World)

/-- Append onto a row of the call's own, at a step of a region that draws its order. -/
theorem step_append_rowk {ops : Array Oper} {o : Oper} {a' : Act} {K : Act → World → Prop} {Q : Exit → Act → World → Prop} {E : Prop} (hgd : o.guard = none) (s x : Operand) (t : TypeId)
    (ho : o.op = .call { callee := .builtin .append, args := #[s, x], argTypes := #[t, t] })
    (base : Nat) (e : TypeId) (i : TypeInfo) (z : Value) (k bytes : Nat) (ht : P.underlying t = some (.slice e)) (hi : P.info? e = some i) (hz : i.zero = some z)
    (hsize : i.size = k) (hby : i.bytes = bytes) (hzs : z.cells.size = k) (hk : 0 < k) (v : Value) (n : Nat) (xs : List Value) (hs : a'.eval s = v) (hown : w.ownsRow base e k v n xs)
    (B : Nat) (a : Option Addr) (m c : Nat) (news : List Value) (hx : a'.eval x = .slice a m c) (hr : RowAt w B a m k news) (h1 : ∀ u ∈ news, u.oneCell' = true)
    (h63 : n + m ≤ maxLen) (hlen : (n + m) * bytes ≤ 140737488355328) (hbase : base ≤ w.heap.size)
    (h : ∀ v' w', w'.ownsRow base e k v' (n + m) (xs ++ news) → w.grownBy w' v.ownBlock → (v'.ownBlock = v.ownBlock ∨ v'.ownBlock = some w.heap.size) → K (a'.put o.dst v') w') :
    if Region.wanted o (yielded ops a'.tmps) = true then Oper.wp P o a' w K Q else E := by
  have hw : Region.wanted o (yielded ops a'.tmps) = true := by simp [Region.wanted, hgd]
  rw [if_pos hw]
  obtain ⟨v', w', hrun, h2, h3, h4⟩ := run_append_rowk (P := P) w base t o.type e i z k bytes ht hi hz hsize hby hzs hk v n xs hown B a m c news hr h1 h63 hlen hbase
  unfold Oper.wp execOp
  simp only [ho, resolve, invoke, builtin, Sem.run_bind, Sem.run_pure, Result.andThen_ok, List.map_toArray, List.map_cons, List.map_nil, hs, hx, hrun]
  exact h v' w' h2 h3 h4
end

end Go.Proofs.YtcfmifongbapkaaGreatDoor
