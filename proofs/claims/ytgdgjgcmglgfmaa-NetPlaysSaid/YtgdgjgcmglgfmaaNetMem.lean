/- Words for a net in memory: its map, its bags' rows, their packets. No condition. -/
import Derived.Test.YtgdgjgcmglgfmaaNetCalls
import Derived.Test.YtgdgjgcmglgfmaaNetBags
namespace Go.Proofs.Ytgdgjgcmglgfmaa

open Go.RowKit

open Go.ChangeMaps (setBlock)

set_option linter.unusedVariables false
set_option linter.unusedSimpArgs false

/-- A packet: a slice that reads as its bytes, in a block of bytes. -/
def PkAt (W : World) (v : Value) (l : Pk) : Prop := ∃ a m c, v = .slice a m c ∧ BAt W W.heap.size a m l ∧ ∀ b off, a = some ⟨b, off, none⟩ → 0 < m → ∃ cur fr, W.heap[b]? = some (.cells cur 5 fr)
def Pks (W : World) (xs : List Value) (ls : List Pk) : Prop := xs.length = ls.length ∧ ∀ i (h : i < ls.length), ∃ v, xs[i]? = some v ∧ PkAt W v ls[i]
/-- A bag: its link, its slice, how many, the slices of its packets, the packets. -/
structure Bg where
  k : Lk
  v : Value
  n : Nat
  xs : List Value
  ls : List Pk
structure RowP (W : World) (x : Bg) : Prop where
  own : W.ownsRow 0 32 1 x.v x.n x.xs
  pos : 0 < x.n
  pk : Pks W x.xs x.ls
def hdOf (gs : List Bg) : Hd := gs.map fun x => (x.k, x.v)
def bsOf (gs : List Bg) : Bags := gs.map fun x => (x.k, x.ls)
def ownN (g : Nat) (m : Option Nat) (gs : List Bg) : List Nat := g :: (m.toList ++ gs.filterMap (·.v.ownBlock))
structure NetIn (W : World) (g : Nat) (m : Option Nat) (gs : List Bg) : Prop where
  hd : Heads W g m (hdOf gs)
  rows : ∀ x ∈ gs, RowP W x
  apart : gs.Pairwise fun x y => x.v.ownBlock ≠ y.v.ownBlock
/-- A net that holds these bags, and which blocks are its own. -/
def NetC (W : World) (g : Nat) (bs : Bags) (own : List Nat) : Prop := ∃ m gs, NetIn W g m gs ∧ bs = bsOf gs ∧ own = ownN g m gs
/-- What blocks of bytes do. -/
def U8s (W W' : World) : Prop := ∀ (b : Nat) (cur : Array Value) (fr : Nat × Nat), W.heap[b]? = some (.cells cur 5 fr) → W'.heap[b]? = W.heap[b]?
section

variable {W W' W'' : World} {g : Nat} {m m' : Option Nat} {gs : List Bg} {x y : Bg} {own : List Nat}

theorem PkAt.moved {v : Value} {l : Pk} (h : PkAt W v l) (hu : U8s W W') (hs : W.heap.size ≤ W'.heap.size) : PkAt W' v l := by
  obtain ⟨a, n, c, rfl, hb, ht⟩ := h
  refine ⟨a, n, c, rfl, hb.moved hs fun b off ha hm _ => ?_, fun b off ha hm => ?_⟩
  · obtain ⟨cur, fr, h1⟩ := ht b off ha hm
    exact hu b cur fr h1
  · obtain ⟨cur, fr, h1⟩ := ht b off ha hm
    exact ⟨cur, fr, (hu b cur fr h1).trans h1⟩
theorem Pks.moved {xs : List Value} {ls : List Pk} (h : Pks W xs ls) (hu : U8s W W') (hs : W.heap.size ≤ W'.heap.size) : Pks W' xs ls := by
  refine ⟨h.1, fun i hi => ?_⟩
  obtain ⟨v, hv, hp⟩ := h.2 i hi
  exact ⟨v, hv, hp.moved hu hs⟩
theorem Pks.nil : Pks W [] [] := ⟨rfl, fun i hi => by cases hi⟩
theorem Pks.one {v : Value} {l : Pk} (h : PkAt W v l) : Pks W [v] [l] := ⟨rfl, fun i hi => by
  have h0 : i = 0 := by simp at hi; exact hi
  subst h0
  exact ⟨v, rfl, h⟩⟩
theorem Pks.app {xs ys : List Value} {ls ms : List Pk} (h : Pks W xs ls) (h' : Pks W ys ms) : Pks W (xs ++ ys) (ls ++ ms) := by
  refine ⟨by simp [h.1, h'.1], fun i hi => ?_⟩
  by_cases e : i < ls.length
  · obtain ⟨v, h1, h2⟩ := h.2 i e
    refine ⟨v, ?_, ?_⟩
    · rw [List.getElem?_append_left (by rw [h.1]; exact e)]; exact h1
    · rw [List.getElem_append_left e]; exact h2
  · have hi' : i - ls.length < ms.length := by simp at hi; omega
    obtain ⟨v, h1, h2⟩ := h'.2 _ hi'
    refine ⟨v, ?_, ?_⟩
    · rw [List.getElem?_append_right (by rw [h.1]; omega), h.1]; exact h1
    · rw [List.getElem_append_right (by omega)]; exact h2
theorem Pks.take {xs : List Value} {ls : List Pk} (h : Pks W xs ls) (k : Nat) : Pks W (xs.take k) (ls.take k) := by
  refine ⟨by simp [h.1], fun i hi => ?_⟩
  have hi' : i < ls.length := by simp at hi; omega
  have hk : i < k := by simp at hi; omega
  obtain ⟨v, h1, h2⟩ := h.2 i hi'
  exact ⟨v, by rw [List.getElem?_take_of_lt hk]; exact h1, by rw [List.getElem_take]; exact h2⟩
theorem Pks.drop {xs : List Value} {ls : List Pk} (h : Pks W xs ls) (k : Nat) : Pks W (xs.drop k) (ls.drop k) := by
  refine ⟨by simp [h.1], fun i hi => ?_⟩
  have hi' : k + i < ls.length := by simp at hi; omega
  obtain ⟨v, h1, h2⟩ := h.2 (k + i) hi'
  exact ⟨v, by rw [List.getElem?_drop]; exact h1, by rw [List.getElem_drop]; exact h2⟩
theorem Pks.cells {xs : List Value} {ls : List Pk} (h : Pks W xs ls) : ∀ u ∈ xs, u.oneCell' = true := by
  intro u hu
  obtain ⟨i, hi, rfl⟩ := List.getElem_of_mem hu
  obtain ⟨v, h1, a, n, c, rfl, _⟩ := h.2 i (by rw [← h.1]; exact hi)
  rw [List.getElem?_eq_getElem hi] at h1
  injection h1 with h1
  rw [h1]; rfl
theorem RowP.block (h : RowP W x) : ∃ j c cur, x.v = .slice (some ⟨j, 0, none⟩) x.n c ∧ W.heap[j]? = some (.cells cur 32 (0, 0)) := by
  rcases h.own.2 with ⟨_, h0⟩ | ⟨j, c, cur, hv, _, hh, _⟩
  · exact absurd h0 (by have := h.pos; omega)
  · exact ⟨j, c, cur, hv, hh⟩
theorem RowP.moved (h : RowP W x) (hu : U8s W W') (hs : W.heap.size ≤ W'.heap.size) (hk : ∀ j, x.v.ownBlock = some j → W'.heap[j]? = W.heap[j]?) : RowP W' x := by
  refine ⟨⟨h.own.1, ?_⟩, h.pos, h.pk.moved hu hs⟩
  rcases h.own.2 with h1 | ⟨j, c, cur, hv, hb, hh, hr⟩
  · exact .inl h1
  · exact .inr ⟨j, c, cur, hv, hb, (hk j (by rw [hv]; rfl)).trans hh, hr⟩
theorem RowP.len (h : RowP W x) : x.ls.length = x.n := by rw [← h.pk.1, h.own.1, Nat.mul_one]
theorem NetIn.nodup (h : NetIn W g m gs) : ((bsOf gs).map (·.1)).Nodup := by
  have e : (bsOf gs).map (·.1) = (hdOf gs).map (·.1) := by simp [bsOf, hdOf, List.map_map, Function.comp_def]
  rw [e]
  have h1 := h.hd.2
  cases m with
  | none => rw [show hdOf gs = [] from h1]; exact .nil
  | some b => exact h1.2.nodup
theorem NetIn.good (h : NetIn W g m gs) : Good (bsOf gs) := by
  refine ⟨h.nodup, fun y hy => ?_⟩
  obtain ⟨x, hx, rfl⟩ := List.mem_map.1 hy
  have h1 := (h.rows x hx).len
  have h2 := (h.rows x hx).pos
  intro e
  simp only at e
  rw [e] at h1
  simp at h1
  omega
theorem NetC.good {bs : Bags} (h : NetC W g bs own) : Good bs := by
  obtain ⟨m, gs, hn, rfl, _⟩ := h
  exact hn.good
/-- The net's own blocks hold no bytes. -/
theorem NetIn.apart8 (h : NetIn W g m gs) {b : Nat} {cur : Array Value} {fr : Nat × Nat} (hb : W.heap[b]? = some (.cells cur 5 fr)) : b ∉ ownN g m gs := by
  intro hm
  unfold ownN at hm
  rcases List.mem_cons.1 hm with e0 | hm
  · rw [e0, h.hd.1] at hb
    injection hb with hb
    injection hb with _ hb2 _
    exact absurd hb2 (by decide)
  · rcases List.mem_append.1 hm with hm | hm
    · cases m with
      | none => cases hm
      | some j =>
        simp at hm; subst hm
        obtain ⟨_, es, c, h1, _⟩ := h.hd.2
        rw [h1] at hb; cases hb
    · obtain ⟨x, hx, hv⟩ := List.mem_filterMap.1 hm
      obtain ⟨j, c, cu, e1, e2⟩ := (h.rows x hx).block
      rw [e1] at hv; injection hv with hv
      have e3 : j = b := hv
      rw [← e3, e2] at hb
      injection hb with hb
      injection hb with _ hb2 _
      exact absurd hb2 (by decide)
theorem NetIn.u8s (h : NetIn W g m gs) (hf : Fr W W' (ownN g m gs)) : U8s W W' := fun b cur fr hb => hf.block b (lt_of_heap hb) (h.apart8 hb)
theorem NetC.u8s {bs : Bags} (h : NetC W g bs own) (hf : Fr W W' own) : U8s W W' := by
  obtain ⟨m, gs, hn, _, rfl⟩ := h
  exact hn.u8s hf
theorem NetIn.lt (h : NetIn W g m gs) : ∀ i ∈ ownN g m gs, i < W.heap.size := by
  intro i hm
  unfold ownN at hm
  rcases List.mem_cons.1 hm with rfl | hm
  · exact lt_of_heap h.hd.1
  · rcases List.mem_append.1 hm with hm | hm
    · cases m with
      | none => cases hm
      | some j =>
        simp at hm; subst hm
        obtain ⟨_, es, c, h1, _⟩ := h.hd.2
        exact lt_of_heap h1
    · obtain ⟨x, hx, hv⟩ := List.mem_filterMap.1 hm
      obtain ⟨j, c, cu, e1, e2⟩ := (h.rows x hx).block
      rw [e1] at hv; injection hv with hv; subst hv
      exact lt_of_heap e2
theorem NetC.lt {bs : Bags} (h : NetC W g bs own) : ∀ i ∈ own, i < W.heap.size := by
  obtain ⟨m, gs, hn, _, rfl⟩ := h
  exact hn.lt
/-- A net that is left alone. -/
theorem NetIn.moved (h : NetIn W g m gs) (hs : W.heap.size ≤ W'.heap.size) (hu : U8s W W') (hk : ∀ i ∈ ownN g m gs, W'.heap[i]? = W.heap[i]?) : NetIn W' g m gs := by
  refine ⟨h.hd.moved fun i hi hm => ?_, fun x hx => (h.rows x hx).moved hu hs fun j hj => ?_, h.apart⟩
  · refine hk i ?_
    unfold ownN
    rcases hm with rfl | rfl
    · exact List.mem_cons_self ..
    · exact List.mem_cons_of_mem _ (List.mem_append_left _ (by simp))
  · exact hk j (List.mem_cons_of_mem _ (List.mem_append_right _ (List.mem_filterMap.2 ⟨x, hx, hj⟩)))
theorem NetC.moved {bs : Bags} (h : NetC W g bs own) (hs : W.heap.size ≤ W'.heap.size) (hu : U8s W W') (hk : ∀ i ∈ own, W'.heap[i]? = W.heap[i]?) : NetC W' g bs own := by
  obtain ⟨m, gs, hn, e1, rfl⟩ := h
  exact ⟨m, gs, hn.moved hs hu hk, e1, rfl⟩
theorem u8s_below (hb : Below W.heap.size W W') : U8s W W' := fun b cur fr h => hb.block b (lt_of_heap h)
theorem NetC.below {bs : Bags} (h : NetC W g bs own) (hb : Below W.heap.size W W') : NetC W' g bs own :=
  h.moved hb.size (u8s_below hb) fun i hi => hb.block i (h.lt i hi)
theorem Fr.trans {own' : List Nat} (h : Fr W W' own) (h' : Fr W' W'' own') (ho : ∀ i ∈ own', i ∈ own ∨ W.heap.size ≤ i) : Fr W W'' own :=
  ⟨h'.os.trans h.os, h'.tape.trans h.tape, h'.output.trans h.output, Nat.le_trans h.size h'.size, fun i hi hn => (h'.block i (Nat.lt_of_lt_of_le hi h.size) (fun e => by
    rcases ho i e with h1 | h1
    · exact hn h1
    · omega)).trans (h.block i hi hn)⟩
theorem Fr.below {B : Nat} {w0 : World} (hb : Below B w0 W) (h : Fr W W' own) (hB : B ≤ W.heap.size) (ho : ∀ i ∈ own, B ≤ i) : Below B w0 W' :=
  ⟨h.os.trans hb.os, h.tape.trans hb.tape, h.output.trans hb.output, Nat.le_trans hb.size h.size, fun i hi => (h.block i (by omega) (fun e => by have := ho i e; omega)).trans (hb.block i hi)⟩
end

end Go.Proofs.Ytgdgjgcmglgfmaa
