/- Two rows of texts that are made side by side, beside boxes; keys turned round. No condition. -/
import Derived.Test.YtnplheagemglnaaConfigRefGroups

namespace Go.Proofs.Ytnplheagemglnaa

open Go.RowKit

/-- The keys turned round by y: the first k of them. -/
def turnK (Ks : List ByteArray) (y k : Nat) : List ByteArray := (List.range k).map fun i => Ks[(i + y) % Ks.length]?.getD ⟨#[]⟩
theorem turnK_len (Ks : List ByteArray) (y k : Nat) : (turnK Ks y k).length = k := by simp [turnK]
theorem turnK_snoc (Ks : List ByteArray) (y k : Nat) (h : (k + y) % Ks.length < Ks.length) : turnK Ks y (k + 1) = turnK Ks y k ++ [Ks[(k + y) % Ks.length]] := by
  unfold turnK
  rw [List.range_succ, List.map_append, List.map_singleton, List.getElem?_eq_getElem h]; rfl
theorem turn_back (p y i : Nat) (hi : i < p) : ((i + (p - y % p)) % p + y) % p = i := by
  have h1 : y % p < p := Nat.mod_lt _ (by omega)
  have h2 := Nat.div_add_mod y p
  rw [Nat.mod_add_mod]
  have h3 : i + (p - y % p) + y = i + p * (y / p + 1) := by rw [Nat.mul_add]; omega
  rw [h3, Nat.add_mul_mod_self_left, Nat.mod_eq_of_lt hi]
theorem turnK_mem (Ks : List ByteArray) (y : Nat) (x : ByteArray) : x ∈ turnK Ks y Ks.length ↔ x ∈ Ks := by
  unfold turnK
  rw [List.mem_map]
  constructor
  · rintro ⟨i, hi, rfl⟩
    have hp : 0 < Ks.length := by have := List.mem_range.1 hi; omega
    rw [List.getElem?_eq_getElem (Nat.mod_lt _ hp)]
    exact List.getElem_mem _
  · intro hx
    obtain ⟨i, hi, rfl⟩ := List.getElem_of_mem hx
    refine ⟨(i + (Ks.length - y % Ks.length)) % Ks.length, List.mem_range.2 (Nat.mod_lt _ (by omega)), ?_⟩
    rw [turn_back _ _ _ hi, List.getElem?_eq_getElem hi]; rfl
theorem homes_mem (L : List (List UInt8)) (Ks : List ByteArray) (g : Nat) : g ∈ homesL L Ks ↔ ∃ x ∈ Ks, homeC L x.data.toList = g := by
  unfold homesL txt
  simp
/-- Keys that are the same ones have the same groups. -/
theorem groups_same {R : List Int} {L : List (List UInt8)} (h : formedC R L = true) (Ks Ms : List ByteArray) (hm : ∀ x, x ∈ Ms ↔ x ∈ Ks) : groupsI R L (txt Ms) = groupsC 4 (homesL L Ks) := by
  have h4 : groupsC 4 (homesL L Ks) = groupsC R.length (homesL L Ks) := groups_four R L (txt Ks) (formed_yes h)
  rw [groups_yes h Ms, h4]
  refine groupsC_congr _ fun g => ?_
  rw [homes_mem, homes_mem]
  constructor
  · rintro ⟨x, hx, e⟩; exact ⟨x, (hm x).1 hx, e⟩
  · rintro ⟨x, hx, e⟩; exact ⟨x, (hm x).2 hx, e⟩

/-- Boxes below B, and two rows of texts from B on. -/
structure Twos (w : World) (B : Nat) (W : World) (v u : Value) (l m : List ByteArray) (bx : List (Nat × Array Value × TypeId)) : Prop where
  boxs : Boxs w W bx
  low : ∀ b ∈ bx, b.1 < B
  base : w.heap.size ≤ B
  size : B ≤ W.heap.size
  ownV : W.ownsRow B 9 1 v l.length (l.map Value.string)
  ownU : W.ownsRow B 9 1 u m.length (m.map Value.string)
  ne : ∀ j, v.ownBlock = some j → u.ownBlock ≠ some j
section

variable {w W W' : World} {B : Nat} {v u v' u' : Value} {l m y : List ByteArray} {bx : List (Nat × Array Value × TypeId)}

theorem Twos.below (h : Twos w B W v u l m bx) (hb : Below W.heap.size W W') : Twos w B W' v u l m bx :=
  ⟨h.boxs.below hb, h.low, h.base, Nat.le_trans h.size hb.size, ownk_below h.ownV hb, ownk_below h.ownU hb, h.ne⟩
theorem Twos.alloc (h : Twos w B W v u l m bx) (o : Obj) : Twos w B (W.alloc o) v u l m bx := h.below ((Below.refl _ _).alloc (Nat.le_refl _) o)
theorem Twos.drewN (h : Twos w B W v u l m bx) (q : Nat) : Twos w B (W.drewN q) v u l m bx := h.below (below_drewN q (Below.refl _ _))
theorem Twos.drew (h : Twos w B W v u l m bx) : Twos w B W.drew v u l m bx := h.drewN 1
theorem Twos.grown (h : Twos w B W v u l m bx) {g : Option Nat} (hg : W.grownBy W' g) (hB : ∀ j, g = some j → B ≤ j) : Boxs w W' bx ∧ B ≤ W'.heap.size := by
  refine ⟨⟨h.boxs.bel.grown hg h.boxs.bel.size (fun j hj => Nat.le_trans h.base (hB j hj)), fun b hb => (h.boxs.2 b hb).grown hg ?_⟩, Nat.le_trans h.size hg.size⟩
  intro e
  have h1 := hB _ e.symm
  have h2 := h.low b hb
  omega
theorem Twos.pushV (h : Twos w B W v u l m bx) (ho : W'.ownsRow B 9 1 v' (l.length + y.length) (l.map Value.string ++ y.map Value.string)) (hg : W.grownBy W' v.ownBlock) (hat : v'.ownBlock = v.ownBlock ∨ v'.ownBlock = some W.heap.size) : Twos w B W' v' u (l ++ y) m bx := by
  obtain ⟨h1, h2⟩ := h.grown hg (fun k hk => (h.ownV.lt k hk).1)
  refine ⟨h1, h.low, h.base, h2, by rw [List.length_append, List.map_append]; exact ho, ownk_grown h.ownU hg (fun j hj e => h.ne j e hj), fun j hj e => ?_⟩
  rcases hat with e1 | e1
  · exact h.ne j (e1 ▸ hj) e
  · rw [e1] at hj; injection hj with hj
    have := (h.ownU.lt j e).2
    omega
theorem Twos.pushU (h : Twos w B W v u l m bx) (ho : W'.ownsRow B 9 1 u' (m.length + y.length) (m.map Value.string ++ y.map Value.string)) (hg : W.grownBy W' u.ownBlock) (hat : u'.ownBlock = u.ownBlock ∨ u'.ownBlock = some W.heap.size) : Twos w B W' v u' l (m ++ y) bx := by
  obtain ⟨h1, h2⟩ := h.grown hg (fun k hk => (h.ownU.lt k hk).1)
  refine ⟨h1, h.low, h.base, h2, ownk_grown h.ownV hg (fun j hj e => h.ne j hj e), by rw [List.length_append, List.map_append]; exact ho, fun j hj e => ?_⟩
  rcases hat with e1 | e1
  · exact h.ne j hj (e1 ▸ e)
  · rw [e1] at e; injection e with e
    have := (h.ownV.lt j hj).2
    omega
theorem ownk_set {k n e g i : Nat} {x : Value} {xs : List Value} (h : W.ownsRow B e k v n xs) (hg : g < B) : (W.setCell ⟨g, i, none⟩ x).ownsRow B e k v n xs := by
  refine ⟨h.1, ?_⟩
  rcases h.2 with ⟨rfl, rfl⟩ | ⟨b, cap, cur, rfl, h1, hh, hr⟩
  · exact .inl ⟨rfl, rfl⟩
  · refine .inr ⟨b, cap, cur, rfl, h1, ?_, hr⟩
    rw [Below.heap_setCell _ _ _ _ (show b ≠ (⟨g, i, none⟩ : Addr).block by simp; omega)]; exact hh
theorem Twos.set {g : Nat} {cs : Array Value} {t : TypeId} (h : Twos w B W v u l m ((g, cs, t) :: bx)) (i : Nat) (x : Value) (hg : w.heap.size ≤ g) (hl : ∀ b ∈ bx, b.1 ≠ g) : Twos w B (W.setCell ⟨g, i, none⟩ x) v u l m ((g, cs.setIfInBounds i x, t) :: bx) := by
  have hgB : g < B := h.low (g, cs, t) (by simp)
  refine ⟨h.boxs.set1 i x hg hl, fun b hb => ?_, h.base, ?_, ownk_set h.ownV hgB, ownk_set h.ownU hgB, h.ne⟩
  · rcases List.mem_cons.1 hb with rfl | hb
    · exact hgB
    · exact h.low b (List.mem_cons_of_mem _ hb)
  · have := h.size; simpa using this
/-- One text just laid down. -/
theorem RowAt.oneS (W : World) (s : ByteArray) (t : TypeId) : RowAt (W.alloc (.cells #[.string s] t)) (W.heap.size + 1) (some ⟨W.heap.size, 0, none⟩) 1 1 ([s].map Value.string) := RowAt.one W #[.string s] t
end

end Go.Proofs.Ytnplheagemglnaa
