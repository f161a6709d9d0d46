/- Contract of slices.Delete of one element, at rows of slices of bytes. Conditions: the row lies in memory, the element is there. -/
import Derived.Test.YtgdgjgcmglgfmaaOwnRows
import Derived.Deep.RegionLaw
import Derived.Lib.SliceRun
namespace Go.Proofs.Ytgdgjgcmglgfmaa

open Go.RowKit

set_option linter.unusedVariables false
set_option linter.unusedSimpArgs false

section

variable {w : World} {b : Nat} {cur : Array Value} {t : TypeId}

theorem setCells_row : ∀ (vs : List Value) (o : Nat) (w : World) (cur : Array Value), w.heap[b]? = some (.cells cur t (0, 0)) → o + vs.length ≤ cur.size →
    (w.setCells b o vs).heap[b]? = some (.cells (cur.toList.take o ++ vs ++ cur.toList.drop (o + vs.length)).toArray t (0, 0))
  | [], o, w, cur, h, _ => by
    rw [World.setCells, h]
    congr 2
    apply Array.ext'
    simp
  | v :: r, o, w, cur, h, hl => by
    have hl' : o < cur.size := by simp at hl; omega
    have h1 := setCells_row r (o + 1) (w.setCell ⟨b, o, none⟩ v) (cur.setIfInBounds o v) (set_row h o v) (by simp at hl ⊢; omega)
    rw [World.setCells, h1]
    congr 2
    apply Array.ext'
    rw [Array.toList_setIfInBounds]
    simp only [List.length_cons]
    have e1 : (cur.toList.set o v).take (o + 1) = cur.toList.take o ++ [v] := by
      rw [List.take_add_one, List.take_set_of_le (Nat.le_refl _)]
      congr 1
      rw [List.getElem?_set_self (by simpa using hl')]; rfl
    have e2 : (cur.toList.set o v).drop (o + 1 + r.length) = cur.toList.drop (o + (r.length + 1)) := by
      rw [List.drop_set_of_lt (by omega)]
      congr 1; omega
    rw [e1, e2]
    simp
theorem setCells_grown (vs : List Value) (o : Nat) (w : World) (b : Nat) : w.grownBy (w.setCells b o vs) (some b) ∧ (w.setCells b o vs).heap.size = w.heap.size := by
  induction vs generalizing o w with
  | nil => exact ⟨World.grownBy.refl _ _, rfl⟩
  | cons v r ih =>
    obtain ⟨h1, h2⟩ := ih (o + 1) (w.setCell ⟨b, o, none⟩ v)
    have h0 : w.grownBy (w.setCell ⟨b, o, none⟩ v) (some b) := ⟨rfl, rfl, rfl, by simp [World.setCell], fun i hi hne => Below.heap_setCell _ _ _ _ (fun e => hne (by rw [e]))⟩
    exact ⟨h0.trans h1, h2.trans (by simp [World.setCell])⟩
theorem own_setCells {base n cap : Nat} {xs vs : List Value} (h : w.ownsRow base t 1 (.slice (some ⟨b, 0, none⟩) n cap) n xs) (o : Nat) (hl : o + vs.length ≤ n) :
    (w.setCells b o vs).ownsRow base t 1 (.slice (some ⟨b, 0, none⟩) n cap) n (xs.take o ++ vs ++ xs.drop (o + vs.length)) := by
  have hx := h.1
  refine ⟨by simp; omega, ?_⟩
  rcases h.2 with ⟨h1, _⟩ | ⟨g', cap', cur, hv, hb, hh, hnc, hcm, hsz, htk⟩
  · cases h1
  · injection hv with hv1 _ hv3
    injection hv1 with hv1
    injection hv1 with hv1
    subst hv1; subst hv3
    refine .inr ⟨b, cap, _, rfl, hb, setCells_row vs o w cur hh (by omega), hnc, hcm, ?_, ?_⟩
    · have := Array.length_toList (xs := cur)
      simp; omega
    · rw [Nat.mul_one] at htk ⊢
      have hlc : cur.toList.length = cap := by simp; omega
      subst htk
      simp only [List.take_take, List.drop_take]
      rw [List.take_append, List.take_append]
      simp only [List.length_append, List.length_take, List.take_take]
      have e1 : min o cur.toList.length = o := by omega
      rw [e1, Nat.min_eq_left (show o ≤ n by omega)]
      rw [show min n o = o from by omega]
      rw [List.take_of_length_le (show vs.length ≤ n - o by omega)]
theorem own_shrink {base n k cap : Nat} {p : Option Addr} {xs : List Value} (h : w.ownsRow base t 1 (.slice p n cap) n xs) (hk : k ≤ n) (hn : 0 < n) : w.ownsRow base t 1 (.slice p k cap) k (xs.take k) := by
  have hx := h.1
  refine ⟨by simp; omega, ?_⟩
  rcases h.2 with ⟨_, h1⟩ | ⟨g', cap', cur, hv, hb, hh, hnc, hcm, hsz, htk⟩
  · omega
  · injection hv with hv1 _ hv3
    subst hv1; subst hv3
    refine .inr ⟨g', cap, cur, rfl, hb, hh, by omega, hcm, hsz, ?_⟩
    rw [← htk, List.take_take]
    congr 1; omega
theorem own_at_cell {base n cap : Nat} {xs : List Value} (h : w.ownsRow base t 1 (.slice (some ⟨b, 0, none⟩) n cap) n xs) {i : Nat} {u : Value} (hi : xs[i]? = some u) : w.cell? ⟨b, i, none⟩ = some u := by
  have := h.cells (g := b) rfl i u hi
  rwa [add_plain, Nat.zero_add] at this
end

set_option maxHeartbeats 4000000 in
set_option maxRecDepth 1000000 in
theorem delete_any (base b n cap i j : Nat) (xs : List Value) (w : World) (h : w.ownsRow base 32 1 (.slice (some ⟨b, 0, none⟩) n cap) n xs) (hone : ∀ u ∈ xs, u.oneCell' = true) (hi : i < n) (hj : j = i + 1) :
    Calls Try.prog 37 #[.slice (some ⟨b, 0, none⟩) n cap, .int .i64 (i : Nat), .int .i64 (j : Nat)] w fun e w' => e = .returned (.slice (some ⟨b, 0, none⟩) (n - 1) cap) ∧ w'.ownsRow base 32 1 (.slice (some ⟨b, 0, none⟩) (n - 1) cap) (n - 1) (xs.eraseIdx i) ∧ w.grownBy w' (some b) := by
  obtain ⟨i0, hi0, hz0, hz1, hz2⟩ := info_parts Try.info32
  have hx : xs.length = n := by have := h.1; omega
  obtain ⟨hnc, hcm⟩ := own_caps h
  obtain ⟨g', hg', _, hlt, hsome, hfz⟩ := own_addr h (by omega)
  injection hg' with hg'; injection hg' with hg'; subst hg'
  have hcm' : cap ≤ 9223372036854775807 := hcm
  obtain ⟨news, hnews⟩ : ∃ news, news = xs.drop j := ⟨_, rfl⟩
  have hlen : news.length = n - j := by rw [hnews]; simp; omega
  obtain ⟨A, hA, hsrc⟩ : ∃ A : Addr, (if cap = j then some (⟨b, 0, none⟩ : Addr) else some ⟨b, j, none⟩) = some A ∧ Hid (∀ t u, news[t]? = some u → w.drew.cell? (A.add t) = some u) := by
    by_cases hq : cap = j
    · refine ⟨⟨b, 0, none⟩, by simp [hq], fun t u hu => ?_⟩
      have h0 : news.length = 0 := by rw [hlen]; omega
      rw [List.length_eq_zero_iff.1 h0] at hu
      simp at hu
    · refine ⟨⟨b, j, none⟩, by simp [hq], fun t u hu => ?_⟩
      rw [hnews, List.getElem?_drop] at hu
      rw [add_plain]
      exact own_at_cell h hu
  have s1 : Hid (news.length = (n - j) * 1) := by rw [Nat.mul_one]; exact hlen
  have s2 : Hid (∀ u ∈ news, u.oneCell' = true) := fun u hu => hone u (by rw [hnews] at hu; exact List.mem_of_mem_drop hu)
  have s3 : Hid (∀ t, t < news.length → (w.drew.cell? ⟨b, 0 + i * 1 + t, none⟩).isSome = true ∧ w.drew.frozen? ⟨b, 0 + i * 1 + t, none⟩ = false) := by
    intro t ht
    rw [hlen] at ht
    have hit : i + t < xs.length := by omega
    rw [Nat.mul_one, Nat.zero_add]
    exact ⟨by show (w.cell? _).isSome = true; rw [own_at_cell h (List.getElem?_eq_getElem hit)]; rfl, hfz _⟩
  obtain ⟨W1, hW1⟩ : ∃ W1, W1 = w.drew.setCells b (0 + i * 1) news := ⟨_, rfl⟩
  have hd : w.drew.ownsRow base 32 1 (.slice (some ⟨b, 0, none⟩) n cap) n xs := h
  have hO1 : W1.ownsRow base 32 1 (.slice (some ⟨b, 0, none⟩) n cap) n (xs.take i ++ news ++ xs.drop (n - 1)) := by
    have := own_setCells (vs := news) hd i (by omega)
    rw [hW1, Nat.mul_one, Nat.zero_add]
    rw [show i + news.length = n - 1 from by omega] at this
    exact this
  have hg1 : w.grownBy W1 (some b) := by
    rw [hW1]
    exact World.grownBy.trans (⟨rfl, rfl, rfl, Nat.le_refl _, fun _ _ _ => rfl⟩ : w.grownBy w.drew (some b)) (setCells_grown news (0 + i * 1) w.drew b).1
  obtain ⟨_, hg2', _, hlt1, _, hfz1⟩ := own_addr hO1 (by omega)
  injection hg2' with hg2'; injection hg2' with hg2'; subst hg2'
  have hl1 : n - 1 < (xs.take i ++ news ++ xs.drop (n - 1)).length := by simp; omega
  have hcl : ∀ ty, (Builtin.clear_ #[44] ty #[.slice (some ⟨b, i + (n - j), none⟩) (n - (i + (n - j))) (cap - (i + (n - j)))]).run Try.prog W1 = .ok (.tuple #[]) (W1.setCells b (i + (n - j)) (List.replicate (n - (i + (n - j))) (.slice none 0 0))) :=
    fun ty => Lib.run_clear_slice W1 _ _ ty _ Try.underlying44 Try.zeroValue32 rfl rfl b (i + (n - j)) _ _ (by omega)
      (fun t ht => by rw [show i + (n - j) + t = n - 1 by omega, own_at_cell hO1 (List.getElem?_eq_getElem hl1)]; rfl) (fun t ht => hfz1 _)
  have hW : Hid (W1 = w.drew.setCells b (0 + i * 1) news) := hW1
  have O1 := Lib.hid hO1
  have G1 := Lib.hid hg1
  have hic : i ≤ cap := by omega
  have hjc : j ≤ cap := by omega
  have hjn : j ≤ n := by omega
  have hij : i < j := by omega
  have JJ := Lib.hid hj
  clear hW1 hO1 hg1 hd h hone hj
  go_enter Try.func37, Try.ntmps37
  go_wp2_with fail
  go_region_law (refine step_append_room rfl (.tmp 22) (.tmp 25) 44 rfl 32 i0 1 Try.underlying44 hi0 hz1 b 0 i cap (by simp [Act.eval, Act.put]) A (n - j) (cap - j) news (by simp [Act.eval, Act.put]) s1.out hsrc.out s2.out (by omega) s3.out ?_; rw [← hW.out])
  go_wp2
  go_ret
  have hj := JJ.out
  have hk : i + (n - j) = n - 1 := by omega
  have O2 := own_setCells (vs := List.replicate (n - (i + (n - j))) (Value.slice none 0 0)) O1.out (i + (n - j)) (by simp; omega)
  have O3 := own_shrink (k := n - 1) O2 (by omega) (by omega)
  refine ⟨by rw [← hk]; rfl, ?_, G1.out.trans (setCells_grown _ _ _ _).1⟩
  have e : ((((xs.take i ++ news ++ xs.drop (n - 1)).take (i + (n - j)) ++ List.replicate (n - (i + (n - j))) (Value.slice none 0 0)) ++ (xs.take i ++ news ++ xs.drop (n - 1)).drop (i + (n - j) + (List.replicate (n - (i + (n - j))) (Value.slice none 0 0)).length)).take (n - 1)) = xs.eraseIdx i := by
    have l1 : (xs.take i ++ news).length = n - 1 := by simp; omega
    rw [hk, List.take_append_of_le_length (l₁ := xs.take i ++ news) (by omega), List.take_of_length_le (l := xs.take i ++ news) (by omega), List.append_assoc, List.take_append_of_le_length (by omega), List.take_of_length_le (by omega), hnews, hj, List.eraseIdx_eq_take_drop_succ]
  rw [e] at O3
  exact O3
end Go.Proofs.Ytgdgjgcmglgfmaa
