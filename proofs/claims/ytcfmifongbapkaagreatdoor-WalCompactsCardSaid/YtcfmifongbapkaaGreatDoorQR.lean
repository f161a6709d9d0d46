/- What came in, opened: lists of integers and of texts, also as fields of a struct. No condition. Contracts of config's own small functions: sizes, keys, order, counts and sums. Conditions: the lists lie in memory. Contracts of txn's readKeys, writeKeys, risingKeys and formedValues. Conditions: the lists lie in memory, and are no longer than a million. Contract of txn.Formed. Conditions: the lists lie in memory, and are no longer than a million; the tables of utf8 lie there. -/
import Derived.Test.YtcfmifongbapkaaGreatDoorQQ
import Derived.Test.YtcfmifongbapkaaGreatDoorQF
import Derived.Deep.Slices
import Derived.Test.YtcfmifongbapkaaGreatDoorQE
import Derived.Tactics2
import Derived.Deep.DeepCutAuto
import Derived.Deep.QuietTactic
import Derived.BigQuiet
import Derived.WalkLawsBesides
import Derived.OwnWalk
import Derived.WalkSpells
import Derived.Test.YtcfmifongbapkaaGreatDoorQP
import Derived.Test.YtcfmifongbapkaaGreatDoorQH
/- OpenLists -/
namespace Go.Proofs.YtcfmifongbapkaaGreatDoor

open Go.ChangeShapes Go.WideShapes Go.ChangeAt Go.RowKit

/-- A slice of integers, of texts, reads as the list l. -/
def IntsAt (w : World) (B : Nat) (a : Option Addr) (n : Nat) (l : List Int) : Prop := l.length = n ∧ RowAt w B a n 1 (l.map (Value.int .i64))
def StrsAt (w : World) (B : Nat) (a : Option Addr) (n : Nat) (l : List ByteArray) : Prop := l.length = n ∧ RowAt w B a n 1 (l.map Value.string)
section

variable {w w' : World} {B B' n : Nat} {a : Option Addr}

theorem IntsAt.below {l : List Int} {C : Nat} (h : IntsAt w B a n l) (hb : Below C w w') (hC : B ≤ C) : IntsAt w' B a n l := ⟨h.1, h.2.below hb hC⟩
theorem StrsAt.below {l : List ByteArray} {C : Nat} (h : StrsAt w B a n l) (hb : Below C w w') (hC : B ≤ C) : StrsAt w' B a n l := ⟨h.1, h.2.below hb hC⟩
theorem IntsAt.more {l : List Int} (h : IntsAt w B a n l) (hB : B ≤ B') : IntsAt w B' a n l := ⟨h.1, h.2.more hB⟩
theorem StrsAt.more {l : List ByteArray} (h : StrsAt w B a n l) (hB : B ≤ B') : StrsAt w B' a n l := ⟨h.1, h.2.more hB⟩
theorem IntsAt.drewN {l : List Int} (h : IntsAt w B a n l) (q : Nat) : IntsAt (w.drewN q) B a n l := h
theorem StrsAt.drewN {l : List ByteArray} (h : StrsAt w B a n l) (q : Nat) : StrsAt (w.drewN q) B a n l := h
theorem IntsAt.at_ {l : List Int} (h : IntsAt w B a n l) {i : Nat} (hi : i < l.length) : ∃ b off, a = some ⟨b, off, none⟩ ∧ b < B ∧ w.cell? ⟨b, off + i, none⟩ = some (.int .i64 l[i]) := by
  obtain ⟨b, off, ha, hb, hc⟩ := h.2.addr (by have := h.1; omega)
  exact ⟨b, off, ha, hb, hc i _ (by simp [hi])⟩
theorem StrsAt.at_ {l : List ByteArray} (h : StrsAt w B a n l) {i : Nat} (hi : i < l.length) : ∃ b off, a = some ⟨b, off, none⟩ ∧ b < B ∧ w.cell? ⟨b, off + i, none⟩ = some (.string l[i]) := by
  obtain ⟨b, off, ha, hb, hc⟩ := h.2.addr (by have := h.1; omega)
  exact ⟨b, off, ha, hb, hc i _ (by simp [hi])⟩
end

section

variable {H : Type} {enc : TypeId × Value → H} {P : Program} {w : World} {base : Nat} {spare : Nat → Bool} {held : Bool}

theorem trod_row1 {α : Type} (f : α → Value) (Q : α → Prop) {t e : TypeId} {fuel : Nat} {u : Value} {x : DataW H × List MemPlace} (ht : P.underlying t = some (.slice e)) (hc : P.cellsOf e = 1) (h : DataW.trod enc P w base spare held fuel t [u] = some x)
    (hf : ∀ (k : Nat) (v : Value) (y : DataW H × List MemPlace), DataW.trod enc P w base spare held k e [v] = some y → ∃ z : α, v = f z ∧ Q z) :
    ∃ a n c, u = .slice a n c ∧ n ≤ c ∧ c ≤ maxLen ∧ ∃ l : List α, l.length = n ∧ RowAt w w.heap.size a n 1 (l.map f) ∧ ∀ z ∈ l, Q z := by
  rcases Deep.open_slice1 ht hc h with ⟨h0, _⟩ | ⟨ad, len, cap, m, n', V, D, Pl, h0, hb, hl, hm, hmm, _, hi⟩
  · injection h0 with h0
    exact ⟨_, _, _, h0, Nat.le_refl _, by unfold maxLen; omega, [], rfl, RowAt.nil, fun z hz => by cases hz⟩
  · injection h0 with h0
    have hnm : len ≤ m := by rw [hmm]; split <;> omega
    have key : ∀ i, ∃ z : Option α, i < len → ∃ z', z = some z' ∧ w.cell? (ad.add i) = some (f z') ∧ Q z' := by
      intro i
      by_cases hil : i < len
      · obtain ⟨h1, h2⟩ := hi i (by omega)
        obtain ⟨z, hz, hq⟩ := hf _ _ _ h2
        exact ⟨some z, fun _ => ⟨z, rfl, by rw [h1, hz], hq⟩⟩
      · exact ⟨none, fun h => absurd h hil⟩
    obtain ⟨Z, hZ⟩ := Classical.axiomOfChoice key
    by_cases h00 : len = 0
    · subst h00
      exact ⟨_, _, _, h0, hl, hm, [], rfl, RowAt.nil, fun z hz => by cases hz⟩
    · obtain ⟨b, off, spot⟩ := ad
      have hspot : spot = none := by
        obtain ⟨z, _, hc0, _⟩ := hZ 0 (by omega)
        simpa [Addr.add] using World.cell?_spot hc0
      subst hspot
      have hbl : b < w.heap.size := by
        obtain ⟨z, _, hc0, _⟩ := hZ 0 (by omega)
        simpa [Addr.add] using block_lt hc0
      have hlen : ((List.range len).filterMap Z).length = len ∧ ∀ i, i < len → ∃ z, ((List.range len).filterMap Z)[i]? = some z ∧ Z i = some z := by
        have : ∀ k, k ≤ len → ((List.range k).filterMap Z).length = k ∧ ∀ i, i < k → ∃ z, ((List.range k).filterMap Z)[i]? = some z ∧ Z i = some z := by
          intro k
          induction k with
          | zero => intro _; exact ⟨rfl, fun i hi => by omega⟩
          | succ k ih =>
            intro hk
            obtain ⟨h1, h2⟩ := ih (by omega)
            obtain ⟨z, hz, _⟩ := hZ k (by omega)
            have e : (List.range (k + 1)).filterMap Z = (List.range k).filterMap Z ++ [z] := by rw [List.range_succ, List.filterMap_append]; simp [hz]
            refine ⟨by rw [e]; simp [h1], fun i hi => ?_⟩
            rw [e]
            by_cases hik : i < k
            · obtain ⟨z', hz', hz''⟩ := h2 i hik
              exact ⟨z', by rw [List.getElem?_append_left (by omega)]; exact hz', hz''⟩
            · obtain rfl : i = k := by omega
              exact ⟨z, by rw [List.getElem?_append_right (by omega)]; simp [h1], hz⟩
        exact this len (Nat.le_refl _)
      refine ⟨_, _, _, h0, hl, hm, (List.range len).filterMap Z, hlen.1, ⟨by simp [hlen.1], .inr ⟨b, off, rfl, hbl, fun j u hu => ?_⟩⟩, fun z hz => ?_⟩
      · have hj : j < len := by
          rcases Nat.lt_or_ge j len with h | h
          · exact h
          · rw [List.getElem?_eq_none (by simpa [hlen.1] using h)] at hu; cases hu
        obtain ⟨z, h1, h2⟩ := hlen.2 j hj
        obtain ⟨z', h3, h4, _⟩ := hZ j hj
        rw [h2] at h3; injection h3 with h3; subst h3
        rw [List.getElem?_map, h1] at hu
        injection hu with hu
        rw [← hu]
        rw [add_plain] at h4
        exact h4
      · obtain ⟨i, hi', hz'⟩ := List.mem_filterMap.1 hz
        have hi2 : i < len := by simpa using hi'
        obtain ⟨z', h3, _, h5⟩ := hZ i hi2
        rw [h3] at hz'; injection hz' with hz'; subst hz'
        exact h5
/-- A list of integers. -/
theorem trod_ints {t e : TypeId} {fuel : Nat} {u : Value} {x : DataW H × List MemPlace} (ht : P.underlying t = some (.slice e)) (he : P.underlying e = some (.int .i64)) (hc : P.cellsOf e = 1) (h : DataW.trod enc P w base spare held fuel t [u] = some x) :
    ∃ a n c l, u = .slice a n c ∧ n ≤ c ∧ c ≤ maxLen ∧ IntsAt w w.heap.size a n l ∧ ∀ z ∈ l, (Lit.int .i64 z).wf = true := by
  obtain ⟨a, n, c, h1, h2, h3, l, h4, h5, h6⟩ := trod_row1 (Value.int .i64) (fun z => (Lit.int .i64 z).wf = true) ht hc h (fun k v y hv => by
    obtain ⟨z, hz, _, wz⟩ := DataW.trod_int he hv
    injection hz with hz
    exact ⟨z, hz, wz⟩)
  exact ⟨a, n, c, l, h1, h2, h3, ⟨h4, h5⟩, h6⟩
/-- A list of texts. -/
theorem trod_strs {t e : TypeId} {fuel : Nat} {u : Value} {x : DataW H × List MemPlace} (ht : P.underlying t = some (.slice e)) (he : P.underlying e = some .string) (hc : P.cellsOf e = 1) (h : DataW.trod enc P w base spare held fuel t [u] = some x) :
    ∃ a n c l, u = .slice a n c ∧ n ≤ c ∧ c ≤ maxLen ∧ StrsAt w w.heap.size a n l ∧ ∀ z ∈ l, z.size ≤ maxLen := by
  obtain ⟨a, n, c, h1, h2, h3, l, h4, h5, h6⟩ := trod_row1 Value.string (fun z => z.size ≤ maxLen) ht hc h (fun k v y hv => by
    obtain ⟨z, hz, _, wz⟩ := DataW.trod_string he hv
    injection hz with hz
    exact ⟨z, hz, wz⟩)
  exact ⟨a, n, c, l, h1, h2, h3, ⟨h4, h5⟩, h6⟩
theorem open_strs {r : Reach} {b0 : Nat} {t e : TypeId} {v : Value} {d : DataW H} {p : List MemPlace} (ht : P.underlying t = some (.slice e)) (he : P.underlying e = some .string) (hc : P.cellsOf e = 1)
    (hv : Value.okWide P w r b0 t v) (h : DataW.Trod enc P w base spare held t v d p) : ∃ a n c l, v = .slice a n c ∧ n ≤ c ∧ c ≤ maxLen ∧ StrsAt w w.heap.size a n l ∧ ∀ z ∈ l, z.size ≤ maxLen := by
  obtain ⟨a, n, c, rfl⟩ := okWide_slice ht hv
  obtain ⟨fuel, hf⟩ := h
  exact trod_strs ht he hc hf
theorem open_intsL {r : Reach} {b0 : Nat} {t e : TypeId} {v : Value} {d : DataW H} {p : List MemPlace} (ht : P.underlying t = some (.slice e)) (he : P.underlying e = some (.int .i64)) (hc : P.cellsOf e = 1)
    (hv : Value.okWide P w r b0 t v) (h : DataW.Trod enc P w base spare held t v d p) : ∃ a n c l, v = .slice a n c ∧ n ≤ c ∧ c ≤ maxLen ∧ IntsAt w w.heap.size a n l ∧ ∀ z ∈ l, (Lit.int .i64 z).wf = true := by
  obtain ⟨a, n, c, rfl⟩ := okWide_slice ht hv
  obtain ⟨fuel, hf⟩ := h
  exact trod_ints ht he hc hf
end

end Go.Proofs.YtcfmifongbapkaaGreatDoor

/- ConfigProg -/
namespace Go.Proofs.YtcfmifongbapkaaGreatDoor

open Go.RowKit
theorem sum_snoc (R : List Int) (k : Nat) (h : k < R.length) : (R.take (k + 1)).sum = (R.take k).sum + R[k] := by
  rw [List.take_succ_eq_append_getElem h, List.sum_append]; simp
theorem sum_le (R : List Int) (h : ∀ z ∈ R, 0 ≤ z ∧ z ≤ 5) (k : Nat) : 0 ≤ (R.take k).sum ∧ (R.take k).sum ≤ 5 * (k : Int) := by
  induction k with
  | zero => simp
  | succ k ih =>
    by_cases hk : k < R.length
    · have := h _ (List.getElem_mem hk)
      rw [sum_snoc R k hk]; omega
    · rw [List.take_of_length_le (by omega)] at ih ⊢; omega

end Go.Proofs.YtcfmifongbapkaaGreatDoor

/- TxnKeys -/
namespace Go.Proofs.YtcfmifongbapkaaGreatDoor

open Go.RowKit

theorem Tryz.sInfo9 : (Tryz.prog.info? 9).map (fun i => (i.zero, i.size, i.bytes)) = some (some (.string ⟨#[]⟩), 1, 16) := by kernel_rfl
theorem str_one (u : ByteArray) : ∀ x ∈ [Value.string u], x.oneCell' = true := by
  intro x hx
  simp only [List.mem_cons, List.not_mem_nil, or_false] at hx
  subst hx; rfl
/-- What a loop holds: the list of texts made so far. -/
def MadeS (w wr : World) (v : Value) (l : List ByteArray) : Prop := wr.ownsRow w.heap.size 9 1 v l.length (l.map Value.string) ∧ Below w.heap.size w wr
section

variable {w wr w1 : World} {v v' : Value} {l : List ByteArray} {u : ByteArray} {o : Obj}

theorem MadeS.start (w : World) : MadeS w w (.slice none 0 0) [] := ⟨World.ownsRow_nil _ _ _ _, Below.refl _ _⟩
theorem MadeS.own (h : MadeS w wr v l) : wr.ownsRow w.heap.size 9 1 v l.length (l.map Value.string) := h.1
theorem MadeS.bel (h : MadeS w wr v l) : Below w.heap.size w wr := h.2
theorem MadeS.later (h : MadeS w wr v l) (hb : Below wr.heap.size wr w1) : MadeS w w1 v l := ⟨ownk_below h.1 hb, h.2.trans (hb.mono h.2.size)⟩
theorem MadeS.next (h : MadeS w wr v l) (ho : w1.ownsRow w.heap.size 9 1 v' (l.length + 1) (l.map Value.string ++ [.string u])) (hg : (wr.alloc o).grownBy w1 v.ownBlock) : MadeS w w1 v' (l ++ [u]) := by
  refine ⟨?_, ?_⟩
  · rw [List.map_append, List.length_append]; exact ho
  · have hs := h.2.size
    exact (h.2.alloc hs o).grown hg (by simp; omega) fun j hj => (h.1.lt j hj).1
/-- What a call that answers a new list of texts does. -/
def NewS (w : World) (l : List ByteArray) (e : Ending) (w' : World) : Prop := ∃ a cap, e = .returned (.slice a l.length cap) ∧ StrsAt w' w'.heap.size a l.length l ∧ (l.length ≤ cap ∧ cap ≤ maxLen) ∧ Below w.heap.size w w'
theorem MadeS.lies (h : MadeS w wr v l) : ∃ a cap, v = .slice a l.length cap ∧ StrsAt wr wr.heap.size a l.length l ∧ (l.length ≤ cap ∧ cap ≤ maxLen) := by
  obtain ⟨a, c, rfl, h1, h2⟩ := ownk_form h.1
  exact ⟨a, c, rfl, ⟨rfl, RowAt.of_own h.1⟩, h1, h2⟩
end

theorem RowAt.oneS (W : World) (u : ByteArray) (t : TypeId) : RowAt (W.alloc (.cells #[.string u] t)) (W.heap.size + 1) (some ⟨W.heap.size, 0, none⟩) 1 1 [.string u] := RowAt.one W #[.string u] t
theorem keysM_snoc (rs : List RdM) (k : Nat) (h : k < rs.length) : keysM (rs.take (k + 1)) = keysM (rs.take k) ++ [rs[k].1] := by
  unfold keysM; rw [List.take_succ_eq_append_getElem h, List.map_append]; rfl
theorem keysV_snoc (ws : List WrM) (k : Nat) (h : k < ws.length) : keysV (ws.take (k + 1)) = keysV (ws.take k) ++ [ws[k].key] := by
  unfold keysV; rw [List.take_succ_eq_append_getElem h, List.map_append]; rfl

set_option maxHeartbeats 1000000 in
theorem readKeys_any (a : Option Addr) (n c : Nat) (rs : List RdM) (w : World) (h : RdsAt w w.heap.size a n rs) (hn : n ≤ 1000000) :
    Calls Tryz.prog 119 #[.slice a n c] w (NewS w (keysM rs)) := by
  obtain ⟨iS, hi, hz0, hz1, hz2⟩ := info_parts Tryz.sInfo9
  have hlen := h.1
  have HA := Lib.hid h
  clear h
  go_enter Tryz.func119, Tryz.ntmps119
  go_wp2
  go_loopw [3, 8] (fun v i wr => ∃ k : Nat, k ≤ n ∧ i = .int .i64 k ∧ MadeS w wr v (keysM (rs.take k))) (fun _ i _ => n - (intOf i).toNat)
  case atStart => exact ⟨0, Nat.zero_le _, rfl, MadeS.start w⟩
  case round =>
    obtain ⟨k, hk, rfl, hM⟩ := hrel
    by_cases hlt : k < n
    · have hk1 : k < rs.length := by omega
      have HS := Lib.hid (keysM_snoc rs k hk1)
      have hll : (keysM (rs.take k)).length ≤ 1000000 := by rw [keysM_len, List.length_take]; omega
      obtain ⟨b, off, rfl, hbb, x0, x1⟩ := (HA.out.later hM.bel).at_ (i := k) hk1
      generalize rs[k] = x at *
      generalize keysM (rs.take k) = l at *
      obtain ⟨xk, xv⟩ := x
      have HM := Lib.hid (hM.later (one_box wr #[.string xk, .int .u64 ((xv : Nat) : Int)] 153))
      obtain ⟨y0, y1⟩ := (BoxC.new wr #[.string xk, .int .u64 ((xv : Nat) : Int)] 153).two
      clear hM
      go_upto_region 5 with (fail)
      generalize wr.alloc (.cells #[.string xk, .int .u64 ((xv : Nat) : Int)] 153) = W1 at *
      have hown := HM.out.own
      have hsz := HM.out.bel.size
      go_wp2_with (at_builtin; (refine wpList_append_rowk _ rfl _ _ 163 rfl w.heap.size 9 iS _ 1 16 Tryz.underlying163 hi hz0 hz1 hz2 rfl (by omega) _ l.length (l.map Value.string) rfl (hown.alloc _) (W1.heap.size + 1) (some ⟨W1.heap.size, 0, none⟩) 1 1 [.string xk] rfl (RowAt.oneS W1 xk _) (str_one _) (by unfold maxLen; omega) (by omega) (by simp; omega) ?_; intro v2 w2 ho2 hg2 hat2; have R := Lib.hid (HM.out.next ho2 hg2); clear ho2 hg2 hat2))
      go_roundw
      case rel => exact ⟨k + 1, by omega, by go_num, by rw [HS.out]; exact R.out⟩
      case measure => simp [intOf]; omega
    · have HQ : Hid (rs.take k = rs) := List.take_of_length_le (by omega)
      rw [HQ.out] at hM
      have hbel := hM.bel
      obtain ⟨a1, c1, rfl, hN⟩ := hM.lies
      clear hM
      go_wp2
      go_ret
      exact ⟨a1, c1, rfl, hN.1, hN.2, hbel⟩

set_option maxHeartbeats 1000000 in
theorem writeKeys_any (a : Option Addr) (n c : Nat) (ws : List WrM) (w : World) (h : WrsAt w w.heap.size a n ws) (hn : n ≤ 1000000) :
    Calls Tryz.prog 120 #[.slice a n c] w (NewS w (keysV ws)) := by
  obtain ⟨iS, hi, hz0, hz1, hz2⟩ := info_parts Tryz.sInfo9
  have hlen := h.1
  have HA := Lib.hid h
  clear h
  go_enter Tryz.func120, Tryz.ntmps120
  go_wp2
  go_loopw [3, 8] (fun v i wr => ∃ k : Nat, k ≤ n ∧ i = .int .i64 k ∧ MadeS w wr v (keysV (ws.take k))) (fun _ i _ => n - (intOf i).toNat)
  case atStart => exact ⟨0, Nat.zero_le _, rfl, MadeS.start w⟩
  case round =>
    obtain ⟨k, hk, rfl, hM⟩ := hrel
    by_cases hlt : k < n
    · have hk1 : k < ws.length := by omega
      have HS := Lib.hid (keysV_snoc ws k hk1)
      have hll : (keysV (ws.take k)).length ≤ 1000000 := by rw [keysV_len, List.length_take]; omega
      obtain ⟨b, off, rfl, hbb, x0, x1, x2, x3⟩ := (HA.out.later hM.bel).at_ (i := k) hk1
      generalize ws[k] = x at *
      generalize keysV (ws.take k) = l at *
      obtain ⟨xk, xa, xb, xt⟩ := x
      have HM := Lib.hid (hM.later (one_box wr #[.string xk, .int .i64 xa, .int .u64 ((xb : Nat) : Int), .string xt] 157))
      obtain ⟨y0, y1, y2, y3⟩ := (BoxC.new wr #[.string xk, .int .i64 xa, .int .u64 ((xb : Nat) : Int), .string xt] 157).four
      clear hM
      go_upto_region 5 with (fail)
      generalize wr.alloc (.cells #[.string xk, .int .i64 xa, .int .u64 ((xb : Nat) : Int), .string xt] 157) = W1 at *
      have hown := HM.out.own
      have hsz := HM.out.bel.size
      go_wp2_with (at_builtin; (refine wpList_append_rowk _ rfl _ _ 163 rfl w.heap.size 9 iS _ 1 16 Tryz.underlying163 hi hz0 hz1 hz2 rfl (by omega) _ l.length (l.map Value.string) rfl (hown.alloc _) (W1.heap.size + 1) (some ⟨W1.heap.size, 0, none⟩) 1 1 [.string xk] rfl (RowAt.oneS W1 xk _) (str_one _) (by unfold maxLen; omega) (by omega) (by simp; omega) ?_; intro v2 w2 ho2 hg2 hat2; have R := Lib.hid (HM.out.next ho2 hg2); clear ho2 hg2 hat2))
      go_roundw
      case rel => exact ⟨k + 1, by omega, by go_num, by rw [HS.out]; exact R.out⟩
      case measure => simp [intOf]; omega
    · have HQ : Hid (ws.take k = ws) := List.take_of_length_le (by omega)
      rw [HQ.out] at hM
      have hbel := hM.bel
      obtain ⟨a1, c1, rfl, hN⟩ := hM.lies
      clear hM
      go_wp2
      go_ret
      exact ⟨a1, c1, rfl, hN.1, hN.2, hbel⟩


set_option maxHeartbeats 1000000 in
theorem rising_any (a : Option Addr) (n c B : Nat) (Bs : List ByteArray) (w : World) (h : StrsAt w B a n Bs) (hs : ∀ z ∈ Bs, z.size ≤ maxLen) (hn : n ≤ 1000000) :
    Calls Tryz.prog 118 #[.slice a n c] w fun e w' => e = .returned (.bool (riseB (txt Bs))) ∧ w = w' := by
  have hlen := h.1
  have hsl := txt_len Bs
  have HB := Lib.hid h
  have HS := Lib.hid hs
  clear h hs
  go_enter Tryz.func118, Tryz.ntmps118
  go_wp2
  go_loop [7] (fun i => ∃ k : Nat, k ≤ n ∧ i = .int .i64 k ∧ RiseP (txt Bs) k) (fun i => n - (intOf i).toNat)
  case atStart => exact ⟨0, Nat.zero_le _, rfl, RiseP.start _⟩
  case round =>
    obtain ⟨k, hk, rfl, ht⟩ := hrel
    have HT := Lib.hid ht
    clear ht
    by_cases hlt : k < n
    · have hl : k < Bs.length := by omega
      have hl' : k < (txt Bs).length := by omega
      have cK := fun W => key_same Bs[k] W (HS.out _ (List.getElem_mem hl))
      have hbad : keyB Bs[k].data.toList = false → Hid (riseB (txt Bs) = false) := fun e => rise_key (txt Bs) k hl' (by rw [txt_get Bs k hl]; exact e)
      cases hz : keyB Bs[k].data.toList
      · rw [hz] at cK
        have Q := hbad hz
        obtain ⟨b, off, rfl, _, hc⟩ := HB.out.at_ hl
        clear hbad hz HT
        generalize Bs[k] = z at *
        go_wp2_with (go_at_call 134; ((with_reducible refine (cK _).mono ?_); rintro e w' ⟨rfl, rfl⟩))
        go_ret
        exact ⟨by rw [Q.out]; rfl, rfl⟩
      · rw [hz] at cK
        clear hbad
        cases k with
        | zero =>
          have Q := Lib.hid (RiseP.first (txt Bs) hl' (by rw [txt_get Bs 0 hl]; exact hz))
          obtain ⟨b, off, rfl, _, hc⟩ := HB.out.at_ hl
          rw [Nat.add_zero] at hc
          clear hz HT
          generalize Bs[0] = z at *
          go_wp2_with (go_at_call 134; ((with_reducible refine (cK _).mono ?_); rintro e w' ⟨rfl, rfl⟩))
          go_round
          case rel => exact ⟨1, by omega, by go_num, Q.out⟩
          case measure => simp [intOf]; omega
        | succ k =>
          have hgood : leB Bs[k + 1].data.toList (Bs[k]'(by omega)).data.toList = false → Hid (RiseP (txt Bs) (k + 1 + 1)) := fun e => HT.out.next hl' (by rw [txt_get Bs (k + 1) hl]; exact hz) (by rw [txt_get Bs (k + 1) hl, txt_get Bs k (by omega)]; exact e)
          have hbad : leB Bs[k + 1].data.toList (Bs[k]'(by omega)).data.toList = true → Hid (riseB (txt Bs) = false) := fun e => rise_adj (txt Bs) k hl' (by rw [txt_get Bs (k + 1) hl, txt_get Bs k (by omega)]; exact e)
          obtain ⟨b, off, rfl, _, hc⟩ := HB.out.at_ (i := k) (by omega)
          obtain ⟨b', off', e1, _, hc'⟩ := HB.out.at_ (i := k + 1) hl
          injection e1 with e1
          injection e1 with e1 e2
          subst e1; subst e2
          generalize Bs[k]'(by omega) = x at *
          generalize Bs[k + 1] = y at *
          have hE := ltS x y
          have e5 : (((k + 1 : Nat) : Int)) = (k : Int) + 1 := by omega
          have hw : IntKind.i64.wrap (k : Int) = k := by rw [IntKind.wrap_i64]; omega
          clear hz HT
          cases hz : leB y.data.toList x.data.toList
          · rw [hz] at hE
            have Q := hgood hz
            clear hgood hbad hz
            go_wp2_with (go_at_call 134; ((with_reducible refine (cK _).mono ?_); rintro e w' ⟨rfl, rfl⟩))
            go_round
            case rel => exact ⟨k + 1 + 1, by omega, by go_num, Q.out⟩
            case measure => simp [intOf]; omega
          · rw [hz] at hE
            have Q := hbad hz
            clear hgood hbad hz
            go_wp2_with (go_at_call 134; ((with_reducible refine (cK _).mono ?_); rintro e w' ⟨rfl, rfl⟩))
            go_ret
            exact ⟨by rw [Q.out]; rfl, rfl⟩
    · have Q := Lib.hid (HT.out.done (by omega))
      go_wp2
      go_ret
      exact ⟨by rw [Q.out]; rfl, rfl⟩

set_option maxHeartbeats 1000000 in
theorem values_any (a : Option Addr) (n c : Nat) (ws : List WrM) (w : World) (h : WrsAt w w.heap.size a n ws) (ho : ∀ x ∈ ws, WrOk x) (hn : n ≤ 1000000) (hT : Tabs w) :
    Calls Tryz.prog 121 #[.slice a n c] w (Says w (valsB ws)) := by
  have hlen := h.1
  have HA := Lib.hid h
  have HO := Lib.hid ho
  have HU := Lib.hid hT
  clear h ho hT
  go_enter Tryz.func121, Tryz.ntmps121
  go_wp2
  go_loopw [7] (fun i wr => ∃ k : Nat, k ≤ n ∧ i = .int .i64 k ∧ (ws.take k).all (fun x => formedB (valM x)) = true ∧ Below w.heap.size w wr) (fun i _ => n - (intOf i).toNat)
  case atStart => exact ⟨0, Nat.zero_le _, rfl, rfl, Below.refl _ _⟩
  case round =>
    obtain ⟨k, hk, rfl, ht, hM⟩ := hrel
    by_cases hlt : k < n
    · have hk1 : k < ws.length := by omega
      have hbad := fun e => Lib.hid (all_bad (fun x => formedB (valM x)) ws k hk1 e)
      have hgood := fun e => Lib.hid (all_next (fun x => formedB (valM x)) ws k hk1 ht e)
      have hO := HO.out _ (List.getElem_mem hk1)
      obtain ⟨b, off, rfl, hbb, x0, x1, x2, x3⟩ := (HA.out.later hM).at_ (i := k) hk1
      clear ht
      generalize ws[k] = x at *
      obtain ⟨xk, xa, xb, xt⟩ := x
      have HM := Lib.hid (hM.trans ((one_box wr #[.string xk, .int .i64 xa, .int .u64 ((xb : Nat) : Int), .string xt] 157).mono hM.size))
      obtain ⟨y0, y1, y2, y3⟩ := (BoxC.new wr #[.string xk, .int .i64 xa, .int .u64 ((xb : Nat) : Int), .string xt] 157).four
      have cF := formed_any xa xb xt _ hO.2.1 hO.2.2 (HU.out.below HM.out)
      clear hM hO
      cases hz : formedB ⟨xa, xb, xt.data.toList⟩
      · rw [hz] at cF
        have Q := hbad hz
        clear hgood hbad hz
        go_upto_region 4 with (fail)
        generalize wr.alloc (.cells #[.string xk, .int .i64 xa, .int .u64 ((xb : Nat) : Int), .string xt] 157) = W1 at *
        go_wp2_with (go_at_call 135; ((with_reducible refine cF.mono ?_); rintro e w2 ⟨rfl, hb2⟩; have H2 := Lib.hid (HM.out.trans (hb2.mono HM.out.size))))
        go_ret
        exact ⟨by rw [valsB, Q.out]; rfl, H2.out⟩
      · rw [hz] at cF
        have Q := hgood hz
        clear hgood hbad hz
        go_upto_region 4 with (fail)
        generalize wr.alloc (.cells #[.string xk, .int .i64 xa, .int .u64 ((xb : Nat) : Int), .string xt] 157) = W1 at *
        go_wp2_with (go_at_call 135; ((with_reducible refine cF.mono ?_); rintro e w2 ⟨rfl, hb2⟩; have H2 := Lib.hid (HM.out.trans (hb2.mono HM.out.size))))
        go_roundw
        case rel => exact ⟨k + 1, by omega, by go_num, Q.out, H2.out⟩
        case measure => simp [intOf]; omega
    · have Q := Lib.hid (all_done (fun x => formedB (valM x)) ws k (by omega) ht)
      clear ht
      go_wp2
      go_ret
      exact ⟨by rw [valsB, Q.out]; rfl, hM⟩
end Go.Proofs.YtcfmifongbapkaaGreatDoor

/- TxnFormed -/
namespace Go.Proofs.YtcfmifongbapkaaGreatDoor

open Go.RowKit

set_option maxHeartbeats 1000000 in
theorem tFormed_any (s q : Int) (a : Option Addr) (n c : Nat) (b : Option Addr) (m d : Nat) (rs : List RdM) (ws : List WrM) (w : World) (h : TxAt w a n b m rs ws) (hU : Tabs w) :
    Calls Tryz.prog 90 #[.agg (txV s q a n c b m d)] w (Says w (formT formedB (txT (s, q) rs ws))) := by
  have H0 := Lib.hid ((Boxs.start w).more (txV s q a n c b m d) 30)
  have HT := Lib.hid h
  have HU := Lib.hid hU
  have hl := h.lenR
  have hk := h.lenW
  have cI := fun W => tId_any s q W
  obtain ⟨x0, x1, x2, x3⟩ := (H0.out.get 0 _ _ _ rfl).four
  clear h hU
  cases hI : idB (s, q)
  · rw [hI] at cI
    have Q := Lib.hid (form_len (s, q) rs ws (.inl hI))
    clear hI
    go_enter Tryz.func90, Tryz.ntmps90
    go_wp2_with (go_at_call 117; ((with_reducible refine (cI _).mono ?_); rintro e w1 ⟨rfl, hb1⟩; have H1 := Lib.hid (H0.out.below hb1)))
    go_ret
    exact ⟨by rw [Q.out]; rfl, H1.out.bel⟩
  rw [hI] at cI
  by_cases hn : 6 < n
  · have Q := Lib.hid (form_len (s, q) rs ws (.inr (.inl (by omega))))
    have d1 : decide ((6 : Int) < (n : Int)) = true := by simp; omega
    clear hI
    go_enter Tryz.func90, Tryz.ntmps90
    go_wp2_with (go_at_call 117; ((with_reducible refine (cI _).mono ?_); rintro e w1 ⟨rfl, hb1⟩; have H1 := Lib.hid (H0.out.below hb1); (clear x0 x1 x2 x3); obtain ⟨x0, x1, x2, x3⟩ := (H1.out.get 0 _ _ _ rfl).four))
    go_ret
    exact ⟨by rw [Q.out]; rfl, H1.out.bel⟩
  have d1 : decide ((6 : Int) < (n : Int)) = false := by simp; omega
  by_cases hm : 6 < m
  · have Q := Lib.hid (form_len (s, q) rs ws (.inr (.inr (.inl (by omega)))))
    have d2 : decide ((6 : Int) < (m : Int)) = true := by simp; omega
    clear hI
    go_enter Tryz.func90, Tryz.ntmps90
    go_wp2_with (go_at_call 117; ((with_reducible refine (cI _).mono ?_); rintro e w1 ⟨rfl, hb1⟩; have H1 := Lib.hid (H0.out.below hb1); (clear x0 x1 x2 x3); obtain ⟨x0, x1, x2, x3⟩ := (H1.out.get 0 _ _ _ rfl).four))
    go_ret
    exact ⟨by rw [Q.out]; rfl, H1.out.bel⟩
  have d2 : decide ((6 : Int) < (m : Int)) = false := by simp; omega
  by_cases h0 : n + m = 0
  · have Q := Lib.hid (form_len (s, q) rs ws (.inr (.inr (.inr (by omega)))))
    have d3 : ((n : Int) + (m : Int) == 0) = true := by simp; omega
    clear hI
    go_enter Tryz.func90, Tryz.ntmps90
    go_wp2_with (go_at_call 117; ((with_reducible refine (cI _).mono ?_); rintro e w1 ⟨rfl, hb1⟩; have H1 := Lib.hid (H0.out.below hb1); (clear x0 x1 x2 x3); obtain ⟨x0, x1, x2, x3⟩ := (H1.out.get 0 _ _ _ rfl).four))
    go_ret
    exact ⟨by rw [Q.out]; rfl, H1.out.bel⟩
  have d3 : ((n : Int) + (m : Int) == 0) = false := by simp; omega
  rw [form_parts (s, q) rs ws hI (by omega) (by omega) (by omega)]
  have cK := fun W (hW : Below w.heap.size w W) => readKeys_any a n c rs W (HT.out.later hW).rds (by omega)
  have cK' := fun W (hW : Below w.heap.size w W) => writeKeys_any b m d ws W (HT.out.later hW).wrs (by omega)
  have cV := fun W (hW : Below w.heap.size w W) => values_any b m d ws W (HT.out.later hW).wrs HT.out.okW (by omega) (HU.out.below hW)
  have HR := Lib.hid (fun a1 c1 W (hW : StrsAt W W.heap.size a1 (keysM rs).length (keysM rs)) => rising_any a1 (keysM rs).length c1 _ (keysM rs) W hW (keysM_ok HT.out.okR) (by rw [keysM_len]; omega))
  have HR' := Lib.hid (fun a1 c1 W (hW : StrsAt W W.heap.size a1 (keysV ws).length (keysV ws)) => rising_any a1 (keysV ws).length c1 _ (keysV ws) W hW (keysV_ok HT.out.okW) (by rw [keysV_len]; omega))
  clear hI
  cases h1 : riseB (txt (keysM rs))
  · rw [h1] at HR
    clear h1
    go_enter Tryz.func90, Tryz.ntmps90
    go_wp2_with (first | (go_at_call 117; ((with_reducible refine (cI _).mono ?_); rintro e w1 ⟨rfl, hb1⟩; have H1 := Lib.hid (H0.out.below hb1); (clear x0 x1 x2 x3); obtain ⟨x0, x1, x2, x3⟩ := (H1.out.get 0 _ _ _ rfl).four)) | (go_at_call 119; ((with_reducible refine (cK _ H1.out.bel).mono ?_); rintro e w2 ⟨a1, c1, rfl, hS, _, hb2⟩; have H2 := Lib.hid (H1.out.below hb2); have cR := HR.out a1 c1 w2 hS; (clear x0 x1 x2 x3))) | (go_at_call 118; ((with_reducible refine cR.mono ?_); rintro e w3 ⟨rfl, rfl⟩)))
    go_ret
    exact ⟨rfl, H2.out.bel⟩
  rw [h1] at HR
  clear h1
  cases h2 : riseB (txt (keysV ws))
  · rw [h2] at HR'
    clear h2
    go_enter Tryz.func90, Tryz.ntmps90
    go_wp2_with (first | (go_at_call 117; ((with_reducible refine (cI _).mono ?_); rintro e w1 ⟨rfl, hb1⟩; have H1 := Lib.hid (H0.out.below hb1); (clear x0 x1 x2 x3); obtain ⟨x0, x1, x2, x3⟩ := (H1.out.get 0 _ _ _ rfl).four)) | (go_at_call 119; ((with_reducible refine (cK _ H1.out.bel).mono ?_); rintro e w2 ⟨a1, c1, rfl, hS, _, hb2⟩; have H2 := Lib.hid (H1.out.below hb2); have cR := HR.out a1 c1 w2 hS; (clear x0 x1 x2 x3); obtain ⟨x0, x1, x2, x3⟩ := (H2.out.get 0 _ _ _ rfl).four)) | (go_at_call 118; ((with_reducible refine cR.mono ?_); rintro e w3 ⟨rfl, rfl⟩)) | (go_at_call 120; ((with_reducible refine (cK' _ H2.out.bel).mono ?_); rintro e w4 ⟨a2, c2, rfl, hS2, _, hb4⟩; have H4 := Lib.hid (H2.out.below hb4); have cR' := HR'.out a2 c2 w4 hS2; (clear x0 x1 x2 x3))) | (go_at_call 118; ((with_reducible refine cR'.mono ?_); rintro e w5 ⟨rfl, rfl⟩)))
    go_ret
    exact ⟨rfl, H4.out.bel⟩
  rw [h2] at HR'
  clear h2
  go_enter Tryz.func90, Tryz.ntmps90
  go_wp2_with (first | (go_at_call 117; ((with_reducible refine (cI _).mono ?_); rintro e w1 ⟨rfl, hb1⟩; have H1 := Lib.hid (H0.out.below hb1); (clear x0 x1 x2 x3); obtain ⟨x0, x1, x2, x3⟩ := (H1.out.get 0 _ _ _ rfl).four)) | (go_at_call 119; ((with_reducible refine (cK _ H1.out.bel).mono ?_); rintro e w2 ⟨a1, c1, rfl, hS, _, hb2⟩; have H2 := Lib.hid (H1.out.below hb2); have cR := HR.out a1 c1 w2 hS; (clear x0 x1 x2 x3); obtain ⟨x0, x1, x2, x3⟩ := (H2.out.get 0 _ _ _ rfl).four)) | (go_at_call 118; ((with_reducible refine cR.mono ?_); rintro e w3 ⟨rfl, rfl⟩)) | (go_at_call 120; ((with_reducible refine (cK' _ H2.out.bel).mono ?_); rintro e w4 ⟨a2, c2, rfl, hS2, _, hb4⟩; have H4 := Lib.hid (H2.out.below hb4); have cR' := HR'.out a2 c2 w4 hS2; (clear x0 x1 x2 x3); obtain ⟨x0, x1, x2, x3⟩ := (H4.out.get 0 _ _ _ rfl).four)) | (go_at_call 118; ((with_reducible refine cR'.mono ?_); rintro e w5 ⟨rfl, rfl⟩)) | (go_at_call 121; ((with_reducible refine (cV _ H4.out.bel).mono ?_); rintro e w6 ⟨rfl, hb6⟩; have H6 := Lib.hid (H4.out.below hb6))))
  go_ret
  exact ⟨rfl, H6.out.bel⟩
end Go.Proofs.YtcfmifongbapkaaGreatDoor
