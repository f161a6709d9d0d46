/- Contract of net's Clear. Conditions: the net lies in memory, and holds less than 2^63 packets. -/
import Derived.Test.YtgdgjgcmglgfmaaNetCount
import Derived.Test.YtgdgjgcmglgfmaaNetClose
namespace Go.Proofs.Ytgdgjgcmglgfmaa

open Go.RowKit

open Go.MapKept (Stamped stamped_iff stamped_erase)

open Go.ChangeMaps (setBlock)

set_option linter.unusedVariables false
set_option linter.unusedSimpArgs false

theorem filter_erase {α : Type} (p : α → Bool) : ∀ (l : List α) (j : Nat) (e : α), l[j]? = some e → p e = false → (l.eraseIdx j).filter p = l.filter p
  | [], j, e, h, _ => by simp at h
  | x :: l, 0, e, h, hp => by
    simp at h
    subst h
    rw [List.eraseIdx_cons_zero, List.filter_cons, hp]; simp
  | x :: l, j + 1, e, h, hp => by
    rw [List.eraseIdx_cons_succ, List.filter_cons, List.filter_cons, filter_erase p l j e (by simpa using h) hp]
/-- An entry that the range is past goes out of the map. -/
theorem Rng.drop {W : World} {b r : Nat} {hs left : Hd} (h : Rng W b r hs left) (k : Lk) (hk : k ∉ left.map (·.1)) (hin : k ∈ hs.map (·.1)) (ty : TypeId) :
    ∃ o, Rng (setBlock W b o) b r (delV hs k) left ∧ ∀ V : World, V.heap[b]? = W.heap[b]? → (Builtin.delete_ #[60, 42] ty #[.map (some b), keyV k]).run Try.prog V = .ok (.tuple #[]) (setBlock V b o) := by
  have hne := h.lt
  obtain ⟨es, clock, since, seen, c0, hb, hst, hkv, hr, hold, hsc, hcl, hl⟩ := h
  rcases find_all k es.toList (kv_key hkv) with ⟨h1, h2⟩ | ⟨j, e, h1, h2, h3⟩
  · exact absurd hin (kv_none hkv h2)
  · obtain ⟨x, hx, hxk, hxv⟩ := kv_get hkv h2
    have hkx : x.1 = k := keyV_inj (hxk.trans h3)
    obtain ⟨hlj, _⟩ := List.getElem?_eq_some_iff.1 h2
    have hlist : (es.eraseIdxIfInBounds j).toList = es.toList.eraseIdx j := by
      unfold Array.eraseIdxIfInBounds
      rw [dif_pos (by simpa using hlj), Array.toList_eraseIdx]
    refine ⟨.map (es.eraseIdxIfInBounds j) clock, ⟨_, clock, since, seen, c0, setBlock_at hb, stamped_erase hst j, ?_, (setBlock_ne hne.2.2).trans hr, fun y hy => ?_, hsc, hcl, ?_⟩, fun V hV => ?_⟩
    · subst hkx
      rw [delV_at (kv_nodup hkv hst) hx]
      unfold kvs hvs
      rw [hlist, Go.ChangeMaps.map_eraseIdx, Go.ChangeMaps.map_eraseIdx]
      rw [show es.toList.map (fun e => (e.key, e.val)) = hs.map (fun h => (keyV h.1, h.2)) from hkv]
    · rw [hlist] at hy
      exact hold y (List.mem_of_mem_eraseIdx hy)
    · rw [← hl]
      unfold kvs leftOf
      rw [Array.toList_filter, Array.toList_filter, hlist]
      congr 1
      refine filter_erase _ _ j e h2 ?_
      refine Decidable.by_contra fun hp => hk ?_
      have hm : e ∈ (leftOf es seen).toList := by
        unfold leftOf
        rw [Array.toList_filter]
        exact List.mem_filter.2 ⟨List.mem_of_getElem? h2, by simpa using hp⟩
      have hm2 : (e.key, e.val) ∈ hvs left := by rw [← hl]; exact List.mem_map.2 ⟨e, hm, rfl⟩
      obtain ⟨y, hy, hye⟩ := List.mem_map.1 hm2
      injection hye with hy1 hy2
      have : y.1 = k := keyV_inj (hy1.trans h3)
      exact List.mem_map.2 ⟨y, hy, this⟩
    · have hb' := hV.trans hb
      simp [Builtin.delete_, run_underlying Try.underlying60, Go.MapKept.run_getObj_map hb', check_link, h1 V, Go.MapKept.run_setObj_map _ hb', Result.andThen, setBlock]
/-- What stays while these are still to come. -/
def stays (t : Int) (left : Hd) (hs : Hd) : Hd := hs.filter fun h => decide (¬ h.1.2 = t) || decide (h.1 ∈ left.map (·.1))
theorem stays_all (t : Int) (hs : Hd) : stays t hs hs = hs := by
  unfold stays
  refine List.filter_eq_self.2 fun h hh => ?_
  have : h.1 ∈ hs.map (·.1) := List.mem_map.2 ⟨h, hh, rfl⟩
  simp [this]
theorem stays_none (t : Int) (hs : Hd) : stays t [] hs = hs.filter fun h => decide (¬ h.1.2 = t) := by
  unfold stays
  refine List.filter_congr fun h _ => by simp
theorem mem_mid {A B : Hd} {k y : Lk} {v : Value} (h : ¬ y = k) : (y ∈ (A ++ (k, v) :: B).map (·.1)) = (y ∈ (A ++ B).map (·.1)) := by
  rw [List.map_append, List.map_append, List.map_cons, List.mem_append, List.mem_append, List.mem_cons]
  simp [h]
theorem stays_keep (t : Int) {A B hs : Hd} {k : Lk} {v : Value} (h : ¬ k.2 = t) : stays t (A ++ B) hs = stays t (A ++ (k, v) :: B) hs := by
  unfold stays
  refine List.filter_congr fun x _ => ?_
  by_cases hx : x.1 = k
  · simp [hx, h]
  · simp only [mem_mid hx]
theorem stays_del (t : Int) {A B hs : Hd} {k : Lk} {v : Value} (h : k.2 = t) (hn : k ∉ (A ++ B).map (·.1)) : stays t (A ++ B) hs = delV (stays t (A ++ (k, v) :: B) hs) k := by
  unfold stays delV
  rw [List.filter_filter]
  refine List.filter_congr fun x _ => ?_
  by_cases hx : x.1 = k
  · simp only [hx, h]
    simp only [List.map_append] at hn ⊢
    simp at hn ⊢
    exact hn
  · simp only [mem_mid hx]
    simp [hx]
theorem lenS_del {hs : Hd} (hn : (hs.map (·.1)).Nodup) {k : Lk} {v : Value} (h : (k, v) ∈ hs) : lenS (delV hs k) + lenV v = lenS hs := by
  obtain ⟨j, hj, e⟩ := List.getElem_of_mem h
  have hj2 : hs[j]? = some (k, v) := by rw [List.getElem?_eq_getElem hj, e]
  have h1 := delV_at hn hj2
  have h2 : hs = hs.take j ++ (k, v) :: hs.drop (j + 1) := by rw [← e, List.getElem_cons_drop, List.take_append_drop]
  rw [show delV hs k = delV hs (k, v).1 from rfl, h1, List.eraseIdx_eq_take_drop_succ, lenS_app]
  conv => rhs; rw [h2, lenS_app, lenS_cons]
  rw [show lenV v = lenV ((k, v) : Lk × Value).2 from rfl]
  omega
theorem Rng.later {w1 V : World} {b r : Nat} {hs left : Hd} {o : Obj} (h : Rng (setBlock w1 b o) b r hs left) (hb : Below w1.heap.size w1 V) : Rng (setBlock V b o) b r hs left := by
  have hl := h.lt
  rw [setBlock_size] at hl
  obtain ⟨x, hx⟩ : ∃ x, w1.heap[b]? = some x := ⟨_, Array.getElem?_eq_getElem hl.1⟩
  exact h.moved ((setBlock_at ((hb.block b hl.1).trans hx)).trans (setBlock_at hx).symm) (((setBlock_ne hl.2.2).trans (hb.block r hl.2.1)).trans (setBlock_ne hl.2.2).symm)
theorem fr_set {W V : World} {b : Nat} {own : List Nat} {o : Obj} (h : Fr W V own) (hb : b ∈ own) : Fr W (setBlock V b o) own :=
  ⟨h.os, h.tape, h.output, by rw [setBlock_size]; exact h.size, fun i hi hn => (setBlock_ne (fun e => hn (by rw [e]; exact hb))).trans (h.block i hi hn)⟩
theorem fr_later {W V V' : World} {own : List Nat} (h : Fr W V own) (hb : Below V.heap.size V V') : Fr W V' own := Fr.trans h (Fr.of_below (own := []) hb) (fun i hi => by cases hi)
theorem fr_opt2 {W V : World} {v : Option Nat} (h : W.grownBy V v) : Fr W V v.toList :=
  ⟨h.os, h.tape, h.output, h.size, fun i hi hn => h.block i hi (fun e => hn (by rw [← e]; simp))⟩
theorem below_alloc1 (V : World) (o : Obj) : Below V.heap.size V (V.alloc o) := (Below.refl _ _).alloc (Nat.le_refl _) o
/-- The bags that Clear leaves. -/
def clrB (bs : Bags) (t : Int) : Bags := bs.filter fun x => decide (¬ x.1.2 = t)
def ClearI (W : World) (g b r : Nat) (t : Int) (hs : Hd) (wr : World) (c : Nat) : Prop :=
  ∃ left : Hd, Rng wr b r (stays t left hs) left ∧ (left.map (·.1)).Nodup ∧ (∀ x ∈ left, x ∈ hs) ∧ c + lenS (stays t left hs) = lenS hs ∧ Fr W wr [b]
theorem ClearI.ex {W wr : World} {g b r c : Nat} {t : Int} {hs : Hd} (h : ClearI W g b r t hs wr c) : ∃ left : Hd, Rng wr b r (stays t left hs) left ∧ (left.map (·.1)).Nodup ∧ (∀ x ∈ left, x ∈ hs) ∧ c + lenS (stays t left hs) = lenS hs ∧ Fr W wr [b] := h

set_option maxRecDepth 100000 in
set_option maxHeartbeats 4000000 in
theorem clear_gen (W : World) (g b : Nat) (hs : Hd) (t : Int) (hc0 : W.cell? ⟨g, 0, none⟩ = some (.map (some b))) (hg0 : g < W.heap.size) (hgb : b ≠ g) (hM : MapAt W b hs) (ht : lenS hs < 9223372036854775808) (hv : ∀ x ∈ hs, ∃ a n c, x.2 = .slice a n c) :
    Calls Try.prog 22 #[.pointer (some ⟨g, 0, none⟩), .int .i64 t] W fun e w' => e = .returned (.int .i64 ((lenS hs - lenS (hs.filter fun h => decide (¬ h.1.2 = t)) : Nat) : Int)) ∧ MapAt w' b (hs.filter fun h => decide (¬ h.1.2 = t)) ∧ Fr W w' [b] := by
  have hnd := hM.nodup
  have HND := Lib.hid hnd
  have HT := Lib.hid ht
  have HV := Lib.hid hv
  have HG := Lib.hid hg0
  have HGB := Lib.hid hgb
  have HC := Lib.hid hc0
  have hbl : b < W.heap.size := by obtain ⟨es, c, h1, _⟩ := hM; exact lt_of_heap h1
  clear hnd ht hv hgb
  go_enter Try.func22, Try.ntmps22
  go_wp2_with (first
    | (at_range; refine wpList_rangeL rfl _ rfl rfl hM ?_; intro w0 hrg0 hb0 hs0; have R0 := Lib.hid hrg0; have B0 := Lib.hid hb0; clear hrg0 hb0)
    | go_in)
  go_frame
  go_loopw [5] (fun v wr => ∃ (k : Nat), v = .int .i64 k ∧ ClearI W g b W.heap.size t hs wr k) (fun _ wr => wr.rangeLeft b W.heap.size)
  case atStart => exact ⟨0, rfl, hs, by rw [stays_all]; exact R0.out, HND.out, fun x hx => hx, by rw [stays_all]; omega, Fr.of_below B0.out⟩
  case round =>
    obtain ⟨k, rfl, hI⟩ := hrel
    obtain ⟨left, hrg, hnl, hin, hk, hF⟩ := hI.ex
    clear hI
    have RR := Lib.hid hrg
    have NL := Lib.hid hnl
    have II := Lib.hid hin
    have KK := Lib.hid hk
    have FF := Lib.hid hF
    clear hnl hin hk hF R0 B0
    go_wp2_with (first
      | (at_next; refine wpList_nextL rfl _ rfl rfl hrg ?_ ?_)
      | go_in)
    · intro h0
      subst h0
      have hk2 := KK.out
      rw [stays_none] at hk2
      have RM := RR.out.map
      rw [stays_none] at RM
      have M2 := Lib.hid RM
      have EX : Hid (k = lenS hs - lenS (hs.filter fun h => decide (¬ h.1.2 = t))) := by unfold Hid; omega
      clear hk2 RM hrg
      go_wp2
      go_ret
      exact ⟨by rw [← EX.out]; rfl, M2.out, FF.out⟩
    · intro f1 t1 v A B w1 hl hrg1 hg1 hs1 hen
      subst hl
      obtain ⟨a, n, c, rfl⟩ : ∃ a n c, v = .slice a n c := HV.out ((f1, t1), v) (II.out _ (List.mem_append_right _ (List.mem_cons_self ..)))
      have F1 : Hid (Fr W w1 [b]) := Fr.trans FF.out (fr_opt2 hg1) (fun i hi => by simp at hi; exact .inr (by omega))
      have HN2 : Hid ((f1, t1) ∉ (A ++ B).map (·.1)) := by
        have := NL.out
        rw [List.map_append, List.map_cons, List.nodup_append, List.nodup_cons] at this
        obtain ⟨_, ⟨h1, _⟩, h2⟩ := this
        unfold Hid
        rw [List.map_append, List.mem_append]
        rintro (h | h)
        · exact h2 _ h _ (List.mem_cons_self ..) rfl
        · exact h1 h
      have HN3 : Hid (((A ++ B).map (·.1)).Nodup) := by
        have := NL.out
        rw [List.map_append, List.map_cons, List.nodup_append, List.nodup_cons] at this
        obtain ⟨h0, ⟨_, h1⟩, h2⟩ := this
        unfold Hid
        rw [List.map_append, List.nodup_append]
        exact ⟨h0, h1, fun x hx y hy => h2 x hx y (List.mem_cons_of_mem _ hy)⟩
      have I2 : Hid (∀ x ∈ A ++ B, x ∈ hs) := fun x hx => II.out x (by rcases List.mem_append.1 hx with h | h; exact List.mem_append_left _ h; exact List.mem_append_right _ (List.mem_cons_of_mem _ h))
      have R1 := Lib.hid hrg1
      have hw1 := F1.out.size
      have c1 : w1.cell? ⟨g, 0, none⟩ = some (.map (some b)) := by
        have := World.cell?_of_block (a := ⟨g, 0, none⟩) (F1.out.block g hg0 (by simp; exact fun e => HGB.out e.symm))
        rw [this]; exact hc0
      have hg1' : g < w1.heap.size := by omega
      have BX := below_alloc1 w1 (.cells #[.int .i64 f1, .int .i64 t1] 42)
      have c2 : (w1.alloc (.cells #[.int .i64 f1, .int .i64 t1] 42)).cell? ⟨g, 0, none⟩ = some (.map (some b)) := (BX.cell (p := ⟨g, 0, none⟩) hg1').trans c1
      by_cases ht1 : t1 = t
      · subst ht1
        have hkey : ((f1, t1) : Lk) ∈ (stays t1 (A ++ ((f1, t1), Value.slice a n c) :: B) hs).map (·.1) := by
          refine List.mem_map.2 ⟨((f1, t1), Value.slice a n c), List.mem_filter.2 ⟨II.out _ (List.mem_append_right _ (List.mem_cons_self ..)), ?_⟩, rfl⟩
          simp
        have hmem : (((f1, t1), Value.slice a n c) : Lk × Value) ∈ stays t1 (A ++ ((f1, t1), Value.slice a n c) :: B) hs := by
          refine List.mem_filter.2 ⟨II.out _ (List.mem_append_right _ (List.mem_cons_self ..)), ?_⟩
          simp
        obtain ⟨o, hR2, hd⟩ := hrg1.drop (f1, t1) HN2.out hkey 0
        rw [← stays_del t1 rfl HN2.out] at hR2
        have R2 : Hid (Rng (setBlock (w1.alloc (.cells #[.int .i64 f1, .int .i64 t1] 42)).drew b o) b W.heap.size (stays t1 (A ++ B) hs) (A ++ B)) := hR2.later (below_drewN 1 BX)
        have hlen := lenS_del (hrg1.map.nodup) hmem
        rw [← stays_del t1 rfl HN2.out] at hlen
        have hl3 : lenV (Value.slice a n c) = n := rfl
        rw [hl3] at hlen
        have KN : Hid (k + n + lenS (stays t1 (A ++ B) hs) = lenS hs) := by have := KK.out; unfold Hid; omega
        have hkn : k + n < 9223372036854775808 := by have := KN.out; have := HT.out; omega
        have hd1 := hd (w1.alloc (.cells #[.int .i64 f1, .int .i64 t1] 42)).drew (BX.block b (by have := F1.out.size; omega))
        unfold keyV at hd1
        have F2 : Hid (Fr W (setBlock (w1.alloc (.cells #[.int .i64 f1, .int .i64 t1] 42)).drew b o) [b]) := fr_set (fr_later F1.out (below_drewN 1 BX)) (by simp)
        clear hR2 hd hkey hmem hlen hl3 hrg1 hg1 KK
        go_wp2
        go_region
        go_wp2
        go_roundw
        case rel => exact ⟨k + n, by go_num, A ++ B, R2.out, HN3.out, I2.out, KN.out, F2.out⟩
        case measure => rw [R2.out.left_eq, RR.out.left_eq]; simp
      · have R2 := Lib.hid (hrg1.below BX)
        have e1 := stays_keep t (A := A) (B := B) (hs := hs) (k := (f1, t1)) (v := Value.slice a n c) ht1
        have R3 : Hid (Rng (w1.alloc (.cells #[.int .i64 f1, .int .i64 t1] 42)) b W.heap.size (stays t (A ++ B) hs) (A ++ B)) := by rw [e1]; exact R2.out
        have KN : Hid (k + lenS (stays t (A ++ B) hs) = lenS hs) := by rw [e1]; exact KK.out
        have F2 := Lib.hid (fr_later F1.out BX)
        have htb : (t1 == t) = false := by simp [ht1]
        clear hrg1 hg1 e1 ht1
        go_wp2
        go_roundw
        case rel => exact ⟨k, rfl, A ++ B, R3.out, HN3.out, I2.out, KN.out, F2.out⟩
        case measure => rw [R3.out.left_eq, RR.out.left_eq]; simp
theorem bs_clr (gs : List Bg) (t : Int) : bsOf (gs.filter fun x => decide (¬ x.k.2 = t)) = clrB (bsOf gs) t := by
  unfold bsOf clrB
  rw [List.filter_map]
  rfl
theorem hd_clr (gs : List Bg) (t : Int) : hdOf (gs.filter fun x => decide (¬ x.k.2 = t)) = (hdOf gs).filter fun h => decide (¬ h.1.2 = t) := by
  unfold hdOf
  rw [List.filter_map]
  rfl
theorem lenS_tot {W : World} : ∀ {gs : List Bg}, (∀ x ∈ gs, RowP W x) → lenS (hdOf gs) = tot (bsOf gs)
  | [], _ => rfl
  | x :: gs, h => by
    have h1 := h x (List.mem_cons_self ..)
    obtain ⟨j, c, cu, e1, _⟩ := h1.block
    show lenS ((x.k, x.v) :: hdOf gs) = tot ((x.k, x.ls) :: bsOf gs)
    rw [tot_cons, lenS_cons, lenS_tot fun y hy => h y (List.mem_cons_of_mem _ hy)]
    show lenV x.v + _ = x.ls.length + _
    rw [e1, h1.len]; rfl
set_option maxHeartbeats 1000000 in
theorem clear_any (W : World) (g : Nat) (bs : Bags) (own : List Nat) (t : Int) (h : NetC W g bs own) (ht : tot bs < 9223372036854775808) :
    Calls Try.prog 22 #[.pointer (some ⟨g, 0, none⟩), .int .i64 t] W fun e w' => e = .returned (.int .i64 ((tot bs - tot (clrB bs t) : Nat) : Int)) ∧ Step W w' g own (clrB bs t) := by
  have h0 := h
  obtain ⟨m, gs, hn, rfl, rfl⟩ := h
  have hrf : ∀ x ∈ gs.filter (fun x => decide (¬ x.k.2 = t)), RowP W x := fun x hx => hn.rows x (List.mem_filter.1 hx).1
  have e1 : lenS (hdOf gs) = tot (bsOf gs) := lenS_tot hn.rows
  have e2 : lenS ((hdOf gs).filter fun h => decide (¬ h.1.2 = t)) = tot (clrB (bsOf gs) t) := by rw [← hd_clr, ← bs_clr]; exact lenS_tot hrf
  have hc0 : W.cell? ⟨g, 0, none⟩ = some (.map m) := BoxC.cell (cs := #[.map m]) hn.hd.1 0 _ rfl
  have hg0 := lt_of_heap hn.hd.1
  cases m with
  | none =>
    have e0 : hdOf gs = [] := hn.hd.2
    have eg : gs = [] := List.map_eq_nil_iff.1 e0
    subst eg
    have hrg := run_range_nilMap (P := Try.prog) W 60 _ _ Try.underlying60
    have hnx : ∀ ty, (Instr.next (.pointer (some ⟨W.heap.size, 0, none⟩)) false ty).run Try.prog (W.alloc (.mapIter none 0 #[] 0)) = _ := fun ty => run_next_nilMap W ty 0 0 #[]
    have H0 := Lib.hid h0
    clear hn hrf h0 e1 e2
    go_enter Try.func22, Try.ntmps22
    go_wp2
    refine wp_loop_rounds 1 ?_
    rw [rounds_succ]
    go_wp2
    go_ret
    exact ⟨rfl, Step.same H0.out ((Below.refl _ _).alloc (Nat.le_refl _) _)⟩
  | some b =>
    have hgb : b ≠ g := fun e => by
      obtain ⟨_, es, c, h1, _⟩ := hn.hd.2
      rw [e, hn.hd.1] at h1
      cases h1
    refine (clear_gen W g b (hdOf gs) t hc0 hg0 hgb hn.hd.2.2 (by omega) hn.val).mono fun e w' ⟨he, hm, hF⟩ => ⟨by rw [he, e1, e2], ?_⟩
    have hbl : b < W.heap.size := by obtain ⟨_, es, c, h1, _⟩ := hn.hd.2; exact lt_of_heap h1
    have hu : U8s W w' := fun i cur fr hi => hF.block i (lt_of_heap hi) (fun e => by
      have e' : i = b := by simpa using e
      obtain ⟨_, es, c, h1, _⟩ := hn.hd.2
      rw [e', h1] at hi; cases hi)
    have hrow : ∀ x ∈ gs, ∀ j, x.v.ownBlock = some j → w'.heap[j]? = W.heap[j]? := fun x hx j hj => by
      obtain ⟨j', c, cu, e1, e2⟩ := (hn.rows x hx).block
      rw [e1] at hj
      have hj' : j' = j := by injection hj
      subst hj'
      refine hF.block j' (lt_of_heap e2) (fun e => ?_)
      have e' : j' = b := by simpa using e
      obtain ⟨_, es, c, h1, _⟩ := hn.hd.2
      rw [e', h1] at e2; cases e2
    have hgw : w'.heap[g]? = W.heap[g]? := hF.block g hg0 (by simp; exact fun e => hgb e.symm)
    refine ⟨ownN g (some b) (gs.filter fun x => decide (¬ x.k.2 = t)), ⟨some b, gs.filter (fun x => decide (¬ x.k.2 = t)), ⟨⟨hgw.trans hn.hd.1, hn.hd.2.1, by rw [hd_clr]; exact hm⟩, fun x hx => ?_, hn.apart.filter _⟩, (bs_clr gs t).symm, rfl⟩, ?_, fun i hi => .inl ?_⟩
    · exact (hrf x hx).moved hu hF.size fun j hj => hrow x (List.mem_filter.1 hx).1 j hj
    · exact ⟨hF.os, hF.tape, hF.output, hF.size, fun i hi hno => hF.block i hi (fun e => hno (by simp at e; subst e; unfold ownN; simp))⟩
    · unfold ownN at hi ⊢
      rcases List.mem_cons.1 hi with rfl | hi
      · exact List.mem_cons_self ..
      · rcases List.mem_append.1 hi with hi | hi
        · exact List.mem_cons_of_mem _ (List.mem_append_left _ hi)
        · obtain ⟨x, hx, hv⟩ := List.mem_filterMap.1 hi
          exact List.mem_cons_of_mem _ (List.mem_append_right _ (List.mem_filterMap.2 ⟨x, (List.mem_filter.1 hx).1, hv⟩))
end Go.Proofs.Ytgdgjgcmglgfmaa
