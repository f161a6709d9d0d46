/- Contract of net's Links: its links, each once, rising. Condition: the net lies in memory. -/
import Derived.Test.YtgdgjgcmglgfmaaNetCompare
import Derived.Test.YtgdgjgcmglgfmaaShelf
import Derived.Sort.OwnSorted
namespace Go.Proofs.Ytgdgjgcmglgfmaa

open Go.RowKit

open Go.ChangeMaps (setBlock)

set_option linter.unusedVariables false
set_option linter.unusedSimpArgs false

theorem flatK_eq (ks : List Lk) : Sort.flatK lkC 2 ks.toArray = (ks.flatMap lkC).toArray := by
  refine Sort.ext_get! (by rw [Sort.size_flatK]; simp only [List.size_toArray, lkC_len]) fun t ht => ?_
  have ht' : t < ks.length * 2 := by simpa using ht
  have h := flat_get lkC 2 (fun _ => rfl) ks (t / 2) (t % 2) (by omega) (by omega)
  rw [show t / 2 * 2 + t % 2 = t by omega] at h
  have hl : t < (ks.flatMap lkC).length := by rw [lkC_len]; exact ht'
  have hl2 : t % 2 < (lkC (ks[t / 2]'(by omega))).length := by show t % 2 < 2; omega
  rw [List.getElem?_eq_getElem hl, List.getElem?_eq_getElem hl2] at h
  injection h with h
  rw [Sort.get_flatK _ _ _ t (by simpa using ht'), getElem!_pos ks.toArray (t / 2) (by simp; omega), List.getElem_toArray, getElem!_pos (lkC _) (t % 2) hl2, getElem!_pos (ks.flatMap lkC).toArray t (by simpa using hl), List.getElem_toArray]
  exact h.symm
theorem holds_links {w : World} {g : Nat} {cur : Array Value} {e : TypeId} {ks : List Lk} (hb : w.heap[g]? = some (.cells cur e (0, 0))) (ht : cur.toList.take (ks.length * 2) = ks.flatMap lkC) : Sort.HoldsK lkC 2 w g 0 ks.toArray := by
  unfold Sort.HoldsK
  rw [flatK_eq]
  intro j hj
  have hj' : j < (ks.flatMap lkC).length := by simpa using hj
  refine ⟨?_, by simp [World.frozen?, hb]⟩
  have h1 : (cur.toList.take (ks.length * 2))[j]? = (ks.flatMap lkC)[j]? := by rw [ht]
  rw [List.getElem?_take_of_lt (by rw [lkC_len] at hj'; exact hj')] at h1
  simp only [World.cell?, hb, Nat.zero_add]
  simp only [Option.isSome_none, Bool.false_eq_true, if_false]
  rw [← Array.getElem?_toList, h1, List.getElem?_eq_getElem hj', getElem!_pos (ks.flatMap lkC).toArray j (by simpa using hj'), List.getElem_toArray]
  rfl
theorem heap_sortedK {w : World} {g n : Nat} {os : Array Obj} {cur : Array Value} {e : TypeId} {fr : Nat × Nat} (d : Array Value) (hb : w.heap[g]? = some (.cells cur e fr)) :
    (Sort.grow (Sort.putRow id (Sort.ahead w n) g 0 d) os).heap[g]? = some (.cells (Sort.putCells id 0 d cur) e fr) := by
  have hg : g < w.heap.size := (Array.getElem?_eq_some_iff.1 hb).1
  rw [Sort.heap_grow_old _ _ (by simpa using hg)]
  simp [Sort.putRow, Sort.mapBlock, Sort.ahead, Array.getElem?_modify, hb, Sort.onCells]
theorem grownBy_sortedK {w : World} {g n : Nat} {os : Array Obj} (d : Array Value) : w.grownBy (Sort.grow (Sort.putRow id (Sort.ahead w n) g 0 d) os) (some g) := by
  refine ⟨rfl, rfl, rfl, by simp, fun k hk hne => ?_⟩
  rw [Sort.heap_grow_old _ _ (by simpa using hk)]
  have : g ≠ k := fun e => hne (by rw [e])
  simp [Sort.putRow, Sort.mapBlock, Sort.ahead, Array.getElem?_modify, this]
theorem take_putK (cur : Array Value) (ts : List Value) (h : ts.length ≤ cur.size) : (Sort.putCells id 0 ts.toArray cur).toList.take ts.length = ts := by
  apply List.ext_getElem?
  intro j
  by_cases hj : j < ts.length
  · rw [List.getElem?_take_of_lt hj, Array.getElem?_toList]
    simp [Sort.putCells, hj, show j < cur.size by omega]
  · rw [List.getElem?_take_eq_none (by omega), List.getElem?_eq_none (by omega)]
theorem own_sortedK {w : World} {base g cap n : Nat} {e : TypeId} {os : Array Obj} {cur : Array Value} {ks ts : List Lk} (hl : ts.length = ks.length) (hbase : base ≤ g) (hb : w.heap[g]? = some (.cells cur e (0, 0)))
    (h1 : ks.length ≤ cap) (h2 : cap ≤ maxLen) (h3 : cur.size = cap * 2) :
    (sortWorldK lkC 2 w g 0 n ts.toArray os).ownsRow base e 2 (.slice (some ⟨g, 0, none⟩) ks.length cap) ks.length (ts.flatMap lkC) := by
  unfold sortWorldK Sort.putRowK
  rw [flatK_eq]
  refine ⟨by rw [lkC_len, hl], .inr ⟨g, cap, _, rfl, hbase, heap_sortedK _ hb, h1, h2, by simp [Sort.putCells, h3], ?_⟩⟩
  have h := take_putK cur (ts.flatMap lkC) (by rw [lkC_len, hl, h3]; omega)
  rw [lkC_len, hl] at h
  exact h
/-- Links rise by From, then by To. -/
def ltL (x y : Lk) : Bool := decide (x.1 < y.1 ∨ (x.1 = y.1 ∧ x.2 < y.2))
theorem ltOf_cmpL : ltOf cmpL = ltL := by
  funext x y
  unfold ltOf cmpL orI ltL Lib.compareInt
  rcases Int.lt_trichotomy x.1 y.1 with h | h | h
  · rw [if_pos h]; simp [h]
  · rw [h]
    rcases Int.lt_trichotomy x.2 y.2 with h2 | h2 | h2
    · simp [h2]
    · simp [h2]
    · simp [h2, show ¬ x.2 < y.2 by omega]
  · simp [h, show ¬ x.1 < y.1 by omega, show ¬ x.1 = y.1 by omega]
theorem ltL_irrefl (x : Lk) : ltL x x = false := by unfold ltL; simp
theorem ltL_trans (x y z : Lk) (h1 : ltL x y = true) (h2 : ltL y z = true) : ltL x z = true := by unfold ltL at *; simp at *; omega
theorem ltL_ntrans (x y z : Lk) (h1 : ltL x y = false) (h2 : ltL y z = false) : ltL x z = false := by unfold ltL at *; simp at *; omega
theorem ltL_total (x y : Lk) (h1 : ltL x y = false) (h2 : ltL y x = false) : x = y := by
  unfold ltL at *
  simp at h1 h2
  exact Prod.ext (by omega) (by omega)
theorem swoL : Sort.SWO (ltOf cmpL) := by rw [ltOf_cmpL]; exact ⟨ltL_irrefl, ltL_trans, ltL_ntrans⟩
/-- Rising, none twice. -/
def Rise (ks : List Lk) : Prop := ks.Pairwise fun x y => ltL x y = true
theorem rise_sort (ks : List Lk) (hn : ks.Nodup) : Rise (ks.mergeSort fun x y => !ltL y x) := by
  have hs : (ks.mergeSort fun x y => !ltL y x).Pairwise fun x y => (!ltL y x) = true := by
    refine List.pairwise_mergeSort (fun x y z h1 h2 => ?_) (fun x y => ?_) ks
    · simp at h1 h2 ⊢
      exact ltL_ntrans z y x h2 h1
    · cases h : ltL y x
      · simp
      · have : ltL x y = false := by
          cases h' : ltL x y
          · rfl
          · have := ltL_trans x y x h' h
            rw [ltL_irrefl] at this; cases this
        simp [this]
  have hd : (ks.mergeSort fun x y => !ltL y x).Nodup := (List.mergeSort_perm ks _).nodup_iff.2 hn
  refine (hs.and hd).imp fun {x y} h => ?_
  cases h' : ltL x y
  · exact absurd (ltL_total x y h' (by simpa using h.1)) h.2
  · rfl
theorem rise_eq : ∀ {ks ls : List Lk}, Rise ks → Rise ls → (∀ x, x ∈ ks ↔ x ∈ ls) → ks = ls
  | [], [], _, _, _ => rfl
  | [], y :: ls, _, _, h => by have := (h y).2 (List.mem_cons_self ..); cases this
  | x :: ks, [], _, _, h => by have := (h x).1 (List.mem_cons_self ..); cases this
  | x :: ks, y :: ls, h1, h2, h => by
    obtain ⟨p1, p2⟩ := List.pairwise_cons.1 h1
    obtain ⟨q1, q2⟩ := List.pairwise_cons.1 h2
    have hxy : x = y := by
      rcases List.mem_cons.1 ((h x).1 (List.mem_cons_self ..)) with e | hx
      · exact e
      · rcases List.mem_cons.1 ((h y).2 (List.mem_cons_self ..)) with e | hy
        · exact e.symm
        · have := ltL_trans x y x (p1 y hy) (q1 x hx)
          rw [ltL_irrefl] at this; cases this
    subst hxy
    congr 1
    refine rise_eq p2 q2 fun z => ⟨fun hz => ?_, fun hz => ?_⟩
    · rcases List.mem_cons.1 ((h z).1 (List.mem_cons_of_mem _ hz)) with e | hz'
      · have := p1 z hz
        rw [e, ltL_irrefl] at this; cases this
      · exact hz'
    · rcases List.mem_cons.1 ((h z).2 (List.mem_cons_of_mem _ hz)) with e | hz'
      · have := q1 z hz
        rw [e, ltL_irrefl] at this; cases this
      · exact hz'
theorem cmpLays (blk off size : Nat) (w : World) : CmpLays Try.prog 31 #[] lkC 2 cmpL blk off size w :=
  fun _ _ _ _ x y => compare_any x y _
theorem sort_any (g cap : Nat) (ks : List Lk) (W : World) (hH : Sort.HoldsK lkC 2 W g 0 ks.toArray) (hg : g < W.heap.size) (hsz : ks.length < 4611686018427387904) :
    Calls Try.prog 42 #[.slice (some ⟨g, 0, none⟩) ks.length cap, .func (.func 31) #[] #[]] W fun e w' => e = .returned (.tuple #[]) ∧ ∃ n os, w' = sortWorldK lkC 2 W g 0 n (ks.mergeSort fun x y => !ltL y x).toArray os := by
  have h := AnyQ.slices_SortFunc_total Try.laysSort 2 Try.isAgg42 Try.sizeOf42 lkC (fun _ => rfl) (fun x v hv => by simp [lkC] at hv; rcases hv with rfl | rfl <;> rfl) cmpL swoL 31 #[] g 0 cap ks.toArray W (enters_of Try.func31 (by kernel_rfl) rfl) (cmpLays g 0 ks.toArray.size W) hH hg (by simpa using hsz) (by rw [ltOf_cmpL]; exact ltL_total)
  rw [ltOf_cmpL] at h
  exact h
theorem sort_no (p : Option Addr) (cap : Nat) (fv : Value) (W : World) : Calls Try.prog 42 #[.slice p 0 cap, fv] W fun e w' => e = .returned (.tuple #[]) ∧ w' = W :=
  AnyF.slices_SortFunc_none Try.laysSort p cap fv W

set_option maxRecDepth 100000 in
set_option maxHeartbeats 2000000 in
theorem sortedFunc_any (g : Nat) (lb : Array Value) (eg : ∀ args w, (callFunc g args).run Try.prog w = .ok (.enter g args) w) (l : List Lk) (hl : l.Nodup) (hN : l.length ≤ 1099511627776) (w : World)
    (hseq : SeqStopsK Fence.wide 7 Try.prog g lb (fun x : Lk => #[.agg #[.int .i64 x.1, .int .i64 x.2]]) KeepsWalks (fun ks => ks.Perm l) (fun _ => True) l.length w) :
    Calls Try.prog 29 #[.func (.func g) #[] lb, .func (.func 31) #[] #[]] w fun e w' => ∃ (v : Value) (ks : List Lk), e = .returned v ∧ ks.Perm l ∧ Rise ks ∧ w'.ownsRow w.heap.size 42 2 v ks.length (ks.flatMap lkC) ∧ Below w.heap.size w w' := by
  have cC := callsIn_wide.1 (collect_in Fence.wide 9 trivial trivial rfl (by omega) g lb trivial eg (fun ks => ks.Perm l) l.length (by unfold maxLen; omega) (by omega) w hseq)
  clear hseq
  go_enter Try.func29, Try.ntmps29
  go_wp2_with (go_at_call 41; ((with_reducible refine cC.mono ?_); rintro e W ⟨v, ks, rfl, hS, hrow, hb⟩))
  rcases hrow.2 with ⟨rfl, hz⟩ | ⟨gb, cap, cur, rfl, hbase, hgb, r1, r2, r3, r4⟩
  · have hss : ks = [] := List.eq_nil_of_length_eq_zero hz
    subst hss
    have cS := fun fv => sort_no none 0 fv W
    go_wp2_with (go_at_call 42; ((with_reducible refine (cS _).mono ?_); rintro e w' ⟨rfl, rfl⟩))
    go_ret
    exact ⟨.slice none 0 0, [], rfl, hS, .nil, by simpa using hrow, hb⟩
  · have hlen := hS.length_eq
    have cS := sort_any gb cap ks W (holds_links hgb r4) (Array.getElem?_eq_some_iff.1 hgb).1 (by omega)
    have R := Lib.hid hrow
    have S := Lib.hid hS
    have B := Lib.hid hb
    have HG := Lib.hid hgb
    clear hrow hS hb hlen
    go_wp2_with (go_at_call 42; ((with_reducible refine cS.mono ?_); rintro e w' ⟨rfl, nn, os, hw⟩; have HW := Lib.hid hw; clear hw))
    go_ret
    have hp := List.mergeSort_perm ks fun x y => !ltL y x
    refine ⟨_, ks.mergeSort fun x y => !ltL y x, rfl, hp.trans S.out, rise_sort ks (S.out.nodup_iff.2 hl), ?_, ?_⟩
    · rw [HW.out, hp.length_eq]
      exact own_sortedK hp.length_eq hbase HG.out r1 r2 r3
    · rw [HW.out]
      exact B.out.grown (grownBy_sortedK _) B.out.size (fun j hj => by cases hj; exact hbase)

set_option maxRecDepth 100000 in
set_option maxHeartbeats 2000000 in
theorem links_any (W : World) (g : Nat) (bs : Bags) (own : List Nat) (h : NetC W g bs own) (hN : bs.length ≤ 1099511627776) :
    Calls Try.prog 13 #[.pointer (some ⟨g, 0, none⟩)] W fun e w' => ∃ (v : Value) (ks : List Lk), e = .returned v ∧ ks.Perm (bs.map (·.1)) ∧ Rise ks ∧ w'.ownsRow W.heap.size 42 2 v ks.length (ks.flatMap lkC) ∧ Below W.heap.size W w' := by
  obtain ⟨m, gs, hn, rfl, rfl⟩ := h
  have hc0 : W.cell? ⟨g, 0, none⟩ = some (.map m) := BoxC.cell (cs := #[.map m]) hn.hd.1 0 _ rfl
  have hk : (hdOf gs).map (·.1) = (bsOf gs).map (·.1) := by rw [keys_hd, keys_bs]
  have hnd := hn.nodup
  have hM : MapO W m (hdOf gs) := by
    have h2 := hn.hd.2
    cases m with
    | none => exact h2
    | some b => exact h2.2
  have hB1 : Below W.heap.size W (W.alloc (.cells #[.map m] 60)) := (Below.refl _ _).alloc (Nat.le_refl _) _
  have hlenh : (hdOf gs).length = ((bsOf gs).map (·.1)).length := by rw [← hk, List.length_map]
  have hbx := (BoxC.new W #[.map m] 60).cell 0 _ rfl
  have cK := callsIn_wide.1 (keys_in Fence.wide 9 trivial rfl m W)
  have hst := keys_stops Fence.wide 7 trivial rfl (by omega) W.heap.size m (hdOf gs) (W.alloc (.cells #[.map m] 60)) (by simp) hbx (hM.below hB1)
  rw [hk, hlenh] at hst
  have cS := sortedFunc_any 43 #[.pointer (some ⟨W.heap.size, 0, none⟩)] (enters_of Try.func43 (by kernel_rfl) rfl) ((bsOf gs).map (·.1)) hnd (by simpa using hN) _ hst
  have B1 := Lib.hid hB1
  clear hM hn hk hnd hlenh hst hbx hB1
  generalize (bsOf gs).map (·.1) = l at *
  go_enter Try.func13, Try.ntmps13
  go_wp2_with (first | (go_at_call 30; ((with_reducible refine cK.mono ?_); rintro e w1 ⟨rfl, rfl⟩)) | (go_at_call 29; ((with_reducible refine cS.mono ?_); rintro e w2 ⟨v, ks, rfl, hp, hr, hrow, hb⟩; have P := Lib.hid hp; have R := Lib.hid hr; have O := Lib.hid hrow; have B := Lib.hid hb; clear hp hr hrow hb)))
  go_ret
  refine ⟨v, ks, rfl, P.out, R.out, ?_, B1.out.trans (B.out.mono B1.out.size)⟩
  refine ⟨O.out.1, ?_⟩
  rcases O.out.2 with h | ⟨g', cap, cur, hv, hbg, rest⟩
  · exact .inl h
  · exact .inr ⟨g', cap, cur, hv, Nat.le_trans B1.out.size hbg, rest⟩
end Go.Proofs.Ytgdgjgcmglgfmaa
