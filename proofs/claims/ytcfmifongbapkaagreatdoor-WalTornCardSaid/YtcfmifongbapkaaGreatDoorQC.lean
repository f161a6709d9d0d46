/- Plain mathematics of layer config: bounds that rise and whose a key is, the groups of many keys, replicas and their places. No condition. Contracts of the document's own Same, Put and PutText. Conditions: what they are handed lies in memory; the numbers are small. What came in as a slice of bytes reads as a list of bytes. No condition. -/
import Derived.WalkKit
import Derived.Sort.Walk0
import Derived.Test.YtcfmifongbapkaaGreatDoorQA
import Derived.Deep.QuietTactic
import Derived.BigQuiet
/- ConfigMath -/
namespace Go.Proofs.YtcfmifongbapkaaGreatDoor

/-- Whether the bound b isn't above the key k. -/
def leB (b k : List UInt8) : Bool := !Op.bytesLess k b
theorem leB_iff (b k : List UInt8) : leB b k = true ↔ ¬ k < b := by
  have := bytesLess_eq k b
  unfold leB; rw [this]; simp
theorem leB_eq (b k : List UInt8) : (Op.bytesLess b k || b == k) = leB b k := by
  have h1 := bytesLess_eq b k
  have h2 := bytesLess_eq k b
  unfold leB
  rw [h1, h2, Bool.eq_iff_iff]
  simp only [Bool.or_eq_true, decide_eq_true_eq, beq_iff_eq, Bool.not_eq_true', decide_eq_false_iff_not]
  constructor
  · rintro (h | rfl)
    · exact fun h' => List.lt_irrefl _ (List.lt_trans h h')
    · exact List.lt_irrefl _
  · intro h
    by_cases hb : b < k
    · exact .inl hb
    · exact .inr (List.le_antisymm (List.not_lt.1 h) (List.not_lt.1 hb))
/-- The same of texts, as the model compares them. -/
theorem leS (z s : ByteArray) : (Op.bytesLess z.toList s.toList || z.toList == s.toList) = leB z.data.toList s.data.toList := by
  rw [ByteArray.toList_eq, ByteArray.toList_eq]; exact leB_eq _ _
theorem ltS (z s : ByteArray) : Op.bytesLess z.toList s.toList = !leB s.data.toList z.data.toList := by
  rw [ByteArray.toList_eq, ByteArray.toList_eq]; unfold leB; rw [Bool.not_not]
theorem leB_trans {a b c : List UInt8} (h : leB a b = true) (h' : leB b c = true) : leB a c = true := by
  rw [leB_iff] at *
  exact List.not_lt.2 (List.le_trans (List.not_lt.1 h) (List.not_lt.1 h'))
theorem leB_self (a : List UInt8) : leB a a = true := by rw [leB_iff]; exact List.lt_irrefl a
theorem leB_of_lt {a b : List UInt8} (h : a < b) : leB a b = true := by rw [leB_iff]; exact fun h' => List.lt_irrefl _ (List.lt_trans h h')
theorem leB_nil {b : List UInt8} (h : b ≠ []) : leB b [] = false := by
  cases b with
  | nil => exact absurd rfl h
  | cons c t => rfl

/-- How many bounds aren't above k. -/
def homeC (Bs : List (List UInt8)) (k : List UInt8) : Nat := (Bs.filter fun b => leB b k).length
theorem homeC_le (Bs : List (List UInt8)) (k : List UInt8) : homeC Bs k ≤ Bs.length := List.length_filter_le _ _
theorem homeC_snoc (Bs : List (List UInt8)) (b k : List UInt8) : homeC (Bs ++ [b]) k = homeC Bs k + (if leB b k then 1 else 0) := by
  unfold homeC; rw [List.filter_append, List.length_append]
  cases h : leB b k <;> simp [h]
/-- Each bound lies behind the ones ahead of it. -/
def risesB (Bs : List (List UInt8)) : Prop := Bs.Pairwise (· < ·)
theorem homeC_mono (Bs : List (List UInt8)) {a b : List UInt8} (h : leB a b = true) : homeC Bs a ≤ homeC Bs b := by
  unfold homeC
  induction Bs with
  | nil => exact Nat.le_refl _
  | cons x r ih =>
    rw [List.filter_cons, List.filter_cons]
    cases hx : leB x a
    · cases leB x b <;> simp <;> omega
    · rw [leB_trans hx h]; simpa using ih
/-- Of bounds that rise just the first ones aren't above k. -/
theorem homeC_iff (Bs : List (List UInt8)) (k : List UInt8) (hr : risesB Bs) (i : Nat) (hi : i < Bs.length) : leB Bs[i] k = true ↔ i < homeC Bs k := by
  induction Bs generalizing i with
  | nil => simp at hi
  | cons x r ih =>
    obtain ⟨hx, hr'⟩ := List.pairwise_cons.1 hr
    cases h : leB x k
    · have hz : ∀ y ∈ r, leB y k = false := by
        intro y hy
        cases hy' : leB y k
        · rfl
        · rw [leB_trans (leB_of_lt (hx y hy)) hy'] at h; cases h
      have h0 : homeC (x :: r) k = 0 := by
        unfold homeC
        rw [List.length_eq_zero_iff, List.filter_eq_nil_iff]
        intro y hy
        rcases List.mem_cons.1 hy with rfl | hy
        · simp [h]
        · simp [hz y hy]
      rw [h0]
      cases i with
      | zero => simp [h]
      | succ i => simp [hz _ (List.getElem_mem _)]
    · have h1 : homeC (x :: r) k = homeC r k + 1 := by unfold homeC; rw [List.filter_cons]; simp [h]
      rw [h1]
      cases i with
      | zero => simp [h]
      | succ i =>
        have := ih hr' i (by simpa using hi)
        simp only [List.getElem_cons_succ]
        rw [this]; omega
/-- A bound begins its group. -/
theorem homeC_bound (Bs : List (List UInt8)) (hr : risesB Bs) (i : Nat) (hi : i < Bs.length) : homeC Bs Bs[i] = i + 1 := by
  have h1 := (homeC_iff Bs Bs[i] hr i hi).1 (leB_self _)
  have h2 := homeC_le Bs Bs[i]
  rcases Nat.lt_or_ge (i + 1) (homeC Bs Bs[i]) with h | h
  · exfalso
    have h3 := (homeC_iff Bs Bs[i] hr (i + 1) (by omega)).2 h
    have h4 := List.pairwise_iff_getElem.1 hr i (i + 1) hi (by omega) (by omega)
    rw [leB_iff] at h3
    exact h3 h4
  · omega
theorem homeC_empty (Bs : List (List UInt8)) (h : ∀ b ∈ Bs, b ≠ []) : homeC Bs [] = 0 := by
  unfold homeC
  rw [List.length_eq_zero_iff, List.filter_eq_nil_iff]
  intro b hb
  simp [leB_nil (h b hb)]

/-- The groups that are among hs, rising. -/
def groupsC (n : Nat) (hs : List Nat) : List Nat := (List.range n).filter fun g => decide (g ∈ hs)
theorem groupsC_congr (n : Nat) {hs ks : List Nat} (h : ∀ g, g ∈ hs ↔ g ∈ ks) : groupsC n hs = groupsC n ks := by
  unfold groupsC
  apply List.filter_congr
  intro g _
  simp [h g]
theorem groupsC_snoc (n : Nat) (hs : List Nat) : groupsC (n + 1) hs = groupsC n hs ++ (if n ∈ hs then [n] else []) := by
  unfold groupsC
  rw [List.range_succ, List.filter_append]
  by_cases h : n ∈ hs <;> simp [h]
theorem groupsC_len (n : Nat) (hs : List Nat) : (groupsC n hs).length ≤ n := by
  have := List.length_filter_le (fun g => decide (g ∈ hs)) (List.range n)
  simpa [groupsC] using this

/-- The replica of a place; the place of a replica. -/
def atL : List Nat → Nat → Option (Nat × Nat)
  | [], _ => none
  | r :: R, p => if p < r then some (0, p) else (atL R (p - r)).map fun x => (x.1 + 1, x.2)
def placeL : List Nat → Nat → Nat → Option Nat
  | [], _, _ => none
  | r :: _, 0, k => if k < r then some k else none
  | r :: R, g + 1, k => (placeL R g k).map (· + r)
theorem atL_iff (R : List Nat) (p g k : Nat) : atL R p = some (g, k) ↔ placeL R g k = some p := by
  induction R generalizing p g with
  | nil => simp [atL, placeL]
  | cons r R ih =>
    cases g with
    | zero =>
      rw [atL, placeL]
      by_cases h : p < r
      · rw [if_pos h]
        by_cases hk : k < r
        · rw [if_pos hk]; simp; omega
        · rw [if_neg hk]; simp; omega
      · rw [if_neg h]
        by_cases hk : k < r
        · rw [if_pos hk]; simp; omega
        · rw [if_neg hk]; simp
    | succ g =>
      rw [atL, placeL]
      by_cases h : p < r
      · rw [if_pos h]
        constructor
        · intro e; simp at e
        · intro e
          obtain ⟨q, _, hq⟩ := Option.map_eq_some_iff.1 e
          omega
      · rw [if_neg h]
        constructor
        · intro e
          obtain ⟨⟨g', k'⟩, h1, h2⟩ := Option.map_eq_some_iff.1 e
          simp at h2
          obtain ⟨rfl, rfl⟩ := h2
          rw [(ih (p - r) g').1 h1]
          simp; omega
        · intro e
          obtain ⟨q, h1, h2⟩ := Option.map_eq_some_iff.1 e
          have : p - r = q := by omega
          rw [this, (ih q g).2 h1]; rfl
theorem atL_some (R : List Nat) (p : Nat) : (∃ x, atL R p = some x) ↔ p < R.sum := by
  induction R generalizing p with
  | nil => simp [atL]
  | cons r R ih =>
    rw [atL, List.sum_cons]
    by_cases h : p < r
    · rw [if_pos h]; simp; omega
    · rw [if_neg h]
      have := ih (p - r)
      constructor
      · rintro ⟨x, hx⟩
        obtain ⟨y, hy, _⟩ := Option.map_eq_some_iff.1 hx
        have := this.1 ⟨y, hy⟩
        omega
      · intro hp
        obtain ⟨y, hy⟩ := this.2 (by omega)
        exact ⟨_, by rw [hy]; rfl⟩
theorem atL_none (R : List Nat) (p : Nat) (h : R.sum ≤ p) : atL R p = none := by
  cases e : atL R p with
  | none => rfl
  | some x => have := (atL_some R p).1 ⟨x, e⟩; omega
/-- The place by sums. -/
theorem placeL_eq (R : List Nat) (g k : Nat) : placeL R g k = if h : g < R.length then (if k < R[g] then some ((R.take g).sum + k) else none) else none := by
  induction R generalizing g with
  | nil => simp [placeL]
  | cons r R ih =>
    cases g with
    | zero => rw [placeL]; simp
    | succ g =>
      rw [placeL, ih]
      by_cases h : g < R.length
      · by_cases hk : k < R[g]
        · simp [h, hk]; omega
        · simp [h, hk]
      · simp [h]
end Go.Proofs.YtcfmifongbapkaaGreatDoor

/- CodeRef -/
namespace Go.Proofs.YtcfmifongbapkaaGreatDoor

open Go.RowKit

set_option linter.unusedVariables false

/-- b is answered, and nothing but the draws has gone on. -/
def Reads1 (w : World) (v : Value) (e : Ending) (w' : World) : Prop := e = .returned v ∧ ∃ k, w' = w.drewN k

set_option maxHeartbeats 1000000 in
theorem same_yes (a a' : Option Addr) (n c c' B B' : Nat) (l : List UInt8) (w : World) (h : BAt w B a n l) (h' : BAt w B' a' n l) (hn : n ≤ maxLen) :
    Calls Tryz.prog 19 #[.slice a n c, .slice a' n c'] w (Reads1 w (.bool true)) := by
  unfold maxLen at hn
  go_enter Tryz.func19, Tryz.ntmps19
  go_wp2
  go_loopw [5] (fun i wr => ∃ (k q : Nat), k ≤ n ∧ i = .int .i64 k ∧ wr = w.drewN q) (fun i _ => n - (intOf i).toNat)
  case atStart => exact ⟨0, 0, by omega, rfl, rfl⟩
  case round =>
    obtain ⟨k, q, hk, rfl, rfl⟩ := hrel
    have hlen := h.len
    by_cases hlt : k < n
    · obtain ⟨b, off, rfl, _, hc⟩ := h.at_ (i := k) (by omega)
      obtain ⟨b', off', rfl, _, hc'⟩ := h'.at_ (i := k) (by omega)
      generalize l[k].toNat = v at *
      clear h h' hlen
      go_upto_region 6 with (fail)
      go_quiet (fail)
      go_wp2
      go_roundw
      case rel => exact ⟨k + 1, _, by omega, by go_num, rfl⟩
      case measure => simp [intOf]; omega
    · clear hlen h h'
      go_wp2
      go_ret
      exact ⟨rfl, q, rfl⟩

theorem same_two (a a' : Option Addr) (n n' c c' B B' : Nat) (l : List UInt8) (w : World) (h : BAt w B a n l) (h' : BAt w B' a' n' l) (hn : n ≤ maxLen) :
    Calls Tryz.prog 19 #[.slice a n c, .slice a' n' c'] w (Reads1 w (.bool true)) := by
  have e1 := h.len
  have e2 := h'.len
  obtain rfl : n' = n := by omega
  exact same_yes a a' n' c c' B B' l w h h' hn

set_option maxHeartbeats 1000000 in
set_option maxRecDepth 100000 in
theorem refPut_any (a : Option Addr) (m c x : Nat) (n : Int) (l : List UInt8) (w : World) (hl : BAt w w.heap.size a m l) (hlen : m ≤ 1099511627776) (hx : x < 18446744073709551616) (hn1 : -1000 ≤ n) (hn2 : n ≤ 1000) :
    Calls Tryz.prog 40 #[.slice a m c, .int .u64 x, .int .i64 n] w (NewB w (l ++ putB x (held n))) := by
  obtain ⟨i0, hi, hz0, hz1, hz2⟩ := info_parts Tryz.info5
  have hml := hl.len
  have hk8 := held_le n
  obtain ⟨k, hk⟩ : ∃ k, k = held n := ⟨_, rfl⟩
  have hkn : (k : Int) = min (max n 0) 8 := by rw [hk]; unfold held; omega
  rw [← hk] at hk8 ⊢
  clear hk
  go_enter Tryz.func40, Tryz.ntmps40
  go_wp2_with (at_builtin; (refine wpList_append_bytes _ rfl _ _ 34 rfl w.heap.size 5 i0 Tryz.underlying34 hi hz0 hz1 hz2 _ 0 [] rfl (World.ownsRow_nil _ _ _ _) w.heap.size a m l c rfl hl (by omega) (Nat.le_refl _) ?_; intro v' w1 hown hg; have hin : PutIn w w1 v' (0 + m) ([] ++ l) := ⟨hown, (Below.refl _ _).grown hg (Nat.le_refl _) (by intro j hj; cases hj)⟩; clear hown hg))
  go_loopw [7, 8] (fun v i wr => ∃ (j : Nat) (d : List UInt8) (q : Nat), j ≤ 8 ∧ i = .int .i64 j ∧ d ++ putB x (min k (8 - j)) = putB x k ∧ PutIn w wr v q (l ++ d)) (fun _ i _ => 8 - (intOf i).toNat)
  case atStart => exact ⟨0, [], _, by omega, rfl, by rw [Nat.min_eq_left (by omega)]; rfl, hin.cast (by simp)⟩
  case round =>
    obtain ⟨j, d, q, hj, rfl, hd, hM⟩ := hrel
    clear hin
    by_cases h8 : j < 8
    · have hdl : q ≤ 1099511627800 := by have h1 := congrArg List.length hd; have h2 := hM.len; simp [putB_len] at h1 h2; omega
      by_cases hge : 8 - n ≤ (j : Int)
      · have e1 : min k (8 - j) = (7 - j) + 1 := by omega
        rw [e1] at hd
        have HD := Lib.hid hd; clear hd hml e1
        obtain ⟨t, ht⟩ : ∃ t : Nat, t = 7 - j := ⟨_, rfl⟩
        have ht' : (7 : Int) - (j : Int) = (t : Int) := by omega
        have htn : min k (8 - (j + 1)) = t := by omega
        rw [← ht] at HD
        have hown := hM.1
        have hsz := hM.2.size
        clear ht hkn
        have HTN := Lib.hid htn
        clear htn
        go_upto_region 7 with (fail)
        go_wp2_with (at_builtin; (refine wpList_append_bytes _ rfl _ _ 34 rfl w.heap.size 5 i0 Tryz.underlying34 hi hz0 hz1 hz2 _ q (l ++ d) rfl (hown.alloc _) (wr.heap.size + 1) (some ⟨wr.heap.size, 0, none⟩) 1 [UInt8.ofNat (x / 256 ^ t)] 1 rfl (BAt.one _ _ _ _ (byte_eq x t)) (by omega) (by simp; omega) ?_; intro v2 w2 ho2 hg2; have R := hM.next ho2 hg2; clear ho2 hg2))
        go_roundw
        case rel => exact ⟨j + 1, d ++ [UInt8.ofNat (x / 256 ^ t)], _, by omega, by go_num, by rw [HTN.out, ← HD.out]; simp [putB], R.cast (by simp)⟩
        case measure => simp [intOf]; omega
      · have e1 : min k (8 - j) = k := by omega
        have e2 : min k (8 - (j + 1)) = k := by omega
        rw [e1] at hd
        have HD := Lib.hid hd; have E2 := Lib.hid e2; clear hd hml e1 e2 hkn
        go_wp2
        go_roundw
        case rel => exact ⟨j + 1, d, _, by omega, by go_num, by rw [E2.out]; exact HD.out, hM⟩
        case measure => simp [intOf]; omega
    · have e1 : min k (8 - j) = 0 := by omega
      rw [e1] at hd
      have HR : PutIn w wr u7 q (l ++ putB x k) := hM.cast (by rw [← hd]; simp [putB])
      clear hd hM hml hkn e1
      go_wp2
      go_ret
      exact HR.out

set_option maxHeartbeats 1000000 in
theorem refPutText_any (a : Option Addr) (m c : Nat) (s : ByteArray) (l : List UInt8) (w : World) (hl : BAt w w.heap.size a m l) (hlen : m ≤ 1099511627000) (hs : s.size ≤ maxLen) :
    Calls Tryz.prog 107 #[.slice a m c, .string s] w (NewB w (l ++ textB s.data.toList)) := by
  obtain ⟨i0, hi, hz0, hz1, hz2⟩ := info_parts Tryz.info5
  unfold maxLen at hs
  by_cases h : s.size ≤ 65535
  · have hd : decide ((65535 : Int) < (s.size : Int)) = false := by simp; omega
    go_enter Tryz.func107, Tryz.ntmps107
    go_wp2_with (first | (go_at_call 40; ((with_reducible refine (refPut_any _ _ _ _ _ _ _ hl (by omega) (by omega) (by omega) (by omega)).mono ?_); rintro e w1 ⟨a1, n1, c1, rfl, ho, hb⟩)) | (at_builtin; (refine wpList_append_text _ rfl _ _ 34 9 rfl w.heap.size 5 i0 Tryz.underlying34 Tryz.underlying9 hi hz0 hz1 hz2 _ n1 _ rfl ho s rfl (by have := own_len ho; simp [putB_len, held] at this; have := hl.len; omega) hb.size ?_; intro v2 w2 ho2 hg2; have R : PutIn w w2 v2 _ _ := PutIn.next0 ⟨ho, hb⟩ ho2 hg2; clear ho2 hg2)))
    go_ret
    refine (R.cast ?_).out
    have ht : s.data.toList.take 65535 = s.data.toList := List.take_of_length_le (by rw [Array.length_toList]; exact h)
    have hz : min s.data.toList.length 65535 = s.size := by rw [Array.length_toList]; show min s.size 65535 = _; omega
    rw [textB, ht, hz, List.append_assoc]; rfl
  · have hd : decide ((65535 : Int) < (s.size : Int)) = true := by simp; omega
    have ht : s.data.toList.take 65535 = (s.extract 0 65535).data.toList := by simp
    have hz : min s.data.toList.length 65535 = 65535 := by rw [Array.length_toList]; show min s.size 65535 = _; omega
    have hsz : (s.extract 0 65535).size ≤ 65535 := by rw [ByteArray.size_extract]; omega
    have hT : textB s.data.toList = putB 65535 2 ++ (s.extract 0 65535).data.toList := by rw [textB, ht, hz]
    rw [hT]
    clear ht hz hT
    have hp : Calls Tryz.prog 40 #[.slice a m c, .int .u64 65535, .int .i64 2] w (NewB w (l ++ putB 65535 2)) := refPut_any a m c 65535 2 l w hl (by omega) (by omega) (by omega) (by omega)
    go_enter Tryz.func107, Tryz.ntmps107
    go_wp2_with (first | (go_at_call 40; ((with_reducible refine hp.mono ?_); rintro e w1 ⟨a1, n1, c1, rfl, ho, hb⟩)) | (at_builtin; (refine wpList_append_text _ rfl _ _ 34 9 rfl w.heap.size 5 i0 Tryz.underlying34 Tryz.underlying9 hi hz0 hz1 hz2 _ n1 _ rfl ho (s.extract 0 65535) rfl (by have := own_len ho; simp [putB_len] at this; have := hl.len; omega) hb.size ?_; intro v2 w2 ho2 hg2; have R : PutIn w w2 v2 _ _ := PutIn.next0 ⟨ho, hb⟩ ho2 hg2; clear ho2 hg2)))
    go_ret
    refine (R.cast ?_).out
    rw [List.append_assoc]
end Go.Proofs.YtcfmifongbapkaaGreatDoor

/- CodeIn -/
namespace Go.Proofs.YtcfmifongbapkaaGreatDoor

open Go.RowKit

theorem block_lt {w : World} {p : Addr} {v : Value} (h : w.cell? p = some v) : p.block < w.heap.size := by
  rcases Nat.lt_or_ge p.block w.heap.size with h1 | h1
  · exact h1
  · exfalso
    unfold World.cell? at h
    rw [Array.getElem?_eq_none h1] at h
    simp at h

theorem bat_in {w : World} {x : Addr} {len : Nat} {zs : List Int} (hl : len ≤ zs.length) (hc : ∀ i, i < zs.length → w.cell? (x.add i) = some (.int .u8 (zs.getD i 0))) (hw : ∀ n ∈ zs, (Lit.int .u8 n).wf = true) :
    ∃ l, BAt w w.heap.size (some x) len l := by
  refine ⟨(zs.take len).map fun n => UInt8.ofNat n.toNat, by simp; omega, ?_⟩
  by_cases h0 : len = 0
  · exact .inl h0
  · obtain ⟨b, off, spot⟩ := x
    have hc0 := hc 0 (by omega)
    have hspot : spot = none := by simpa [Addr.add] using World.cell?_spot hc0
    subst hspot
    refine .inr ⟨b, off, rfl, by simpa [Addr.add] using block_lt hc0, fun i hi => ?_⟩
    have hi' : i < zs.length := by simp at hi; omega
    have h1 := hc i hi'
    rw [add_plain] at h1
    rw [h1]
    have hg : zs.getD i 0 = zs[i] := by simp [List.getD, List.getElem?_eq_getElem hi']
    have hm := hw zs[i] (List.getElem_mem hi')
    have hr : 0 ≤ zs[i] ∧ zs[i] < 256 := by simp [Lit.wf, IntKind.min, IntKind.max, IntKind.bits, IntKind.signed] at hm; omega
    rw [hg]
    have e1 : ((zs.take len).map fun n => UInt8.ofNat n.toNat)[i]'hi = UInt8.ofNat (zs[i]).toNat := by simp
    have e2 : (UInt8.ofNat (zs[i]).toNat).toNat = (zs[i]).toNat % 256 := UInt8.toNat_ofNat'
    rw [e1, e2]
    congr 2
    omega
end Go.Proofs.YtcfmifongbapkaaGreatDoor
