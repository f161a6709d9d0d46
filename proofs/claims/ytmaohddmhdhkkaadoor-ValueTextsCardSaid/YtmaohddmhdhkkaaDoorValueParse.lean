/- Contract of the document's own Parse. Condition: the text's length. -/
import Derived.Test.YtmaohddmhdhkkaaDoorValueShow

import Derived.Test.YtmaohddmhdhkkaaDoorValueCompare

namespace Go.Proofs.YtmaohddmhdhkkaaDoor

open Go.RowKit

/-- A value and an error are answered. -/
def Parsed (w : World) (l : List UInt8) (e : Ending) (w' : World) : Prop :=
  e = .returned (.tuple #[.agg #[.int .i64 (parseV l).k, .int .u64 ((parseV l).b : Nat), .string ⟨(parseV l).t.toArray⟩], .int .i64 (if parseOk l then 0 else 2)]) ∧ Below w.heap.size w w'
/-- A value and an error are answered, written out. -/
def ParsedAs (w : World) (k : Int) (b : Nat) (t : ByteArray) (c : Int) (e : Ending) (w' : World) : Prop :=
  e = .returned (.tuple #[.agg #[.int .i64 k, .int .u64 (b : Nat), .string t], .int .i64 c]) ∧ Below w.heap.size w w'

/-- The answer's cell and the value's. -/
def PW (w W : World) (k : Int) (b : Nat) (t : ByteArray) : Prop :=
  W.heap[w.heap.size]? = some (.cells #[.int .i64 0, .int .u64 0, .string ⟨#[]⟩] 24 (0, 0)) ∧ W.heap[w.heap.size + 1]? = some (.cells #[.int .i64 k, .int .u64 (b : Nat), .string t] 24 (0, 0)) ∧ Below w.heap.size w W ∧ w.heap.size + 2 ≤ W.heap.size
theorem three_cells {w : World} {g : Nat} {x y z : Value} {t : TypeId} (h : w.heap[g]? = some (.cells #[x, y, z] t (0, 0))) :
    w.cell? ⟨g, 0, none⟩ = some x ∧ w.cell? ⟨g, 1, none⟩ = some y ∧ w.cell? ⟨g, 2, none⟩ = some z ∧ w.frozen? ⟨g, 0, none⟩ = false ∧ w.frozen? ⟨g, 1, none⟩ = false ∧ w.frozen? ⟨g, 2, none⟩ = false := by
  refine ⟨by rw [cell_of_row _ _ _ _ _ _ h]; rfl, by rw [cell_of_row _ _ _ _ _ _ h]; rfl, by rw [cell_of_row _ _ _ _ _ _ h]; rfl, ?_, ?_, ?_⟩ <;> simp [World.frozen?, h]
theorem PW.below {w W w1 : World} {k : Int} {b : Nat} {t : ByteArray} (h : PW w W k b t) (hb : Below W.heap.size W w1) : PW w w1 k b t := by
  obtain ⟨h1, h2, hB, hs⟩ := h
  exact ⟨(hb.block _ (by omega)).trans h1, (hb.block _ (by omega)).trans h2, hB.trans (hb.mono hB.size), Nat.le_trans hs hb.size⟩
theorem PW.bel {w W : World} {k : Int} {b : Nat} {t : ByteArray} (h : PW w W k b t) : Below w.heap.size w W := h.2.2.1
theorem pw_new (w : World) (x y z : Value) (k : Int) (b : Nat) (t : ByteArray) (hx : x = .int .i64 k) (hy : y = .int .u64 (b : Nat)) (hz : z = .string t) : PW w ((w.alloc (.cells #[.int .i64 0, .int .u64 0, .string ⟨#[]⟩] 24)).alloc (.cells #[x, y, z] 24)) k b t := by
  subst hx; subst hy; subst hz
  have s1 : (w.alloc (.cells #[.int .i64 0, .int .u64 0, .string ⟨#[]⟩] 24)).heap.size = w.heap.size + 1 := by simp
  refine ⟨?_, ?_, two_boxes w _ _ _ _ _ _ 24, by simp⟩
  · rw [Below.heap_alloc _ _ _ (by simp)]; exact heap_alloc_new _ _
  · have := heap_alloc_new (w.alloc (.cells #[.int .i64 0, .int .u64 0, .string ⟨#[]⟩] 24)) (.cells #[.int .i64 k, .int .u64 (b : Nat), .string t] 24)
    rwa [s1] at this

theorem parsed_ok {w w' : World} {e : Ending} {l : List UInt8} {k : Int} {b : Nat} {t : ByteArray} (hc : candB l = ⟨k, b, t.data.toList⟩) (hs : showB ⟨k, b, t.data.toList⟩ = l) (hl : l ≠ []) (h : ParsedAs w k b t 0 e w') : Parsed w l e w' := by
  have hp : parseOk l = true := by
    unfold parseOk
    rw [hc, hs, decide_eq_true rfl, Bool.true_and]
    cases e : l.isEmpty
    · rfl
    · exact absurd (List.isEmpty_iff.1 e) hl
  have hv : parseV l = ⟨k, b, t.data.toList⟩ := by unfold parseV; rw [hp, if_pos rfl, hc]
  unfold Parsed
  rw [hv, hp]
  exact h
theorem parsed_no {w w' : World} {e : Ending} {l : List UInt8} {v : Val} (hc : candB l = v) (hs : showB v ≠ l) (h : ParsedAs w 0 0 ⟨#[]⟩ 2 e w') : Parsed w l e w' := by
  have hp : parseOk l = false := by
    unfold parseOk
    rw [hc, decide_eq_false hs, Bool.false_and]
  have hv : parseV l = ⟨0, 0, []⟩ := by unfold parseV; rw [hp]; rfl
  unfold Parsed
  rw [hv, hp]
  exact h

set_option maxHeartbeats 1000000 in
theorem refParse_other_ok (s : ByteArray) (w : World) (hs : s.size ≤ maxLen) (h0 : 0 < s.size) (h36 : (s[0]'h0).toNat ≠ 36) (h17 : ¬ (s.size = 17 ∧ (s[0]'h0).toNat = 35)) (hok : showB ⟨0, 0, (⟨#[]⟩ : ByteArray).data.toList⟩ = s.data.toList) :
    Calls Tryd.prog 26 #[.string s] w (ParsedAs w 0 0 ⟨#[]⟩ 0) := by
  have hs' := hs
  unfold maxLen at hs'
  have cS : ∀ W, Calls Tryd.prog 28 #[.agg #[.int .i64 0, .int .u64 0, .string ⟨#[]⟩]] W (fun e w' => e = .returned (.string s) ∧ Below W.heap.size W w') := fun W => by
    have := refShow_any 0 0 ⟨#[]⟩ W (by omega) (by decide)
    rw [show showB ⟨0, 0, (⟨#[]⟩ : ByteArray).data.toList⟩ = s.data.toList from hok, ← str_eq rfl] at this
    exact this
  clear hok
  obtain ⟨v, hv⟩ : ∃ v, (s[0]'h0).toNat = v := ⟨_, rfl⟩
  rw [hv] at h36 h17
  have q1 : ((v : Int) == 36) = false := by simp; omega
  have p0 : decide ((0 : Int) < (s.size : Int)) = true := by simp; omega
  have hE : s.toList.isEmpty = false := by
    rw [ByteArray.toList_eq]
    cases e : s.data.toList.isEmpty
    · rfl
    · have := congrArg List.length (List.isEmpty_iff.1 e); rw [Array.length_toList] at this; have : s.size = 0 := this; omega
  have hq : ((s.size : Int) == 17) = false ∨ (((s.size : Int) == 17) = true ∧ ((v : Int) == 35) = false) := by
    by_cases e : s.size = 17
    · right; exact ⟨by simp; omega, by simp; omega⟩
    · left; simp; omega
  clear h17 h36
  rcases hq with hq | ⟨hq, hq2⟩
  all_goals
    go_enter Tryd.func26, Tryd.ntmps26
    go_upto_region 14 with (fail)
    have PWX := Lib.hid (pw_new w _ _ _ 0 0 ⟨#[]⟩ rfl rfl rfl)
    generalize (w.alloc (.cells #[.int .i64 0, .int .u64 0, .string ⟨#[]⟩] 24)).alloc (.cells #[.int .i64 0, .int .u64 0, .string ⟨#[]⟩] 24) = W at *
    obtain ⟨m0, m1, m2, n0, n1, n2⟩ := three_cells PWX.out.1
    obtain ⟨o0, o1, o2, _, _, _⟩ := three_cells PWX.out.2.1
    go_wp2_with (go_at_call 28; ((with_reducible refine (cS _).mono ?_); rintro e w1 ⟨rfl, hb1⟩; have P1 := Lib.hid (PWX.out.below hb1); obtain ⟨m0, m1, m2, n0, n1, n2⟩ := three_cells P1.out.1; obtain ⟨o0, o1, o2, _, _, _⟩ := three_cells P1.out.2.1))
    exact bodyPost_ret (v := .tuple #[.agg #[.int .i64 0, .int .u64 0, .string ⟨#[]⟩], .int .i64 0]) (by simp [results, Tryd.results26, go_sem, m0, m1, m2]) rfl ⟨rfl, (((P1.out.bel.setCell (Nat.le_refl _) _).setCell (Nat.le_refl _) _).setCell (Nat.le_refl _) _)⟩

set_option maxHeartbeats 1000000 in
theorem refParse_other_no (s : ByteArray) (w : World) (hs : s.size ≤ maxLen) (h0 : 0 < s.size) (h36 : (s[0]'h0).toNat ≠ 36) (h17 : ¬ (s.size = 17 ∧ (s[0]'h0).toNat = 35)) (hok : showB ⟨0, 0, (⟨#[]⟩ : ByteArray).data.toList⟩ ≠ s.data.toList) :
    Calls Tryd.prog 26 #[.string s] w (ParsedAs w 0 0 ⟨#[]⟩ 2) := by
  have hs' := hs
  unfold maxLen at hs'
  obtain ⟨X, hX⟩ : ∃ X : ByteArray, X = ⟨(showB ⟨0, 0, (⟨#[]⟩ : ByteArray).data.toList⟩).toArray⟩ := ⟨_, rfl⟩
  have cS : ∀ W, Calls Tryd.prog 28 #[.agg #[.int .i64 0, .int .u64 0, .string ⟨#[]⟩]] W (fun e w' => e = .returned (.string X) ∧ Below W.heap.size W w') := fun W => by
    rw [hX]; exact refShow_any 0 0 ⟨#[]⟩ W (by omega) (by decide)
  have x1 : (X.toList == s.toList) = false := by
    rw [beq_eq_false_iff_ne, ByteArray.toList_eq, ByteArray.toList_eq, hX]; exact hok
  have x2 : (X.toList != s.toList) = true := by rw [bne, x1]; rfl
  clear hX hok
  obtain ⟨v, hv⟩ : ∃ v, (s[0]'h0).toNat = v := ⟨_, rfl⟩
  rw [hv] at h36 h17
  have q1 : ((v : Int) == 36) = false := by simp; omega
  have p0 : decide ((0 : Int) < (s.size : Int)) = true := by simp; omega
  have hE : s.toList.isEmpty = false := by
    rw [ByteArray.toList_eq]
    cases e : s.data.toList.isEmpty
    · rfl
    · have := congrArg List.length (List.isEmpty_iff.1 e); rw [Array.length_toList] at this; have : s.size = 0 := this; omega
  have hq : ((s.size : Int) == 17) = false ∨ (((s.size : Int) == 17) = true ∧ ((v : Int) == 35) = false) := by
    by_cases e : s.size = 17
    · right; exact ⟨by simp; omega, by simp; omega⟩
    · left; simp; omega
  clear h17 h36
  rcases hq with hq | ⟨hq, hq2⟩
  all_goals
    go_enter Tryd.func26, Tryd.ntmps26
    go_upto_region 14 with (fail)
    have PWX := Lib.hid (pw_new w _ _ _ 0 0 ⟨#[]⟩ rfl rfl rfl)
    generalize (w.alloc (.cells #[.int .i64 0, .int .u64 0, .string ⟨#[]⟩] 24)).alloc (.cells #[.int .i64 0, .int .u64 0, .string ⟨#[]⟩] 24) = W at *
    obtain ⟨m0, m1, m2, n0, n1, n2⟩ := three_cells PWX.out.1
    obtain ⟨o0, o1, o2, _, _, _⟩ := three_cells PWX.out.2.1
    go_wp2_with (go_at_call 28; ((with_reducible refine (cS _).mono ?_); rintro e w1 ⟨rfl, hb1⟩; have P1 := Lib.hid (PWX.out.below hb1); obtain ⟨m0, m1, m2, n0, n1, n2⟩ := three_cells P1.out.1; obtain ⟨o0, o1, o2, _, _, _⟩ := three_cells P1.out.2.1))
    exact bodyPost_ret (v := .tuple #[.agg #[.int .i64 0, .int .u64 0, .string ⟨#[]⟩], .int .i64 2]) (by simp [results, Tryd.results26, go_sem, m0, m1, m2]) rfl ⟨rfl, (((P1.out.bel.setCell (Nat.le_refl _) _).setCell (Nat.le_refl _) _).setCell (Nat.le_refl _) _)⟩

set_option maxHeartbeats 1000000 in
theorem refParse_empty (s : ByteArray) (w : World) (hs : s.size ≤ maxLen) (h0 : s.size = 0) (hok : showB ⟨0, 0, (⟨#[]⟩ : ByteArray).data.toList⟩ ≠ s.data.toList) :
    Calls Tryd.prog 26 #[.string s] w (ParsedAs w 0 0 ⟨#[]⟩ 2) := by
  have hs' := hs
  unfold maxLen at hs'
  obtain ⟨X, hX⟩ : ∃ X : ByteArray, X = ⟨(showB ⟨0, 0, (⟨#[]⟩ : ByteArray).data.toList⟩).toArray⟩ := ⟨_, rfl⟩
  have cS : ∀ W, Calls Tryd.prog 28 #[.agg #[.int .i64 0, .int .u64 0, .string ⟨#[]⟩]] W (fun e w' => e = .returned (.string X) ∧ Below W.heap.size W w') := fun W => by
    rw [hX]; exact refShow_any 0 0 ⟨#[]⟩ W (by omega) (by decide)
  have x1 : (X.toList == s.toList) = false := by
    rw [beq_eq_false_iff_ne, ByteArray.toList_eq, ByteArray.toList_eq, hX]; exact hok
  have x2 : (X.toList != s.toList) = true := by rw [bne, x1]; rfl
  clear hX hok
  go_enter Tryd.func26, Tryd.ntmps26
  go_upto_region 14 with (fail)
  have PWX := Lib.hid (pw_new w _ _ _ 0 0 ⟨#[]⟩ rfl rfl rfl)
  generalize (w.alloc (.cells #[.int .i64 0, .int .u64 0, .string ⟨#[]⟩] 24)).alloc (.cells #[.int .i64 0, .int .u64 0, .string ⟨#[]⟩] 24) = W at *
  obtain ⟨m0, m1, m2, n0, n1, n2⟩ := three_cells PWX.out.1
  obtain ⟨o0, o1, o2, _, _, _⟩ := three_cells PWX.out.2.1
  go_wp2_with (go_at_call 28; ((with_reducible refine (cS _).mono ?_); rintro e w1 ⟨rfl, hb1⟩; have P1 := Lib.hid (PWX.out.below hb1); obtain ⟨m0, m1, m2, n0, n1, n2⟩ := three_cells P1.out.1; obtain ⟨o0, o1, o2, _, _, _⟩ := three_cells P1.out.2.1))
  exact bodyPost_ret (v := .tuple #[.agg #[.int .i64 0, .int .u64 0, .string ⟨#[]⟩], .int .i64 2]) (by simp [results, Tryd.results26, go_sem, m0, m1, m2]) rfl ⟨rfl, (((P1.out.bel.setCell (Nat.le_refl _) _).setCell (Nat.le_refl _) _).setCell (Nat.le_refl _) _)⟩

set_option maxHeartbeats 1000000 in
theorem refParse_text_ok (s : ByteArray) (w : World) (hs : s.size ≤ maxLen) (h0 : 0 < s.size) (h36 : (s[0]'h0).toNat = 36) (hok : showB ⟨2, 0, ((s.extract 1 s.size) : ByteArray).data.toList⟩ = s.data.toList) :
    Calls Tryd.prog 26 #[.string s] w (ParsedAs w 2 0 (s.extract 1 s.size) 0) := by
  have hs' := hs
  unfold maxLen at hs'
  have cS : ∀ W, Calls Tryd.prog 28 #[.agg #[.int .i64 2, .int .u64 0, .string (s.extract 1 s.size)]] W (fun e w' => e = .returned (.string s) ∧ Below W.heap.size W w') := fun W => by
    have := refShow_any 2 0 (s.extract 1 s.size) W (by omega) (by rw [ByteArray.size_extract]; unfold maxLen; omega)
    rw [show showB ⟨2, 0, ((s.extract 1 s.size) : ByteArray).data.toList⟩ = s.data.toList from hok, ← str_eq rfl] at this
    exact this
  clear hok
  have p0 : decide ((0 : Int) < (s.size : Int)) = true := by simp; omega
  have hE : s.toList.isEmpty = false := by
    rw [ByteArray.toList_eq]
    cases e : s.data.toList.isEmpty
    · rfl
    · have := congrArg List.length (List.isEmpty_iff.1 e); rw [Array.length_toList] at this; have : s.size = 0 := this; omega
  have hq : ((s.size : Int) == 17) = false ∨ ((s.size : Int) == 17) = true := by
    cases (s.size : Int) == 17
    · exact .inl rfl
    · exact .inr rfl
  have i1 : (1 : Int) ≤ (s.size : Int) := by omega
  rcases hq with hq | hq
  all_goals
    go_enter Tryd.func26, Tryd.ntmps26
    go_upto_region 14 with (fail)
    have PWX := Lib.hid (pw_new w _ _ _ 2 0 (s.extract 1 s.size) rfl rfl rfl)
    generalize (w.alloc (.cells #[.int .i64 0, .int .u64 0, .string ⟨#[]⟩] 24)).alloc (.cells #[.int .i64 2, .int .u64 0, .string (s.extract 1 s.size)] 24) = W at *
    obtain ⟨m0, m1, m2, n0, n1, n2⟩ := three_cells PWX.out.1
    obtain ⟨o0, o1, o2, _, _, _⟩ := three_cells PWX.out.2.1
    go_wp2_with (go_at_call 28; ((with_reducible refine (cS _).mono ?_); rintro e w1 ⟨rfl, hb1⟩; have P1 := Lib.hid (PWX.out.below hb1); obtain ⟨m0, m1, m2, n0, n1, n2⟩ := three_cells P1.out.1; obtain ⟨o0, o1, o2, _, _, _⟩ := three_cells P1.out.2.1))
    exact bodyPost_ret (v := .tuple #[.agg #[.int .i64 2, .int .u64 0, .string (s.extract 1 s.size)], .int .i64 0]) (by simp [results, Tryd.results26, go_sem, m0, m1, m2]) rfl ⟨rfl, (((P1.out.bel.setCell (Nat.le_refl _) _).setCell (Nat.le_refl _) _).setCell (Nat.le_refl _) _)⟩

set_option maxHeartbeats 1000000 in
theorem refParse_text_no (s : ByteArray) (w : World) (hs : s.size ≤ maxLen) (h0 : 0 < s.size) (h36 : (s[0]'h0).toNat = 36) (hok : showB ⟨2, 0, ((s.extract 1 s.size) : ByteArray).data.toList⟩ ≠ s.data.toList) :
    Calls Tryd.prog 26 #[.string s] w (ParsedAs w 0 0 ⟨#[]⟩ 2) := by
  have hs' := hs
  unfold maxLen at hs'
  obtain ⟨X, hX⟩ : ∃ X : ByteArray, X = ⟨(showB ⟨2, 0, ((s.extract 1 s.size) : ByteArray).data.toList⟩).toArray⟩ := ⟨_, rfl⟩
  have cS : ∀ W, Calls Tryd.prog 28 #[.agg #[.int .i64 2, .int .u64 0, .string (s.extract 1 s.size)]] W (fun e w' => e = .returned (.string X) ∧ Below W.heap.size W w') := fun W => by
    rw [hX]; exact refShow_any 2 0 (s.extract 1 s.size) W (by omega) (by rw [ByteArray.size_extract]; unfold maxLen; omega)
  have x1 : (X.toList == s.toList) = false := by
    rw [beq_eq_false_iff_ne, ByteArray.toList_eq, ByteArray.toList_eq, hX]; exact hok
  have x2 : (X.toList != s.toList) = true := by rw [bne, x1]; rfl
  clear hX hok
  have p0 : decide ((0 : Int) < (s.size : Int)) = true := by simp; omega
  have hE : s.toList.isEmpty = false := by
    rw [ByteArray.toList_eq]
    cases e : s.data.toList.isEmpty
    · rfl
    · have := congrArg List.length (List.isEmpty_iff.1 e); rw [Array.length_toList] at this; have : s.size = 0 := this; omega
  have hq : ((s.size : Int) == 17) = false ∨ ((s.size : Int) == 17) = true := by
    cases (s.size : Int) == 17
    · exact .inl rfl
    · exact .inr rfl
  have i1 : (1 : Int) ≤ (s.size : Int) := by omega
  rcases hq with hq | hq
  all_goals
    go_enter Tryd.func26, Tryd.ntmps26
    go_upto_region 14 with (fail)
    have PWX := Lib.hid (pw_new w _ _ _ 2 0 (s.extract 1 s.size) rfl rfl rfl)
    generalize (w.alloc (.cells #[.int .i64 0, .int .u64 0, .string ⟨#[]⟩] 24)).alloc (.cells #[.int .i64 2, .int .u64 0, .string (s.extract 1 s.size)] 24) = W at *
    obtain ⟨m0, m1, m2, n0, n1, n2⟩ := three_cells PWX.out.1
    obtain ⟨o0, o1, o2, _, _, _⟩ := three_cells PWX.out.2.1
    go_wp2_with (go_at_call 28; ((with_reducible refine (cS _).mono ?_); rintro e w1 ⟨rfl, hb1⟩; have P1 := Lib.hid (PWX.out.below hb1); obtain ⟨m0, m1, m2, n0, n1, n2⟩ := three_cells P1.out.1; obtain ⟨o0, o1, o2, _, _, _⟩ := three_cells P1.out.2.1))
    exact bodyPost_ret (v := .tuple #[.agg #[.int .i64 0, .int .u64 0, .string ⟨#[]⟩], .int .i64 2]) (by simp [results, Tryd.results26, go_sem, m0, m1, m2]) rfl ⟨rfl, (((P1.out.bel.setCell (Nat.le_refl _) _).setCell (Nat.le_refl _) _).setCell (Nat.le_refl _) _)⟩

theorem PW.set {w W : World} {k : Int} {b b' : Nat} {t : ByteArray} {x : Int} (h : PW w W k b t) (hx : x = (b' : Int)) : PW w (W.setCell ⟨w.heap.size + 1, 1, none⟩ (.int .u64 x)) k b' t := by
  subst hx
  obtain ⟨h1, h2, hB, hs⟩ := h
  refine ⟨?_, by rw [set_row h2]; rfl, hB.setCell (by show w.heap.size ≤ w.heap.size + 1; omega) _, by simpa [World.setCell] using hs⟩
  rw [Below.heap_setCell _ _ _ _ (by show w.heap.size ≠ w.heap.size + 1; omega)]; exact h1
theorem unhex_hi (x c : Nat) (h : 97 ≤ c) (hc : c < 256) (hx : x < 18446744073709551616) : IntKind.u64.wrap (IntKind.u64.wrap ((x : Int) * 16) + ((c : Int) - 97 + 10) % 16) = (((x * 16 + unhex c) % 18446744073709551616 : Nat) : Int) := by
  rw [IntKind.wrap_u64, IntKind.wrap_u64]; unfold unhex; rw [if_pos h]; omega
theorem unhex_lo (x c : Nat) (h : ¬ 97 ≤ c) (hc : c < 256) (hx : x < 18446744073709551616) : IntKind.u64.wrap (IntKind.u64.wrap ((x : Int) * 16) + (IntKind.u64.wrap ((c : Int) - 48)).tmod 16) = (((x * 16 + unhex c) % 18446744073709551616 : Nat) : Int) := by
  have hn : 0 ≤ IntKind.u64.wrap ((c : Int) - 48) := by rw [IntKind.wrap_u64]; omega
  rw [Int.tmod_eq_emod_of_nonneg hn, IntKind.wrap_u64, IntKind.wrap_u64, IntKind.wrap_u64]; unfold unhex; rw [if_neg h]; omega
theorem hexval_at (l : List UInt8) (i : Nat) (h1 : 1 ≤ i) (h : i < l.length) : hexval ((l.take (i + 1)).drop 1) 0 = (hexval ((l.take i).drop 1) 0 * 16 + unhex l[i].toNat) % 18446744073709551616 := by
  rw [List.take_succ_eq_append_getElem h, List.drop_append_of_le_length (by simp; omega), hexval_snoc]

set_option maxHeartbeats 1000000 in
theorem refParse_num_ok (s : ByteArray) (w : World) (hs : s.size ≤ maxLen) (h0 : 0 < s.size) (h35 : (s[0]'h0).toNat = 35) (h17 : s.size = 17) (hok : showB ⟨1, (hexval (s.data.toList.drop 1) 0), (⟨#[]⟩ : ByteArray).data.toList⟩ = s.data.toList) :
    Calls Tryd.prog 26 #[.string s] w (ParsedAs w 1 (hexval (s.data.toList.drop 1) 0) ⟨#[]⟩ 0) := by
  have hs' := hs
  unfold maxLen at hs'
  have hBl := hexval_lt (s.data.toList.drop 1) 0 (by omega)
  have hz : s.data.toList.length = s.size := by rw [Array.length_toList]; rfl
  have cS : ∀ W, Calls Tryd.prog 28 #[.agg #[.int .i64 1, .int .u64 (hexval (s.data.toList.drop 1) 0), .string ⟨#[]⟩]] W (fun e w' => e = .returned (.string s) ∧ Below W.heap.size W w') := fun W => by
    have := refShow_any 1 (hexval (s.data.toList.drop 1) 0) ⟨#[]⟩ W hBl (by decide)
    rw [show showB ⟨1, (hexval (s.data.toList.drop 1) 0), (⟨#[]⟩ : ByteArray).data.toList⟩ = s.data.toList from hok, ← str_eq rfl] at this
    exact this
  clear hok
  have p0 : decide ((0 : Int) < (s.size : Int)) = true := by simp; omega
  have p1 : ((s.size : Int) == 17) = true := by simp; omega
  have hE : s.toList.isEmpty = false := by
    rw [ByteArray.toList_eq]
    cases e : s.data.toList.isEmpty
    · rfl
    · have := congrArg List.length (List.isEmpty_iff.1 e); rw [Array.length_toList] at this; have : s.size = 0 := this; omega
  have hend : hexval ((s.data.toList.take 17).drop 1) 0 = hexval (s.data.toList.drop 1) 0 := by rw [List.take_of_length_le (by omega)]
  have HZ := Lib.hid hz; have HEND := Lib.hid hend; have H17 := Lib.hid h17
  have hsl : s.size ≤ 17 := by omega
  have hsg : 17 ≤ s.size := by omega
  clear hz hend h17
  generalize hexval (s.data.toList.drop 1) 0 = B at *
  go_enter Tryd.func26, Tryd.ntmps26
  go_upto_region 4 with (fail)
  have PWX := Lib.hid (pw_new w _ _ _ 1 0 ⟨#[]⟩ rfl rfl rfl)
  generalize (w.alloc (.cells #[.int .i64 0, .int .u64 0, .string ⟨#[]⟩] 24)).alloc (.cells #[.int .i64 1, .int .u64 0, .string ⟨#[]⟩] 24) = W at *
  go_wp2
  go_loopw [5] (fun x wr => ∃ i : Nat, 1 ≤ i ∧ i ≤ 17 ∧ x = .int .i64 i ∧ PW w wr 1 (hexval ((s.data.toList.take i).drop 1) 0) ⟨#[]⟩) (fun x _ => 17 - (intOf x).toNat)
  case atStart => exact ⟨1, by omega, by omega, rfl, by
    have : hexval ((s.data.toList.take 1).drop 1) 0 = 0 := by
      rw [List.drop_eq_nil_of_le (by simp; omega)]; rfl
    rw [this]; exact PWX.out⟩
  case round =>
    obtain ⟨i, hi1, hi2, rfl, hP⟩ := hrel
    clear PWX
    have PX := Lib.hid hP
    obtain ⟨o0, o1, o2, l0, l1, l2⟩ := three_cells hP.2.1
    have hBi := hexval_lt ((s.data.toList.take i).drop 1) 0 (by omega)
    by_cases hlt : i < 17
    · have hil : i < s.size := by omega
      have hst := Lib.hid (hexval_at s.data.toList i hi1 (by rw [HZ.out]; exact hil))
      obtain ⟨v, hv⟩ : ∃ v, (s[i]'hil).toNat = v := ⟨_, rfl⟩
      have hv8 : v < 256 := by rw [← hv]; exact (s[i]'hil).toNat_lt
      have hvl : (s.data.toList[i]'(by rw [HZ.out]; exact hil)).toNat = v := hv
      rw [hvl] at hst
      clear hvl hP
      generalize hexval ((s.data.toList.take i).drop 1) 0 = x at *
      by_cases h97 : 97 ≤ v
      · have d97 : decide ((97 : Int) ≤ (v : Int)) = true := by simp; omega
        go_wp2
        go_roundw
        case rel => exact ⟨i + 1, by omega, by omega, by go_num, PX.out.set (by rw [hst.out]; first | exact unhex_hi x v h97 hv8 hBi | skip)⟩
        case measure => simp [intOf]; omega
      · have d97 : decide ((97 : Int) ≤ (v : Int)) = false := by simp; omega
        go_wp2
        go_roundw
        case rel => exact ⟨i + 1, by omega, by omega, by go_num, PX.out.set (by rw [hst.out]; first | exact unhex_lo x v h97 hv8 hBi | skip)⟩
        case measure => simp [intOf]; omega
    · obtain rfl : i = 17 := by omega
      rw [HEND.out] at PX o1
      clear hP hBi
      have PWX := PX
      obtain ⟨m0, m1, m2, n0, n1, n2⟩ := three_cells PWX.out.1
      go_wp2_with (go_at_call 28; ((with_reducible refine (cS _).mono ?_); rintro e w1 ⟨rfl, hb1⟩; have P1 := Lib.hid (PWX.out.below hb1); obtain ⟨m0, m1, m2, n0, n1, n2⟩ := three_cells P1.out.1; obtain ⟨o0, o1, o2, _, _, _⟩ := three_cells P1.out.2.1))
      exact bodyPost_ret (v := .tuple #[.agg #[.int .i64 1, .int .u64 B, .string ⟨#[]⟩], .int .i64 0]) (by simp [results, Tryd.results26, go_sem, m0, m1, m2]) rfl ⟨rfl, (((P1.out.bel.setCell (Nat.le_refl _) _).setCell (Nat.le_refl _) _).setCell (Nat.le_refl _) _)⟩

set_option maxHeartbeats 1000000 in
theorem refParse_num_no (s : ByteArray) (w : World) (hs : s.size ≤ maxLen) (h0 : 0 < s.size) (h35 : (s[0]'h0).toNat = 35) (h17 : s.size = 17) (hok : showB ⟨1, (hexval (s.data.toList.drop 1) 0), (⟨#[]⟩ : ByteArray).data.toList⟩ ≠ s.data.toList) :
    Calls Tryd.prog 26 #[.string s] w (ParsedAs w 0 0 ⟨#[]⟩ 2) := by
  have hs' := hs
  unfold maxLen at hs'
  have hBl := hexval_lt (s.data.toList.drop 1) 0 (by omega)
  have hz : s.data.toList.length = s.size := by rw [Array.length_toList]; rfl
  obtain ⟨X, hX⟩ : ∃ X : ByteArray, X = ⟨(showB ⟨1, (hexval (s.data.toList.drop 1) 0), (⟨#[]⟩ : ByteArray).data.toList⟩).toArray⟩ := ⟨_, rfl⟩
  have cS : ∀ W, Calls Tryd.prog 28 #[.agg #[.int .i64 1, .int .u64 (hexval (s.data.toList.drop 1) 0), .string ⟨#[]⟩]] W (fun e w' => e = .returned (.string X) ∧ Below W.heap.size W w') := fun W => by
    rw [hX]; exact refShow_any 1 (hexval (s.data.toList.drop 1) 0) ⟨#[]⟩ W hBl (by decide)
  have x1 : (X.toList == s.toList) = false := by
    rw [beq_eq_false_iff_ne, ByteArray.toList_eq, ByteArray.toList_eq, hX]; exact hok
  have x2 : (X.toList != s.toList) = true := by rw [bne, x1]; rfl
  clear hX hok
  have p0 : decide ((0 : Int) < (s.size : Int)) = true := by simp; omega
  have p1 : ((s.size : Int) == 17) = true := by simp; omega
  have hE : s.toList.isEmpty = false := by
    rw [ByteArray.toList_eq]
    cases e : s.data.toList.isEmpty
    · rfl
    · have := congrArg List.length (List.isEmpty_iff.1 e); rw [Array.length_toList] at this; have : s.size = 0 := this; omega
  have hend : hexval ((s.data.toList.take 17).drop 1) 0 = hexval (s.data.toList.drop 1) 0 := by rw [List.take_of_length_le (by omega)]
  have HZ := Lib.hid hz; have HEND := Lib.hid hend; have H17 := Lib.hid h17
  have hsl : s.size ≤ 17 := by omega
  have hsg : 17 ≤ s.size := by omega
  clear hz hend h17
  generalize hexval (s.data.toList.drop 1) 0 = B at *
  go_enter Tryd.func26, Tryd.ntmps26
  go_upto_region 4 with (fail)
  have PWX := Lib.hid (pw_new w _ _ _ 1 0 ⟨#[]⟩ rfl rfl rfl)
  generalize (w.alloc (.cells #[.int .i64 0, .int .u64 0, .string ⟨#[]⟩] 24)).alloc (.cells #[.int .i64 1, .int .u64 0, .string ⟨#[]⟩] 24) = W at *
  go_wp2
  go_loopw [5] (fun x wr => ∃ i : Nat, 1 ≤ i ∧ i ≤ 17 ∧ x = .int .i64 i ∧ PW w wr 1 (hexval ((s.data.toList.take i).drop 1) 0) ⟨#[]⟩) (fun x _ => 17 - (intOf x).toNat)
  case atStart => exact ⟨1, by omega, by omega, rfl, by
    have : hexval ((s.data.toList.take 1).drop 1) 0 = 0 := by
      rw [List.drop_eq_nil_of_le (by simp; omega)]; rfl
    rw [this]; exact PWX.out⟩
  case round =>
    obtain ⟨i, hi1, hi2, rfl, hP⟩ := hrel
    clear PWX
    have PX := Lib.hid hP
    obtain ⟨o0, o1, o2, l0, l1, l2⟩ := three_cells hP.2.1
    have hBi := hexval_lt ((s.data.toList.take i).drop 1) 0 (by omega)
    by_cases hlt : i < 17
    · have hil : i < s.size := by omega
      have hst := Lib.hid (hexval_at s.data.toList i hi1 (by rw [HZ.out]; exact hil))
      obtain ⟨v, hv⟩ : ∃ v, (s[i]'hil).toNat = v := ⟨_, rfl⟩
      have hv8 : v < 256 := by rw [← hv]; exact (s[i]'hil).toNat_lt
      have hvl : (s.data.toList[i]'(by rw [HZ.out]; exact hil)).toNat = v := hv
      rw [hvl] at hst
      clear hvl hP
      generalize hexval ((s.data.toList.take i).drop 1) 0 = x at *
      by_cases h97 : 97 ≤ v
      · have d97 : decide ((97 : Int) ≤ (v : Int)) = true := by simp; omega
        go_wp2
        go_roundw
        case rel => exact ⟨i + 1, by omega, by omega, by go_num, PX.out.set (by rw [hst.out]; first | exact unhex_hi x v h97 hv8 hBi | skip)⟩
        case measure => simp [intOf]; omega
      · have d97 : decide ((97 : Int) ≤ (v : Int)) = false := by simp; omega
        go_wp2
        go_roundw
        case rel => exact ⟨i + 1, by omega, by omega, by go_num, PX.out.set (by rw [hst.out]; first | exact unhex_lo x v h97 hv8 hBi | skip)⟩
        case measure => simp [intOf]; omega
    · obtain rfl : i = 17 := by omega
      rw [HEND.out] at PX o1
      clear hP hBi
      have PWX := PX
      obtain ⟨m0, m1, m2, n0, n1, n2⟩ := three_cells PWX.out.1
      go_wp2_with (go_at_call 28; ((with_reducible refine (cS _).mono ?_); rintro e w1 ⟨rfl, hb1⟩; have P1 := Lib.hid (PWX.out.below hb1); obtain ⟨m0, m1, m2, n0, n1, n2⟩ := three_cells P1.out.1; obtain ⟨o0, o1, o2, _, _, _⟩ := three_cells P1.out.2.1))
      exact bodyPost_ret (v := .tuple #[.agg #[.int .i64 0, .int .u64 0, .string ⟨#[]⟩], .int .i64 2]) (by simp [results, Tryd.results26, go_sem, m0, m1, m2]) rfl ⟨rfl, (((P1.out.bel.setCell (Nat.le_refl _) _).setCell (Nat.le_refl _) _).setCell (Nat.le_refl _) _)⟩

theorem head_some (s : ByteArray) (h : 0 < s.size) (c : UInt8) : s.data.toList.head? = some c ↔ (s[0]'h).toNat = c.toNat := by
  have hl : 0 < s.data.toList.length := by rw [Array.length_toList]; exact h
  have e : s.data.toList.head? = some (s[0]'h) := by
    rw [List.head?_eq_getElem?, List.getElem?_eq_getElem hl]; rfl
  rw [e, Option.some.injEq]
  exact ⟨fun h => by rw [h], fun h => UInt8.toNat_inj.1 h⟩
theorem refParse_any (s : ByteArray) (w : World) (hs : s.size ≤ maxLen) : Calls Tryd.prog 26 #[.string s] w (Parsed w s.data.toList) := by
  have hz : s.data.toList.length = s.size := by rw [Array.length_toList]; rfl
  by_cases h0 : s.size = 0
  · have hl : s.data.toList = [] := List.eq_nil_of_length_eq_zero (by omega)
    have hc : candB s.data.toList = ⟨0, 0, []⟩ := by rw [hl]; rfl
    have hn : showB ⟨0, 0, []⟩ ≠ s.data.toList := by rw [hl]; decide
    exact (refParse_empty s w hs h0 hn).mono fun e w' h => parsed_no hc hn h
  · have hp : 0 < s.size := by omega
    have hl : s.data.toList ≠ [] := fun e => by rw [e] at hz; simp at hz; omega
    by_cases h36 : (s[0]'hp).toNat = 36
    · have hd : (s.extract 1 s.size).data.toList = s.data.toList.drop 1 := by
        simp only [ByteArray.data_extract, Array.toList_extract, List.extract_eq_take_drop]
        exact List.take_of_length_le (by rw [List.length_drop]; omega)
      have hc : candB s.data.toList = ⟨2, 0, (s.extract 1 s.size).data.toList⟩ := by
        unfold candB
        rw [if_pos ((head_some s hp 36).2 h36), hd]
      by_cases hok : showB ⟨2, 0, (s.extract 1 s.size).data.toList⟩ = s.data.toList
      · exact (refParse_text_ok s w hs hp h36 hok).mono fun e w' h => parsed_ok hc hok hl h
      · exact (refParse_text_no s w hs hp h36 hok).mono fun e w' h => parsed_no hc hok h
    · have n36 : ¬ s.data.toList.head? = some 36 := fun e => h36 ((head_some s hp 36).1 e)
      by_cases h17 : s.size = 17 ∧ (s[0]'hp).toNat = 35
      · have hc : candB s.data.toList = ⟨1, hexval (s.data.toList.drop 1) 0, (⟨#[]⟩ : ByteArray).data.toList⟩ := by
          unfold candB
          rw [if_neg n36, if_pos ⟨by omega, (head_some s hp 35).2 h17.2⟩]
        by_cases hok : showB ⟨1, hexval (s.data.toList.drop 1) 0, (⟨#[]⟩ : ByteArray).data.toList⟩ = s.data.toList
        · exact (refParse_num_ok s w hs hp h17.2 h17.1 hok).mono fun e w' h => parsed_ok hc hok hl h
        · exact (refParse_num_no s w hs hp h17.2 h17.1 hok).mono fun e w' h => parsed_no hc hok h
      · have hc : candB s.data.toList = ⟨0, 0, (⟨#[]⟩ : ByteArray).data.toList⟩ := by
          unfold candB
          rw [if_neg n36, if_neg (fun e => h17 ⟨by omega, (head_some s hp 35).1 e.2⟩)]
        by_cases hok : showB ⟨0, 0, (⟨#[]⟩ : ByteArray).data.toList⟩ = s.data.toList
        · exact (refParse_other_ok s w hs hp h36 h17 hok).mono fun e w' h => parsed_ok hc hok hl h
        · exact (refParse_other_no s w hs hp h36 h17 hok).mono fun e w' h => parsed_no hc hok h
end Go.Proofs.YtmaohddmhdhkkaaDoor
