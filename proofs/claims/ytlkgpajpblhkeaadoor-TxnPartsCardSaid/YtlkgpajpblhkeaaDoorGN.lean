/- Contracts of txn.Groups. Conditions: the configuration's and the transaction's lists lie in memory; the tables of utf8 lie there. Contract of the document's Groups of a transaction. Conditions: the configuration's and the transaction's lists lie in memory. The walk of the statement TxnCuts. Conditions: the configuration's and the transaction's lists lie in memory; the tables of utf8 lie there. -/
import Derived.Test.YtlkgpajpblhkeaaDoorTxnConcat
import Derived.Test.YtlkgpajpblhkeaaDoorGK
import Derived.Test.YtlkgpajpblhkeaaDoorConfigGroups
import Derived.Test.YtlkgpajpblhkeaaDoorTxnRefCut
import Derived.Test.YtlkgpajpblhkeaaDoorTxnCutsGen
/- TxnGroups -/
namespace Go.Proofs.YtlkgpajpblhkeaaDoor

open Go.RowKit

set_option linter.unusedVariables false

/-- The groups of all keys, as numbers. -/
def groupsM (R : List Int) (Bs : List ByteArray) (i : IdN) (rs : List RdM) (ws : List WrM) : List Nat := if formT formedB (txT i rs ws) = true then groupsI R (txt Bs) (txt (keysM rs ++ keysV ws)) else []
theorem strs_cells (l : List ByteArray) : ∀ u ∈ l.map Value.string, u.oneCell' = true := by
  intro u hu
  obtain ⟨x, _, rfl⟩ := List.mem_map.1 hu
  rfl
/-- Two lists of texts that lie there, put together. -/
theorem concatK_any (W : World) (t : TypeId) (a1 : Option Addr) (c1 : Nat) (K1 : List ByteArray) (a2 : Option Addr) (c2 : Nat) (K2 : List ByteArray) (h1 : StrsAt W W.heap.size a1 K1.length K1) (h2 : StrsAt W W.heap.size a2 K2.length K2) (l1 : K1.length ≤ 1000000) (l2 : K2.length ≤ 1000000) :
    Calls Tryd.prog 53 #[.slice (some ⟨W.heap.size, 0, none⟩) 2 2] (W.alloc (.cells #[.slice a1 K1.length c1, .slice a2 K2.length c2] t)) (NewS W (K1 ++ K2)) := by
  have hb := one_box W #[.slice a1 K1.length c1, .slice a2 K2.length c2] t
  have x := BoxC.new W #[.slice a1 K1.length c1, .slice a2 K2.length c2] t
  refine (concatS_any W.heap.size 0 2 a1 K1.length c1 (K1.map Value.string) a2 K2.length c2 (K2.map Value.string) _ (x.cell 0 _ rfl) (x.cell 1 _ rfl) x.lt ((h1.2.below hb (Nat.le_refl _)).more hb.size) ((h2.2.below hb (Nat.le_refl _)).more hb.size) (strs_cells _) (strs_cells _) (by omega) (by omega)).mono ?_
  rintro e w1 ⟨a, c, rfl, ho, hb1⟩
  have e1 : (K1.map Value.string ++ K2.map Value.string).length = (K1 ++ K2).length := by simp
  have e2 : K1.map Value.string ++ K2.map Value.string = (K1 ++ K2).map Value.string := by simp
  rw [e1, e2] at ho
  rw [e1]
  obtain ⟨a', c', hv, h3, h4⟩ := ownk_form ho
  injection hv with hv1 hv2 hv3
  subst hv1; subst hv3
  exact ⟨a, c, rfl, ⟨rfl, RowAt.of_own ho⟩, ⟨h3, h4⟩, hb.trans (hb1.mono hb.size)⟩

set_option maxRecDepth 100000 in
set_option maxHeartbeats 4000000 in
theorem tGroups_any (ca : Option Addr) (cn cc : Nat) (cb : Option Addr) (cm cd : Nat) (R : List Int) (Bs : List ByteArray) (s q : Int) (a : Option Addr) (n c : Nat) (b : Option Addr) (m d : Nat) (rs : List RdM) (ws : List WrM) (w : World) (hC : CfgAt w ca cn cb cm R Bs) (hX : TxAt w a n b m rs ws) (hU : Tabs w) :
    Calls Tryd.prog 24 #[.agg #[.slice ca cn cc, .slice cb cm cd], .agg (txV s q a n c b m d)] w (NewN w (groupsM R Bs (s, q) rs ws)) := by
  have H0 := Lib.hid (((Boxs.start w).more #[.slice ca cn cc, .slice cb cm cd] 36).more (txV s q a n c b m d) 27)
  have hs : (w.alloc (.cells #[.slice ca cn cc, .slice cb cm cd] 36)).heap.size = w.heap.size + 1 := by simp
  rw [hs] at H0
  have cF := tFormed_any s q a n c b m d rs ws _ (hX.later H0.out.bel) (hU.below H0.out.bel)
  obtain ⟨x0, x1, x2, x3⟩ := (H0.out.get 0 _ _ _ rfl).four
  obtain ⟨y0, y1⟩ := (H0.out.get 1 _ _ _ rfl).two
  unfold groupsM
  cases hf : formT formedB (txT (s, q) rs ws)
  · rw [hf] at cF
    rw [if_neg (by decide)]
    clear hf hC hX hU
    go_enter Tryd.func24, Tryd.ntmps24
    go_wp2_with (go_at_call 10; ((with_reducible refine cF.mono ?_); rintro e w1 ⟨rfl, hb1⟩; have H1 := Lib.hid (H0.out.below hb1)))
    go_ret
    exact NewN.none H1.out.bel
  · rw [hf] at cF
    rw [if_pos rfl]
    have h6 : n ≤ 6 := by
      have h1 := ((formT_iff _ _).1 hf).rlen
      have h2 := hX.lenR
      simp only [txT, txR, List.length_map] at h1; omega
    have h7 : m ≤ 6 := by
      have h1 := ((formT_iff _ _).1 hf).wlen
      have h2 := hX.lenW
      simp only [txT, txW, List.length_map] at h1; omega
    have l1 : (keysM rs).length ≤ 6 := by rw [keysM_len, hX.lenR]; exact h6
    have l2 : (keysV ws).length ≤ 6 := by rw [keysV_len, hX.lenW]; exact h7
    have cR := fun W (hW : Below w.heap.size w W) => readKeys_any a n c rs W (hX.later hW).rds (by omega)
    have cW := fun W (hW : Below w.heap.size w W) => writeKeys_any b m d ws W (hX.later hW).wrs (by omega)
    have cG := fun e p f Ks W (hW : Below w.heap.size w W) (hK : StrsAt W W.heap.size e p Ks) (hp : p ≤ maxLen) => cGroups_any ca cn cc cb cm cd R Bs e p f Ks W (hC.later hW) hK hp
    have HS : Hid (∀ W, Boxs w W [(w.heap.size + 1, txV s q a n c b m d, 27), (w.heap.size, #[.slice ca cn cc, .slice cb cm cd], 36)] → (W.cell? ⟨w.heap.size, 0, none⟩ = some (.slice ca cn cc) ∧ W.cell? ⟨w.heap.size, 1, none⟩ = some (.slice cb cm cd)) ∧ W.cell? ⟨w.heap.size + 1, 2, none⟩ = some (.slice a n c) ∧ W.cell? ⟨w.heap.size + 1, 3, none⟩ = some (.slice b m d)) := fun W hW => ⟨(hW.get 1 _ _ _ rfl).two, (hW.get 0 _ _ _ rfl).cell 2 _ rfl, (hW.get 0 _ _ _ rfl).cell 3 _ rfl⟩
    clear hf hC hX hU
    generalize keysM rs = K1 at *
    generalize keysV ws = K2 at *
    have hp : (K1 ++ K2).length ≤ maxLen := by rw [List.length_append]; unfold maxLen; omega
    have cK := fun (W : World) (t : TypeId) a1 c1 a2 c2 h1 h2 => concatK_any W t a1 c1 K1 a2 c2 K2 h1 h2 (by omega) (by omega)
    generalize K1 ++ K2 = K3 at *
    go_enter Tryd.func24, Tryd.ntmps24
    go_upto_region 3 with (go_at_call 10; ((with_reducible refine cF.mono ?_); rintro e w1 ⟨rfl, hb1⟩; have H1 := Lib.hid (H0.out.below hb1)))
    have X0 := Lib.hid H1.out.drew
    have s0 := HS.out _ X0.out
    (clear x0 x1 x2 x3 y0 y1)
    go_region_held3 (fun W => (W.cell? ⟨w.heap.size, 0, none⟩ = some (.slice ca cn cc) ∧ W.cell? ⟨w.heap.size, 1, none⟩ = some (.slice cb cm cd)) ∧ W.cell? ⟨w.heap.size + 1, 2, none⟩ = some (.slice a n c) ∧ W.cell? ⟨w.heap.size + 1, 3, none⟩ = some (.slice b m d)) (first | exact s0 | exact s1 | exact s2 | exact s3 | exact s4 | exact s5)
      (first | (go_at_call 42; ((with_reducible refine (cR _ X0.out.bel).mono ?_); rintro e v1 ⟨a1, p1, rfl, hS1, hc1, hb1⟩; have X1 := Lib.hid (X0.out.below hb1); have s1 := HS.out _ X1.out; have S1 := Lib.hid hS1)) | (go_at_call 43; ((with_reducible refine (cW _ X1.out.bel).mono ?_); rintro e v2 ⟨a2, p2, rfl, hS2, hc2, hb2⟩; have X2 := Lib.hid (X1.out.below hb2); have s2 := HS.out _ X2.out; have S2 := Lib.hid hS2; have S3 := Lib.hid ((S1.out.below hb2 (Nat.le_refl _)).more hb2.size); have s3 := HS.out _ (X2.out.below (one_box v2 #[.slice a1 K1.length p1, .slice a2 K2.length p2] 34)))) | (go_at_call 53; ((with_reducible refine (cK v2 _ a1 p1 a2 p2 S3.out S2.out).mono ?_); rintro e v3 ⟨a3, p3, rfl, hS3, hc3, hb3⟩; have X3 := Lib.hid (X2.out.below hb3); have s4 := HS.out _ X3.out; have S4 := Lib.hid hS3)) | (go_at_call 52; ((with_reducible refine (cG a3 _ p3 K3 v3 X3.out.bel S4.out hp).mono ?_); rintro e v4 ⟨a4, p4, rfl, hN, hb4⟩; have X4 := Lib.hid (X3.out.below hb4); have s5 := HS.out _ X4.out)))
    go_wp2
    go_ret
    exact ⟨a4, p4, rfl, hN, X4.out.bel⟩
end Go.Proofs.YtlkgpajpblhkeaaDoor

/- TxnRefGroups -/
namespace Go.Proofs.YtlkgpajpblhkeaaDoor

open Go.RowKit

set_option linter.unusedVariables false

/-- A number's cell. -/
def numC (k : Nat) : List Value := [.int .i64 ((k : Nat) : Int)]
theorem numC_len (k : Nat) : (numC k).length = 1 := rfl
theorem numC_cells (k : Nat) : ∀ u ∈ numC k, u.oneCell' = true := by
  intro u hu
  simp only [numC, List.mem_cons, List.not_mem_nil, or_false] at hu
  subst hu; rfl
theorem RowAt.oneN (W : World) (k : Nat) (t : TypeId) : RowAt (W.alloc (.cells #[.int .i64 ((k : Nat) : Int)] t)) (W.heap.size + 1) (some ⟨W.heap.size, 0, none⟩) 1 1 (numC k) := RowAt.one W #[.int .i64 ((k : Nat) : Int)] t
theorem NAt.of_row {w : World} {B n : Nat} {a : Option Addr} {l : List Nat} (h : RowAt w B a n 1 (l.flatMap numC)) : NAt w a l := by
  rcases h.2 with h0 | ⟨b, off, ha, _, hc⟩
  · left
    have := h.1
    rw [flat_len numC 1 numC_len, h0] at this
    exact List.eq_nil_of_length_eq_zero (by omega)
  · exact .inr ⟨b, off, ha, fun i hi => by
      have := hc (i * 1 + 0) _ (flat_get numC 1 numC_len l i 0 hi (by omega))
      rw [Nat.mul_one, Nat.add_zero] at this
      exact this⟩
theorem NewN.ofL {w wr : World} {v : Value} {l : List Nat} {e : TypeId} {L : List (Nat × Array Value × TypeId)} (h : MadeL numC 1 e w wr v l L) : NewN w l (.returned v) wr := by
  obtain ⟨a, c, rfl, h1, h2⟩ := h.lies
  exact ⟨a, c, rfl, NAt.of_row h1, h.bel⟩
theorem cutM_mem {α : Type} (key : α → ByteArray) (L : List (List UInt8)) (g : Nat) (l : List α) : 0 < (cutM key L (g : Int) l).length ↔ g ∈ homesL L (l.map key) := by
  rw [List.length_pos_iff_exists_mem]
  constructor
  · rintro ⟨x, hx⟩
    obtain ⟨h1, h2⟩ := List.mem_filter.1 hx
    have h3 := of_decide_eq_true h2
    unfold homesL txt
    exact List.mem_map.2 ⟨(key x).data.toList, List.mem_map.2 ⟨key x, List.mem_map.2 ⟨x, h1, rfl⟩, rfl⟩, by omega⟩
  · intro h
    unfold homesL txt at h
    obtain ⟨k, hk, h1⟩ := List.mem_map.1 h
    obtain ⟨y, hy, rfl⟩ := List.mem_map.1 hk
    obtain ⟨x, hx, rfl⟩ := List.mem_map.1 hy
    exact ⟨x, List.mem_filter.2 ⟨hx, decide_eq_true (by omega)⟩⟩
/-- A group has any, just if it is a key's. -/
theorem both_mem (L : List (List UInt8)) (g : Nat) (rs : List RdM) (ws : List WrM) : 0 < (cutM (fun x : RdM => x.1) L (g : Int) rs).length + (cutM (fun x : WrM => x.key) L (g : Int) ws).length ↔ g ∈ homesL L (keysM rs ++ keysV ws) := by
  have h1 := cutM_mem (fun x : RdM => x.1) L g rs
  have h2 := cutM_mem (fun x : WrM => x.key) L g ws
  have e : homesL L (keysM rs ++ keysV ws) = homesL L (keysM rs) ++ homesL L (keysV ws) := by unfold homesL txt; simp
  rw [e, List.mem_append]
  unfold keysM keysV
  rw [← h1, ← h2]; omega
theorem groupsM_yes {R : List Int} {Bs : List ByteArray} {i : IdN} {rs : List RdM} {ws : List WrM} (h : bothB R Bs (txT i rs ws) = true) : groupsM R Bs i rs ws = groupsC R.length (homesL (txt Bs) (keysM rs ++ keysV ws)) := by
  obtain ⟨h1, h2⟩ := both_yes h
  unfold groupsM; rw [if_pos h1]; exact groups_yes h2 _
theorem groupsM_no {R : List Int} {Bs : List ByteArray} {i : IdN} {rs : List RdM} {ws : List WrM} (h : bothB R Bs (txT i rs ws) = false) : groupsM R Bs i rs ws = [] := by
  unfold groupsM
  rcases both_no h with h1 | ⟨h1, h2⟩
  · rw [h1]; rfl
  · rw [if_pos h1]; exact groups_no h2 _

set_option maxRecDepth 100000 in
set_option maxHeartbeats 4000000 in
theorem rGroupsT_any (ca : Option Addr) (cn cc : Nat) (cb : Option Addr) (cm cd : Nat) (R : List Int) (Bs : List ByteArray) (s q : Int) (a : Option Addr) (n c : Nat) (b : Option Addr) (m d : Nat) (rs : List RdM) (ws : List WrM) (w : World) (hC : CfgAt w ca cn cb cm R Bs) (hX : TxAt w a n b m rs ws) (hcn : cn ≤ maxLen) :
    Calls Tryd.prog 25 #[.agg #[.slice ca cn cc, .slice cb cm cd], .agg (txV s q a n c b m d)] w (NewN w (groupsM R Bs (s, q) rs ws)) := by
  obtain ⟨iN, hi, hz0, hz1, hz2⟩ := info_parts Tryd.qInfo3
  unfold maxLen at hcn
  have H0 := Lib.hid (((Boxs.start w).more #[.slice ca cn cc, .slice cb cm cd] 36).more (txV s q a n c b m d) 27)
  have hs : (w.alloc (.cells #[.slice ca cn cc, .slice cb cm cd] 36)).heap.size = w.heap.size + 1 := by simp
  rw [hs] at H0
  have hR := hC.lenR
  have cA := fun g W (hW : Below w.heap.size w W) => rReads_any ca cn cc cb cm cd R Bs s q a n c b m d rs ws g W (hC.later hW) (hX.later hW)
  have cB := fun g W (hW : Below w.heap.size w W) => rWrites_any ca cn cc cb cm cd R Bs s q a n c b m d rs ws g W (hC.later hW) (hX.later hW)
  have HS : Hid (∀ W, Boxs w W [(w.heap.size + 1, txV s q a n c b m d, 27), (w.heap.size, #[.slice ca cn cc, .slice cb cm cd], 36)] → (W.cell? ⟨w.heap.size, 0, none⟩ = some (.slice ca cn cc) ∧ W.cell? ⟨w.heap.size, 1, none⟩ = some (.slice cb cm cd)) ∧ W.cell? ⟨w.heap.size + 1, 0, none⟩ = some (.int .i64 s) ∧ W.cell? ⟨w.heap.size + 1, 1, none⟩ = some (.int .i64 q) ∧ W.cell? ⟨w.heap.size + 1, 2, none⟩ = some (.slice a n c) ∧ W.cell? ⟨w.heap.size + 1, 3, none⟩ = some (.slice b m d)) := fun W hW => ⟨(hW.get 1 _ _ _ rfl).two, (hW.get 0 _ _ _ rfl).four⟩
  have hl1 := hX.lenR
  have hl2 := hX.lenW
  clear hX hs hC
  cases hB : bothB R Bs (txT (s, q) rs ws)
  · have cA0 : ∀ g W, Below w.heap.size w W → Calls Tryd.prog 21 #[.agg #[.slice ca cn cc, .slice cb cm cd], .agg (txV s q a n c b m d), .int .i64 g] W (NewL readC 2 W []) := fun g W hW => by
      have h1 := cA g W hW
      unfold readsM at h1
      rw [hB] at h1; exact h1
    have cB0 : ∀ g W, Below w.heap.size w W → Calls Tryd.prog 22 #[.agg #[.slice ca cn cc, .slice cb cm cd], .agg (txV s q a n c b m d), .int .i64 g] W (NewL writeC 4 W []) := fun g W hW => by
      have h1 := cB g W hW
      unfold writesM at h1
      rw [hB] at h1; exact h1
    rw [groupsM_no hB]
    clear hB cA cB
    go_enter Tryd.func25, Tryd.ntmps25
    go_wp2
    go_loopw [5, 6] (fun v i wr => ∃ k : Nat, k ≤ cn ∧ i = .int .i64 k ∧ v = .slice none 0 0 ∧ Boxs w wr [(w.heap.size + 1, txV s q a n c b m d, 27), (w.heap.size, #[.slice ca cn cc, .slice cb cm cd], 36)]) (fun _ i _ => cn - (intOf i).toNat)
    case atStart => exact ⟨0, Nat.zero_le _, rfl, rfl, H0.out⟩
    case round =>
      obtain ⟨k, hk, rfl, rfl, hY⟩ := hrel
      have HY := Lib.hid hY
      clear hY H0
      obtain ⟨⟨y0, y1⟩, x0, x1, x2, x3⟩ := HS.out _ HY.out
      by_cases hlt : k < cn
      · have i1 : (k : Int) < (cn : Int) := by omega
        go_upto_region 5 with (fail)
        have X0 := Lib.hid HY.out.drew
        have s0 := HS.out _ X0.out
        (clear x0 x1 x2 x3 y0 y1)
        go_region_held3 (fun W => (W.cell? ⟨w.heap.size, 0, none⟩ = some (.slice ca cn cc) ∧ W.cell? ⟨w.heap.size, 1, none⟩ = some (.slice cb cm cd)) ∧ W.cell? ⟨w.heap.size + 1, 0, none⟩ = some (.int .i64 s) ∧ W.cell? ⟨w.heap.size + 1, 1, none⟩ = some (.int .i64 q) ∧ W.cell? ⟨w.heap.size + 1, 2, none⟩ = some (.slice a n c) ∧ W.cell? ⟨w.heap.size + 1, 3, none⟩ = some (.slice b m d)) (first | (with_reducible exact s0) | (with_reducible exact s1) | (with_reducible exact s2))
          (first | (go_at_call 21; ((with_reducible refine (cA0 _ _ X0.out.bel).mono ?_); rintro e v1 ⟨a1, p1, rfl, hr1, hc1, hb1⟩; have X1 := Lib.hid (X0.out.below hb1); have s1 := HS.out _ X1.out)) | (go_at_call 22; ((with_reducible refine (cB0 _ _ X1.out.bel).mono ?_); rintro e v2 ⟨a2, p2, rfl, hr2, hc2, hb2⟩; have X2 := Lib.hid (X1.out.below hb2); have s2 := HS.out _ X2.out)))
        go_wp2
        go_roundw
        case rel => exact ⟨k + 1, by omega, by go_num, rfl, X2.out⟩
        case measure => simp [intOf]; omega
      · go_wp2
        go_ret
        exact NewN.none HY.out.bel
  · rw [groupsM_yes hB, hR]
    have h4 : cn ≤ 4 := by have := (formed_yes (both_yes hB).2).hi; omega
    have hT := (formT_iff _ _).1 (both_yes hB).1
    have h6 : rs.length ≤ 6 := by have := hT.rlen; simpa [txT, txR] using this
    have h7 : ws.length ≤ 6 := by have := hT.wlen; simpa [txT, txW] using this
    have eA : ∀ g, readsM R Bs (s, q) rs ws g = cutM (fun x : RdM => x.1) (txt Bs) g rs := fun g => by unfold readsM; rw [if_pos hB]
    have eB : ∀ g, writesM R Bs (s, q) rs ws g = cutM (fun x : WrM => x.key) (txt Bs) g ws := fun g => by unfold writesM; rw [if_pos hB]
    have HM := Lib.hid (fun g => both_mem (txt Bs) g rs ws)
    have HL := Lib.hid (fun g => And.intro (cutM_len (fun x : RdM => x.1) (txt Bs) g rs) (cutM_len (fun x : WrM => x.key) (txt Bs) g ws))
    have HG := Lib.hid (fun j => groupsC_snoc j (homesL (txt Bs) (keysM rs ++ keysV ws)))
    have HN := Lib.hid (fun j => groupsC_len j (homesL (txt Bs) (keysM rs ++ keysV ws)))
    clear hB hT
    generalize homesL (txt Bs) (keysM rs ++ keysV ws) = hs at *
    go_enter Tryd.func25, Tryd.ntmps25
    go_wp2
    go_loopw [5, 6] (fun v i wr => ∃ k : Nat, k ≤ cn ∧ i = .int .i64 k ∧ MadeL numC 1 3 w wr v (groupsC k hs) [(w.heap.size + 1, txV s q a n c b m d, 27), (w.heap.size, #[.slice ca cn cc, .slice cb cm cd], 36)]) (fun _ i _ => cn - (intOf i).toNat)
    case atStart => exact ⟨0, Nat.zero_le _, rfl, MadeL.start H0.out⟩
    case round =>
      obtain ⟨k, hk, rfl, hM⟩ := hrel
      have MM := Lib.hid hM
      clear hM H0
      obtain ⟨⟨y0, y1⟩, x0, x1, x2, x3⟩ := HS.out _ MM.out.boxs
      by_cases hlt : k < cn
      · have i1 : (k : Int) < (cn : Int) := by omega
        have hm := HM.out k
        have hL := HL.out (k : Int)
        have HGk := Lib.hid (HG.out k)
        have hNk := HN.out k
        have cAk := cA (k : Int)
        have cBk := cB (k : Int)
        rw [eA] at cAk
        rw [eB] at cBk
        clear HM HL HG HN cA cB eA eB
        generalize groupsC k hs = l at *
        generalize cutM (fun x : RdM => x.1) (txt Bs) (k : Int) rs = L1 at *
        generalize cutM (fun x : WrM => x.key) (txt Bs) (k : Int) ws = L2 at *
        have hw : IntKind.i64.wrap (((L1.length : Nat) : Int) + ((L2.length : Nat) : Int)) = ((L1.length : Nat) : Int) + ((L2.length : Nat) : Int) := IntWalk.i64_in _ (by omega)
        by_cases hmem : k ∈ hs
        · rw [if_pos hmem] at HGk
          have hd : decide (((L1.length : Nat) : Int) + ((L2.length : Nat) : Int) > 0) = true := by have := hm.2 hmem; simp; omega
          clear hmem hm
          go_upto_region 5 with (fail)
          have X0 := Lib.hid MM.out.drew
          have s0 := HS.out _ X0.out.boxs
          (clear x0 x1 x2 x3 y0 y1)
          go_region_held3 (fun W => (W.cell? ⟨w.heap.size, 0, none⟩ = some (.slice ca cn cc) ∧ W.cell? ⟨w.heap.size, 1, none⟩ = some (.slice cb cm cd)) ∧ W.cell? ⟨w.heap.size + 1, 0, none⟩ = some (.int .i64 s) ∧ W.cell? ⟨w.heap.size + 1, 1, none⟩ = some (.int .i64 q) ∧ W.cell? ⟨w.heap.size + 1, 2, none⟩ = some (.slice a n c) ∧ W.cell? ⟨w.heap.size + 1, 3, none⟩ = some (.slice b m d)) (first | (with_reducible exact s0) | (with_reducible exact s1) | (with_reducible exact s2))
            (first | (go_at_call 21; ((with_reducible refine (cAk _ X0.out.bel).mono ?_); rintro e v1 ⟨a1, p1, rfl, hr1, hc1, hb1⟩; have X1 := Lib.hid (X0.out.below hb1); have s1 := HS.out _ X1.out.boxs)) | (go_at_call 22; ((with_reducible refine (cBk _ X1.out.bel).mono ?_); rintro e v2 ⟨a2, p2, rfl, hr2, hc2, hb2⟩; have X2 := Lib.hid (X1.out.below hb2); have s2 := HS.out _ X2.out.boxs)))
          go_wp2_with ((at_builtin; (refine wpList_append_rowk _ rfl _ _ 33 rfl w.heap.size 3 iN _ 1 8 Tryd.underlying33 hi hz0 hz1 hz2 rfl (by omega) _ l.length (l.flatMap numC) rfl (X2.out.own.alloc _) (v2.heap.size + 1) (some ⟨v2.heap.size, 0, none⟩) 1 1 (numC k) rfl (RowAt.oneN v2 k _) (numC_cells _) (by unfold maxLen; omega) (by omega) (by have := X2.out.bel.size; simp; omega) ?_; intro v6 w6 ho6 hg6 hat6; have M6 := Lib.hid (X2.out.push ho6 hg6 hat6); clear ho6 hg6 hat6)))
          go_roundw
          case rel => exact ⟨k + 1, by omega, by go_num, by rw [HGk.out]; exact M6.out⟩
          case measure => simp [intOf]; omega
        · rw [if_neg hmem, List.append_nil] at HGk
          have hd : decide (((L1.length : Nat) : Int) + ((L2.length : Nat) : Int) > 0) = false := by have : ¬ 0 < L1.length + L2.length := fun e => hmem (hm.1 e); simp; omega
          clear hmem hm
          go_upto_region 5 with (fail)
          have X0 := Lib.hid MM.out.drew
          have s0 := HS.out _ X0.out.boxs
          (clear x0 x1 x2 x3 y0 y1)
          go_region_held3 (fun W => (W.cell? ⟨w.heap.size, 0, none⟩ = some (.slice ca cn cc) ∧ W.cell? ⟨w.heap.size, 1, none⟩ = some (.slice cb cm cd)) ∧ W.cell? ⟨w.heap.size + 1, 0, none⟩ = some (.int .i64 s) ∧ W.cell? ⟨w.heap.size + 1, 1, none⟩ = some (.int .i64 q) ∧ W.cell? ⟨w.heap.size + 1, 2, none⟩ = some (.slice a n c) ∧ W.cell? ⟨w.heap.size + 1, 3, none⟩ = some (.slice b m d)) (first | (with_reducible exact s0) | (with_reducible exact s1) | (with_reducible exact s2))
            (first | (go_at_call 21; ((with_reducible refine (cAk _ X0.out.bel).mono ?_); rintro e v1 ⟨a1, p1, rfl, hr1, hc1, hb1⟩; have X1 := Lib.hid (X0.out.below hb1); have s1 := HS.out _ X1.out.boxs)) | (go_at_call 22; ((with_reducible refine (cBk _ X1.out.bel).mono ?_); rintro e v2 ⟨a2, p2, rfl, hr2, hc2, hb2⟩; have X2 := Lib.hid (X1.out.below hb2); have s2 := HS.out _ X2.out.boxs)))
          go_wp2
          go_roundw
          case rel => exact ⟨k + 1, by omega, by go_num, by rw [HGk.out]; exact X2.out⟩
          case measure => simp [intOf]; omega
      · have hkn : k = cn := by omega
        subst hkn
        have hN := Lib.hid (NewN.ofL MM.out)
        obtain ⟨a1, c1, rfl, _⟩ := MM.out.lies
        clear MM
        go_wp2
        go_ret
        exact hN.out
end Go.Proofs.YtlkgpajpblhkeaaDoor

/- TxnCutsWalk -/
namespace Go.Proofs.YtlkgpajpblhkeaaDoor

open Go.RowKit

set_option linter.unusedVariables false

theorem readsM_mem {R : List Int} {Bs : List ByteArray} {i : IdN} {rs : List RdM} {ws : List WrM} {g : Int} {x : RdM} (h : x ∈ readsM R Bs i rs ws g) : x ∈ rs := by
  unfold readsM at h
  split at h
  · exact (List.mem_filter.1 h).1
  · cases h
theorem writesM_mem {R : List Int} {Bs : List ByteArray} {i : IdN} {rs : List RdM} {ws : List WrM} {g : Int} {x : WrM} (h : x ∈ writesM R Bs i rs ws g) : x ∈ ws := by
  unfold writesM at h
  split at h
  · exact (List.mem_filter.1 h).1
  · cases h
theorem readsM_len (R : List Int) (Bs : List ByteArray) (i : IdN) (rs : List RdM) (ws : List WrM) (g : Int) : (readsM R Bs i rs ws g).length ≤ rs.length := by
  unfold readsM
  split
  · exact cutM_len _ _ _ _
  · exact Nat.zero_le _
theorem writesM_len (R : List Int) (Bs : List ByteArray) (i : IdN) (rs : List RdM) (ws : List WrM) (g : Int) : (writesM R Bs i rs ws g).length ≤ ws.length := by
  unfold writesM
  split
  · exact cutM_len _ _ _ _
  · exact Nat.zero_le _
theorem groupsM_len (R : List Int) (Bs : List ByteArray) (i : IdN) (rs : List RdM) (ws : List WrM) : (groupsM R Bs i rs ws).length ≤ 64 := by
  cases hB : bothB R Bs (txT i rs ws)
  · rw [groupsM_no hB]; exact Nat.zero_le _
  · rw [groupsM_yes hB]
    have h1 := (formed_yes (both_yes hB).2).hi
    have h2 := groupsC_len R.length (homesL (txt Bs) (keysM rs ++ keysV ws))
    omega

set_option maxRecDepth 100000 in
set_option maxHeartbeats 2000000 in
theorem cuts8_walk (ca : Option Addr) (cn cc : Nat) (cb : Option Addr) (cm cd : Nat) (R : List Int) (Bs : List ByteArray) (s q : Int) (a : Option Addr) (n c : Nat) (b : Option Addr) (m d : Nat) (rs : List RdM) (ws : List WrM) (g : Int) (w : World)
    (hC : CfgAt w ca cn cb cm R Bs) (hX : TxAt w a n b m rs ws) (hU : Tabs w) :
    Calls Tryd.prog 4 #[.agg #[.slice ca cn cc, .slice cb cm cd], .agg (txV s q a n c b m d), .int .i64 g] w (Says w true) := by
  have H0 := Lib.hid (((Boxs.start w).more #[.slice ca cn cc, .slice cb cm cd] 36).more (txV s q a n c b m d) 27)
  have hs : (w.alloc (.cells #[.slice ca cn cc, .slice cb cm cd] 36)).heap.size = w.heap.size + 1 := by simp
  rw [hs] at H0
  have cF := fun W (hW : Below w.heap.size w W) => rFewT_any s q a n c b m d rs ws W (hX.later hW)
  have cK := fun W (hW : Below w.heap.size w W) => rFew_any ca cn cc cb cm cd R Bs W (hC.later hW)
  obtain ⟨x0, x1, x2, x3⟩ := (H0.out.get 0 _ _ _ rfl).four
  obtain ⟨y0, y1⟩ := (H0.out.get 1 _ _ _ rfl).two
  cases hf : fewT rs ws
  · rw [hf] at cF
    clear hf cK
    go_enter Tryd.func4, Tryd.ntmps4
    go_upto_region 2 with (first | (go_at_call 8; ((with_reducible refine (awake8_any _).mono ?_); rintro e w1 ⟨rfl, hb1⟩; have H1 := Lib.hid (H0.out.below hb1); (clear x0 x1 x2 x3 y0 y1); obtain ⟨x0, x1, x2, x3⟩ := (H1.out.get 0 _ _ _ rfl).four; obtain ⟨y0, y1⟩ := (H1.out.get 1 _ _ _ rfl).two)) | (go_at_call 9; ((with_reducible refine (cF _ H1.out.bel).mono ?_); rintro e w2 ⟨rfl, hb2⟩; have H2 := Lib.hid (H1.out.below hb2))))
    go_wp2_with (go_at_call 8; ((with_reducible refine (awake8_any _).mono ?_); rintro e w3 ⟨rfl, hb3⟩; have H3 := Lib.hid (H2.out.below hb3)))
    go_ret
    exact ⟨rfl, H3.out.bel⟩
  cases hk : fewC cn Bs
  · rw [hf] at cF
    rw [hk] at cK
    clear hf hk
    go_enter Tryd.func4, Tryd.ntmps4
    go_upto_region 2 with (first | (go_at_call 8; ((with_reducible refine (awake8_any _).mono ?_); rintro e w1 ⟨rfl, hb1⟩; have H1 := Lib.hid (H0.out.below hb1); (clear x0 x1 x2 x3 y0 y1); obtain ⟨x0, x1, x2, x3⟩ := (H1.out.get 0 _ _ _ rfl).four; obtain ⟨y0, y1⟩ := (H1.out.get 1 _ _ _ rfl).two)) | (go_at_call 9; ((with_reducible refine (cF _ H1.out.bel).mono ?_); rintro e w2 ⟨rfl, hb2⟩; have H2 := Lib.hid (H1.out.below hb2); (clear x0 x1 x2 x3 y0 y1); obtain ⟨x0, x1, x2, x3⟩ := (H2.out.get 0 _ _ _ rfl).four; obtain ⟨y0, y1⟩ := (H2.out.get 1 _ _ _ rfl).two)) | (go_at_call 18; ((with_reducible refine (cK _ H2.out.bel).mono ?_); rintro e w3 ⟨rfl, hb3⟩; have H3 := Lib.hid (H2.out.below hb3))))
    go_wp2_with (go_at_call 8; ((with_reducible refine (awake8_any _).mono ?_); rintro e w4 ⟨rfl, hb4⟩; have H4 := Lib.hid (H3.out.below hb4)))
    go_ret
    exact ⟨rfl, H4.out.bel⟩
  have hl := fewT_len hf
  have hcn : cn ≤ maxLen := by
    unfold fewC at hk
    rw [Bool.and_eq_true, Bool.and_eq_true] at hk
    have := of_decide_eq_true hk.2.1
    unfold maxLen; omega
  have h1 := readsM_len R Bs (s, q) rs ws g
  have h2 := writesM_len R Bs (s, q) rs ws g
  exact cuts8_gen ca cn cc cb cm cd R Bs s q a n c b m d rs ws g w hC hX hf hk (readsM R Bs (s, q) rs ws g) (writesM R Bs (s, q) rs ws g) (groupsM R Bs (s, q) rs ws)
    (fun x hx => hX.okR x (readsM_mem hx)) (fun x hx => hX.okW x (writesM_mem hx)) (by omega) (by omega) (groupsM_len ..)
    (fun W hW => tReads_any ca cn cc cb cm cd R Bs s q a n c b m d rs ws g W (hC.later hW) (hX.later hW) (hU.below hW))
    (fun W hW => tWrites_any ca cn cc cb cm cd R Bs s q a n c b m d rs ws g W (hC.later hW) (hX.later hW) (hU.below hW))
    (fun W hW => rReads_any ca cn cc cb cm cd R Bs s q a n c b m d rs ws g W (hC.later hW) (hX.later hW))
    (fun W hW => rWrites_any ca cn cc cb cm cd R Bs s q a n c b m d rs ws g W (hC.later hW) (hX.later hW))
    (fun W hW => tGroups_any ca cn cc cb cm cd R Bs s q a n c b m d rs ws W (hC.later hW) (hX.later hW) (hU.below hW))
    (fun W hW => rGroupsT_any ca cn cc cb cm cd R Bs s q a n c b m d rs ws W (hC.later hW) (hX.later hW) hcn)
end Go.Proofs.YtlkgpajpblhkeaaDoor
