/- The walk of the statement TxnCuts, over what the calls answer. Conditions: the configuration's and the transaction's lists lie in memory. -/
import Derived.Test.YtlkgpajpblhkeaaDoorGI
import Derived.Test.YtlkgpajpblhkeaaDoorGH
import Derived.Test.YtlkgpajpblhkeaaDoorQuorumRef
import Derived.Test.YtlkgpajpblhkeaaDoorGB
import Derived.Deep.RegionHeld3
import Derived.Deep.DeepCutAuto
namespace Go.Proofs.YtlkgpajpblhkeaaDoor

open Go.RowKit

set_option linter.unusedVariables false

/-- A box beside those that lie there, made after them. -/
def BoxG (w W : World) (G : Nat) (cs : Array Value) (t : TypeId) (L : List (Nat × Array Value × TypeId)) : Prop := Boxs w W ((G, cs, t) :: L) ∧ (∀ b ∈ L, b.1 < G) ∧ w.heap.size ≤ G
section

variable {w W W' : World} {G : Nat} {cs : Array Value} {t : TypeId} {L : List (Nat × Array Value × TypeId)}

theorem BoxG.new (h : Boxs w W L) (cs : Array Value) (t : TypeId) : BoxG w (W.alloc (.cells cs t)) W.heap.size cs t L := ⟨h.more cs t, fun b hb => (h.2 b hb).lt, h.1.size⟩
theorem BoxG.below (h : BoxG w W G cs t L) (hb : Below W.heap.size W W') : BoxG w W' G cs t L := ⟨h.1.below hb, h.2⟩
theorem BoxG.drew (h : BoxG w W G cs t L) : BoxG w W.drew G cs t L := ⟨h.1.drew, h.2⟩
theorem BoxG.boxs (h : BoxG w W G cs t L) : Boxs w W ((G, cs, t) :: L) := h.1
theorem BoxG.tail (h : BoxG w W G cs t L) : Boxs w W L := h.1.tail
theorem BoxG.bel (h : BoxG w W G cs t L) : Below w.heap.size w W := h.1.1
theorem BoxG.set (h : BoxG w W G cs t L) (i : Nat) (u : Value) : BoxG w (W.setCell ⟨G, i, none⟩ u) G (cs.setIfInBounds i u) t L := by
  refine ⟨⟨h.1.1.setCell h.2.2 _, fun b hb => ?_⟩, h.2⟩
  rcases List.mem_cons.1 hb with rfl | hb
  · exact (h.1.get 0 _ _ _ rfl).set i u
  · exact (h.1.2 b (List.mem_cons_of_mem _ hb)).far i u (Nat.ne_of_lt (h.2.1 b hb))
theorem BoxG.four {x y z u : Value} (h : BoxG w W G #[x, y, z, u] t L) : (W.cell? ⟨G, 0, none⟩ = some x ∧ W.cell? ⟨G, 1, none⟩ = some y ∧ W.cell? ⟨G, 2, none⟩ = some z ∧ W.cell? ⟨G, 3, none⟩ = some u) ∧ W.frozen? ⟨G, 0, none⟩ = false ∧ W.frozen? ⟨G, 1, none⟩ = false ∧ W.frozen? ⟨G, 2, none⟩ = false ∧ W.frozen? ⟨G, 3, none⟩ = false :=
  ⟨(h.1.get 0 _ _ _ rfl).four, (h.1.get 0 _ _ _ rfl).frozen 0, (h.1.get 0 _ _ _ rfl).frozen 1, (h.1.get 0 _ _ _ rfl).frozen 2, (h.1.get 0 _ _ _ rfl).frozen 3⟩
/-- No cell of it is a text. -/
def NoStr (cs : Array Value) : Prop := ∀ (i : Nat) (z : ByteArray), cs[i]? ≠ some (.string z)
theorem noStr_tx (s q : Int) (a : Option Addr) (n c : Nat) (b : Option Addr) (m d : Nat) : NoStr (txV s q a n c b m d) := by
  intro i z
  match i with
  | 0 => simp
  | 1 => simp
  | 2 => simp
  | 3 => simp
  | i + 4 => simp
theorem RowAt.set_far {B n k : Nat} {a : Option Addr} {xs : List Value} (h : RowAt W B a n k xs) (hs : n ≠ 0 → ∃ z, xs[0]? = some (.string z)) (hb : BoxC W G cs t) (hn : NoStr cs) (i : Nat) (u : Value) : RowAt (W.setCell ⟨G, i, none⟩ u) B a n k xs := by
  rcases h with ⟨hl, h | ⟨b, off, ha, hb', hc⟩⟩
  · exact ⟨hl, .inl h⟩
  · by_cases h0 : n = 0
    · exact ⟨hl, .inl h0⟩
    · obtain ⟨z, hz⟩ := hs h0
      have h1 := hc 0 _ hz
      have hne : b ≠ G := by
        rintro rfl
        rw [cell_of_row _ _ _ _ _ _ hb] at h1
        exact hn _ _ h1
      exact ⟨hl, .inr ⟨b, off, ha, hb', fun j v hv => (World.cell?_of_block (Below.heap_setCell _ _ _ _ hne)).trans (hc j v hv)⟩⟩
theorem TxAt.set1 {a1 a2 : Option Addr} {n1 n2 : Nat} {L1 : List RdM} {L2 : List WrM} (h : TxAt W a1 n1 a2 n2 L1 L2) (hb : BoxC W G cs t) (hn : NoStr cs) (i : Nat) (u : Value) : TxAt (W.setCell ⟨G, i, none⟩ u) a1 n1 a2 n2 L1 L2 := by
  have e : (W.setCell ⟨G, i, none⟩ u).heap.size = W.heap.size := by simp
  refine ⟨⟨⟨h.lenR, ?_⟩, ⟨h.lenW, ?_⟩⟩, h.okR, h.okW⟩
  · rw [e]
    refine h.rds.2.set_far (fun h0 => ?_) hb hn i u
    have := h.lenR
    match L1 with
    | [] => exact absurd this.symm h0
    | x :: r => exact ⟨x.1, rfl⟩
  · rw [e]
    refine h.wrs.2.set_far (fun h0 => ?_) hb hn i u
    have := h.lenW
    match L2 with
    | [] => exact absurd this.symm h0
    | x :: r => exact ⟨x.key, rfl⟩
theorem TxAt.set4 {a1 a2 : Option Addr} {n1 n2 : Nat} {L1 : List RdM} {L2 : List WrM} (h : TxAt W a1 n1 a2 n2 L1 L2) {s q : Int} {a : Option Addr} {n c : Nat} {b : Option Addr} {m d : Nat} (hb : BoxG w W G (txV s q a n c b m d) t L) (s' q' : Int) (a' : Option Addr) (n' c' : Nat) (b' : Option Addr) (m' d' : Nat) :
    TxAt ((((W.setCell ⟨G, 0, none⟩ (.int .i64 s')).setCell ⟨G, 1, none⟩ (.int .i64 q')).setCell ⟨G, 2, none⟩ (.slice a' n' c')).setCell ⟨G, 3, none⟩ (.slice b' m' d')) a1 n1 a2 n2 L1 L2 :=
  (((h.set1 (hb.1.get 0 _ _ _ rfl) (noStr_tx _ _ _ _ _ _ _ _) 0 _).set1 (t := t) (cs := txV s' q a n c b m d) ((hb.set 0 _).1.get 0 _ _ _ rfl) (noStr_tx _ _ _ _ _ _ _ _) 1 _).set1 (t := t) (cs := txV s' q' a n c b m d) (((hb.set 0 _).set 1 _).1.get 0 _ _ _ rfl) (noStr_tx _ _ _ _ _ _ _ _) 2 _).set1 (t := t) (cs := txV s' q' a' n' c' b m d) ((((hb.set 0 _).set 1 _).set 2 _).1.get 0 _ _ _ rfl) (noStr_tx _ _ _ _ _ _ _ _) 3 _
theorem TxAt.drew {a1 a2 : Option Addr} {n1 n2 : Nat} {L1 : List RdM} {L2 : List WrM} (h : TxAt W a1 n1 a2 n2 L1 L2) : TxAt W.drew a1 n1 a2 n2 L1 L2 := h.later (below_drewN 1 (Below.refl _ _))
theorem TxAt.rows {a1 a2 : Option Addr} {L1 : List RdM} {L2 : List WrM} (h1 : RowAt W W.heap.size a1 L1.length 2 (L1.flatMap readC)) (h2 : RowAt W W.heap.size a2 L2.length 4 (L2.flatMap writeC)) (o1 : ∀ x ∈ L1, RdOk x) (o2 : ∀ x ∈ L2, WrOk x) : TxAt W a1 L1.length a2 L2.length L1 L2 := ⟨⟨⟨rfl, h1⟩, ⟨rfl, h2⟩⟩, o1, o2⟩
theorem BoxG.set4 {x y z u : Value} (h : BoxG w W G #[x, y, z, u] t L) (x' y' z' u' : Value) : BoxG w ((((W.setCell ⟨G, 0, none⟩ x').setCell ⟨G, 1, none⟩ y').setCell ⟨G, 2, none⟩ z').setCell ⟨G, 3, none⟩ u') G #[x', y', z', u'] t L := (((h.set 0 x').set 1 y').set 2 z').set 3 u'
end

set_option maxRecDepth 100000 in
set_option maxHeartbeats 4000000 in
theorem cuts8_gen (ca : Option Addr) (cn cc : Nat) (cb : Option Addr) (cm cd : Nat) (R : List Int) (Bs : List ByteArray) (s q : Int) (a : Option Addr) (n c : Nat) (b : Option Addr) (m d : Nat) (rs : List RdM) (ws : List WrM) (g : Int) (w : World)
    (hC : CfgAt w ca cn cb cm R Bs) (hX : TxAt w a n b m rs ws) (hf : fewT rs ws = true) (hk : fewC cn Bs = true) (L1 : List RdM) (L2 : List WrM) (l : List Nat) (o1 : ∀ x ∈ L1, RdOk x) (o2 : ∀ x ∈ L2, WrOk x) (n1 : L1.length ≤ 12) (n2 : L2.length ≤ 12) (hl : l.length ≤ 64)
    (cA : ∀ W, Below w.heap.size w W → Calls Tryd.prog 19 #[.agg #[.slice ca cn cc, .slice cb cm cd], .agg (txV s q a n c b m d), .int .i64 g] W (NewL readC 2 W L1))
    (cB : ∀ W, Below w.heap.size w W → Calls Tryd.prog 20 #[.agg #[.slice ca cn cc, .slice cb cm cd], .agg (txV s q a n c b m d), .int .i64 g] W (NewL writeC 4 W L2))
    (cA' : ∀ W, Below w.heap.size w W → Calls Tryd.prog 21 #[.agg #[.slice ca cn cc, .slice cb cm cd], .agg (txV s q a n c b m d), .int .i64 g] W (NewL readC 2 W L1))
    (cB' : ∀ W, Below w.heap.size w W → Calls Tryd.prog 22 #[.agg #[.slice ca cn cc, .slice cb cm cd], .agg (txV s q a n c b m d), .int .i64 g] W (NewL writeC 4 W L2))
    (cG : ∀ W, Below w.heap.size w W → Calls Tryd.prog 24 #[.agg #[.slice ca cn cc, .slice cb cm cd], .agg (txV s q a n c b m d)] W (NewN W l))
    (cG' : ∀ W, Below w.heap.size w W → Calls Tryd.prog 25 #[.agg #[.slice ca cn cc, .slice cb cm cd], .agg (txV s q a n c b m d)] W (NewN W l)) :
    Calls Tryd.prog 4 #[.agg #[.slice ca cn cc, .slice cb cm cd], .agg (txV s q a n c b m d), .int .i64 g] w (Says w true) := by
  have H0 := Lib.hid (((Boxs.start w).more #[.slice ca cn cc, .slice cb cm cd] 36).more (txV s q a n c b m d) 27)
  have hs : (w.alloc (.cells #[.slice ca cn cc, .slice cb cm cd] 36)).heap.size = w.heap.size + 1 := by simp
  rw [hs] at H0
  have cF := fun W (hW : Below w.heap.size w W) => rFewT_any s q a n c b m d rs ws W (hX.later hW)
  have cK := fun W (hW : Below w.heap.size w W) => rFew_any ca cn cc cb cm cd R Bs W (hC.later hW)
  rw [hf] at cF
  rw [hk] at cK
  have HS : Hid (∀ W, Boxs w W [(w.heap.size + 1, txV s q a n c b m d, 27), (w.heap.size, #[.slice ca cn cc, .slice cb cm cd], 36)] → (W.cell? ⟨w.heap.size, 0, none⟩ = some (.slice ca cn cc) ∧ W.cell? ⟨w.heap.size, 1, none⟩ = some (.slice cb cm cd)) ∧ W.cell? ⟨w.heap.size + 1, 0, none⟩ = some (.int .i64 s) ∧ W.cell? ⟨w.heap.size + 1, 1, none⟩ = some (.int .i64 q) ∧ W.cell? ⟨w.heap.size + 1, 2, none⟩ = some (.slice a n c) ∧ W.cell? ⟨w.heap.size + 1, 3, none⟩ = some (.slice b m d)) := fun W hW => ⟨(hW.get 1 _ _ _ rfl).two, (hW.get 0 _ _ _ rfl).four⟩
  obtain ⟨⟨y0, y1⟩, x0, x1, x2, x3⟩ := HS.out _ H0.out
  clear hC hX hf hk hs
  go_enter Tryd.func4, Tryd.ntmps4
  go_upto_region 3 with (first | (go_at_call 8; ((with_reducible refine (awake8_any _).mono ?_); rintro e w1 ⟨rfl, hb1⟩; have H1 := Lib.hid (H0.out.below hb1); (clear x0 x1 x2 x3 y0 y1); obtain ⟨⟨y0, y1⟩, x0, x1, x2, x3⟩ := HS.out _ H1.out)) | (go_at_call 9; ((with_reducible refine (cF _ H1.out.bel).mono ?_); rintro e w2 ⟨rfl, hb2⟩; have H2 := Lib.hid (H1.out.below hb2); (clear x0 x1 x2 x3 y0 y1); obtain ⟨⟨y0, y1⟩, x0, x1, x2, x3⟩ := HS.out _ H2.out)) | (go_at_call 18; ((with_reducible refine (cK _ H2.out.bel).mono ?_); rintro e w3 ⟨rfl, hb3⟩; have H3 := Lib.hid (H2.out.below hb3))))
  have X0 := Lib.hid H3.out.drew
  have s0 := HS.out _ X0.out
  have Y0 := Lib.hid (BoxG.new H3.out (txV 0 0 none 0 0 none 0 0) 27).drew
  have t0 := HS.out _ Y0.out.tail
  (clear x0 x1 x2 x3 y0 y1 H0 H1 H2)
  go_cut [7] (fun v wr => ∃ (G : Nat) (a1 : Option Addr) (p1 : Nat) (a2 : Option Addr) (p2 : Nat), v = .pointer (some ⟨G, 0, none⟩) ∧ BoxG w wr G (txV 0 0 a1 L1.length p1 a2 L2.length p2) 27 [(w.heap.size + 1, txV s q a n c b m d, 27), (w.heap.size, #[.slice ca cn cc, .slice cb cm cd], 36)] ∧ TxAt wr a1 L1.length a2 L2.length L1 L2)
  case first =>
    go_region_held3 (fun W => (W.cell? ⟨w.heap.size, 0, none⟩ = some (.slice ca cn cc) ∧ W.cell? ⟨w.heap.size, 1, none⟩ = some (.slice cb cm cd)) ∧ W.cell? ⟨w.heap.size + 1, 0, none⟩ = some (.int .i64 s) ∧ W.cell? ⟨w.heap.size + 1, 1, none⟩ = some (.int .i64 q) ∧ W.cell? ⟨w.heap.size + 1, 2, none⟩ = some (.slice a n c) ∧ W.cell? ⟨w.heap.size + 1, 3, none⟩ = some (.slice b m d)) (first | (with_reducible exact s0) | (with_reducible exact t0) | (with_reducible exact s1) | (with_reducible exact t1) | (with_reducible exact s2) | (with_reducible exact t2) | (with_reducible exact t3) | exact HS.out _ (Y2.out.set4 _ _ _ _).tail)
      (first | (go_at_call 19; ((with_reducible refine (cA _ (by first | exact X0.out.bel | exact Y0.out.bel)).mono ?_); rintro e v1 ⟨a1, p1, rfl, hr1, hc1, hb1⟩; (first | (have X1 := Lib.hid (X0.out.below hb1); have Y1 := Lib.hid (BoxG.new X1.out (txV 0 0 none 0 0 none 0 0) 27); have s1 := HS.out _ X1.out; have R1 := Lib.hid hr1; have RY := Lib.hid ((hr1.below (one_box v1 (txV 0 0 none 0 0 none 0 0) 27) (Nat.le_refl _)).more (one_box v1 (txV 0 0 none 0 0 none 0 0) 27).size)) | (have Y1 := Lib.hid (Y0.out.below hb1); have RY := Lib.hid hr1)); have t1 := HS.out _ Y1.out.tail)) | (go_at_call 20; ((with_reducible refine (cB _ (by first | exact X1.out.bel | exact Y1.out.bel)).mono ?_); rintro e v2 ⟨a2, p2, rfl, hr2, hc2, hb2⟩; (first | (have X2 := Lib.hid (X1.out.below hb2); have Y2 := Lib.hid (BoxG.new X2.out (txV 0 0 none 0 0 none 0 0) 27); have Y3 := Lib.hid (BoxG.new X2.out (txV 0 0 a1 L1.length p1 a2 L2.length p2) 27); have s2 := HS.out _ X2.out; have t3 := HS.out _ Y3.out.tail; have T3 := Lib.hid ((TxAt.rows ((R1.out.below hb2 (Nat.le_refl _)).more hb2.size) hr2 o1 o2).later (one_box v2 (txV 0 0 a1 L1.length p1 a2 L2.length p2) 27))) | (have Y2 := Lib.hid (Y1.out.below hb2); have T2 := Lib.hid (TxAt.rows ((RY.out.below hb2 (Nat.le_refl _)).more hb2.size) hr2 o1 o2))); have t2 := HS.out _ Y2.out.tail; obtain ⟨⟨z0, z1, z2, z3⟩, f0, f1, f2, f3⟩ := Y2.out.four)))
    all_goals (go_wp2_with fail; go_meet)
    case rel => exact ⟨_, a1, p1, a2, p2, rfl, Y3.out, T3.out⟩
    case rel => exact ⟨_, a1, p1, a2, p2, rfl, Y2.out.set4 _ _ _ _, T2.out.set4 Y2.out _ _ _ _ _ _ _ _⟩
    case rel => exact ⟨_, a1, p1, a2, p2, rfl, Y2.out.set4 _ _ _ _, T2.out.set4 Y2.out _ _ _ _ _ _ _ _⟩
  case rest =>
  obtain ⟨G1, e1, r1, e2, r2, rfl, hB1, hT1⟩ := hcut
  have B1 := Lib.hid hB1.boxs
  have T1 := Lib.hid hT1
  have HS2 : Hid (∀ W, Boxs w W [(G1, txV 0 0 e1 L1.length r1 e2 L2.length r2, 27), (w.heap.size + 1, txV s q a n c b m d, 27), (w.heap.size, #[.slice ca cn cc, .slice cb cm cd], 36)] → (W.cell? ⟨w.heap.size, 0, none⟩ = some (.slice ca cn cc) ∧ W.cell? ⟨w.heap.size, 1, none⟩ = some (.slice cb cm cd)) ∧ W.cell? ⟨w.heap.size + 1, 0, none⟩ = some (.int .i64 s) ∧ W.cell? ⟨w.heap.size + 1, 1, none⟩ = some (.int .i64 q) ∧ W.cell? ⟨w.heap.size + 1, 2, none⟩ = some (.slice a n c) ∧ W.cell? ⟨w.heap.size + 1, 3, none⟩ = some (.slice b m d)) := fun W hW => HS.out _ hW.tail
  clear hB1 hT1 H3 X0 Y0 s0 t0 cA cB
  go_upto_region 4 with (fail)
  have X0 := Lib.hid B1.out.drew
  have s0 := HS2.out _ X0.out
  have Y0 := Lib.hid (BoxG.new B1.out (txV 0 0 none 0 0 none 0 0) 27).drew
  have t0 := HS2.out _ Y0.out.tail
  have C0 := Lib.hid (T1.out.later (below_drewN 1 (Below.refl _ _)))
  have D0 := Lib.hid ((T1.out.later (one_box _ (txV 0 0 none 0 0 none 0 0) 27)).later (below_drewN 1 (Below.refl _ _)))
  go_cut [8] (fun v wr => ∃ (G : Nat) (a1 : Option Addr) (p1 : Nat) (a2 : Option Addr) (p2 : Nat), v = .pointer (some ⟨G, 0, none⟩) ∧ BoxG w wr G (txV 0 0 a1 L1.length p1 a2 L2.length p2) 27 [(G1, txV 0 0 e1 L1.length r1 e2 L2.length r2, 27), (w.heap.size + 1, txV s q a n c b m d, 27), (w.heap.size, #[.slice ca cn cc, .slice cb cm cd], 36)] ∧ TxAt wr a1 L1.length a2 L2.length L1 L2 ∧ TxAt wr e1 L1.length e2 L2.length L1 L2)
  case first =>
    go_region_held3 (fun W => (W.cell? ⟨w.heap.size, 0, none⟩ = some (.slice ca cn cc) ∧ W.cell? ⟨w.heap.size, 1, none⟩ = some (.slice cb cm cd)) ∧ W.cell? ⟨w.heap.size + 1, 0, none⟩ = some (.int .i64 s) ∧ W.cell? ⟨w.heap.size + 1, 1, none⟩ = some (.int .i64 q) ∧ W.cell? ⟨w.heap.size + 1, 2, none⟩ = some (.slice a n c) ∧ W.cell? ⟨w.heap.size + 1, 3, none⟩ = some (.slice b m d)) (first | (with_reducible exact s0) | (with_reducible exact t0) | (with_reducible exact s1) | (with_reducible exact t1) | (with_reducible exact s2) | (with_reducible exact t2) | (with_reducible exact t3) | exact HS2.out _ (Y2.out.set4 _ _ _ _).tail)
      (first | (go_at_call 21; ((with_reducible refine (cA' _ (by first | exact X0.out.bel | exact Y0.out.bel)).mono ?_); rintro e v1 ⟨a1, p1, rfl, hr1, hc1, hb1⟩; (first | (have X1 := Lib.hid (X0.out.below hb1); have Y1 := Lib.hid (BoxG.new X1.out (txV 0 0 none 0 0 none 0 0) 27); have s1 := HS2.out _ X1.out; have R1 := Lib.hid hr1; have RY := Lib.hid ((hr1.below (one_box v1 (txV 0 0 none 0 0 none 0 0) 27) (Nat.le_refl _)).more (one_box v1 (txV 0 0 none 0 0 none 0 0) 27).size); have C1 := Lib.hid (C0.out.later hb1); have D1 := Lib.hid (C1.out.later (one_box v1 (txV 0 0 none 0 0 none 0 0) 27))) | (have Y1 := Lib.hid (Y0.out.below hb1); have RY := Lib.hid hr1; have D1 := Lib.hid (D0.out.later hb1))); have t1 := HS2.out _ Y1.out.tail)) | (go_at_call 22; ((with_reducible refine (cB' _ (by first | exact X1.out.bel | exact Y1.out.bel)).mono ?_); rintro e v2 ⟨a2, p2, rfl, hr2, hc2, hb2⟩; (first | (have X2 := Lib.hid (X1.out.below hb2); have Y2 := Lib.hid (BoxG.new X2.out (txV 0 0 none 0 0 none 0 0) 27); have Y3 := Lib.hid (BoxG.new X2.out (txV 0 0 a1 L1.length p1 a2 L2.length p2) 27); have s2 := HS2.out _ X2.out; have t3 := HS2.out _ Y3.out.tail; have T3 := Lib.hid ((TxAt.rows ((R1.out.below hb2 (Nat.le_refl _)).more hb2.size) hr2 o1 o2).later (one_box v2 (txV 0 0 a1 L1.length p1 a2 L2.length p2) 27)); have C3 := Lib.hid ((C1.out.later hb2).later (one_box v2 (txV 0 0 a1 L1.length p1 a2 L2.length p2) 27))) | (have Y2 := Lib.hid (Y1.out.below hb2); have T2 := Lib.hid (TxAt.rows ((RY.out.below hb2 (Nat.le_refl _)).more hb2.size) hr2 o1 o2); have D2 := Lib.hid (D1.out.later hb2))); have t2 := HS2.out _ Y2.out.tail; obtain ⟨⟨z0, z1, z2, z3⟩, f0, f1, f2, f3⟩ := Y2.out.four)))
    all_goals (go_wp2_with fail; go_meet)
    case rel => exact ⟨_, a1, p1, a2, p2, rfl, Y3.out, T3.out, C3.out⟩
    case rel => exact ⟨_, a1, p1, a2, p2, rfl, Y2.out.set4 _ _ _ _, T2.out.set4 Y2.out _ _ _ _ _ _ _ _, D2.out.set4 Y2.out _ _ _ _ _ _ _ _⟩
    case rel => exact ⟨_, a1, p1, a2, p2, rfl, Y2.out.set4 _ _ _ _, T2.out.set4 Y2.out _ _ _ _ _ _ _ _, D2.out.set4 Y2.out _ _ _ _ _ _ _ _⟩
  case rest =>
  obtain ⟨G2, e3, r3, e4, r4, rfl, hB2, hT2, hT1⟩ := hcut
  have B2 := Lib.hid hB2.boxs
  have U1 := Lib.hid hT1
  have U2 := Lib.hid hT2
  clear hB2 hT2 hT1 X0 Y0 s0 t0 cA' cB' C0 D0 B1 T1
  have HS3 : Hid (∀ W, Boxs w W [(G2, txV 0 0 e3 L1.length r3 e4 L2.length r4, 27), (G1, txV 0 0 e1 L1.length r1 e2 L2.length r2, 27), (w.heap.size + 1, txV s q a n c b m d, 27), (w.heap.size, #[.slice ca cn cc, .slice cb cm cd], 36)] → (W.cell? ⟨G1, 0, none⟩ = some (.int .i64 0) ∧ W.cell? ⟨G1, 1, none⟩ = some (.int .i64 0) ∧ W.cell? ⟨G1, 2, none⟩ = some (.slice e1 L1.length r1) ∧ W.cell? ⟨G1, 3, none⟩ = some (.slice e2 L2.length r2)) ∧ (W.cell? ⟨G2, 0, none⟩ = some (.int .i64 0) ∧ W.cell? ⟨G2, 1, none⟩ = some (.int .i64 0) ∧ W.cell? ⟨G2, 2, none⟩ = some (.slice e3 L1.length r3) ∧ W.cell? ⟨G2, 3, none⟩ = some (.slice e4 L2.length r4)) ∧ (W.cell? ⟨w.heap.size, 0, none⟩ = some (.slice ca cn cc) ∧ W.cell? ⟨w.heap.size, 1, none⟩ = some (.slice cb cm cd)) ∧ W.cell? ⟨w.heap.size + 1, 0, none⟩ = some (.int .i64 s) ∧ W.cell? ⟨w.heap.size + 1, 1, none⟩ = some (.int .i64 q) ∧ W.cell? ⟨w.heap.size + 1, 2, none⟩ = some (.slice a n c) ∧ W.cell? ⟨w.heap.size + 1, 3, none⟩ = some (.slice b m d)) := fun W hW => ⟨(hW.get 1 _ _ _ rfl).four, (hW.get 0 _ _ _ rfl).four, HS2.out _ hW.tail⟩
  go_upto_region 5 with (fail)
  have X0 := Lib.hid B2.out.drew
  have s0 := HS3.out _ X0.out
  have cS := rSame_any 0 0 e1 L1.length r1 e2 L2.length r2 L1 L2 0 0 e3 L1.length r3 e4 L2.length r4 L1 L2 _ U1.out.drew U2.out.drew (by omega) (by omega)
  rw [sameM_self] at cS
  go_region_held3 (fun W => (W.cell? ⟨G1, 0, none⟩ = some (.int .i64 0) ∧ W.cell? ⟨G1, 1, none⟩ = some (.int .i64 0) ∧ W.cell? ⟨G1, 2, none⟩ = some (.slice e1 L1.length r1) ∧ W.cell? ⟨G1, 3, none⟩ = some (.slice e2 L2.length r2)) ∧ (W.cell? ⟨G2, 0, none⟩ = some (.int .i64 0) ∧ W.cell? ⟨G2, 1, none⟩ = some (.int .i64 0) ∧ W.cell? ⟨G2, 2, none⟩ = some (.slice e3 L1.length r3) ∧ W.cell? ⟨G2, 3, none⟩ = some (.slice e4 L2.length r4)) ∧ (W.cell? ⟨w.heap.size, 0, none⟩ = some (.slice ca cn cc) ∧ W.cell? ⟨w.heap.size, 1, none⟩ = some (.slice cb cm cd)) ∧ W.cell? ⟨w.heap.size + 1, 0, none⟩ = some (.int .i64 s) ∧ W.cell? ⟨w.heap.size + 1, 1, none⟩ = some (.int .i64 q) ∧ W.cell? ⟨w.heap.size + 1, 2, none⟩ = some (.slice a n c) ∧ W.cell? ⟨w.heap.size + 1, 3, none⟩ = some (.slice b m d)) (first | (with_reducible exact s0) | (with_reducible exact s1) | (with_reducible exact s2) | (with_reducible exact s3) | (with_reducible exact s4))
    (first | (go_at_call 17; ((with_reducible refine cS.mono ?_); rintro e v1 ⟨rfl, hb1⟩; have X1 := Lib.hid (X0.out.below hb1); have s1 := HS3.out _ X1.out)) | (go_at_call 24; ((with_reducible refine (cG _ X1.out.bel).mono ?_); rintro e v2 ⟨a5, p5, rfl, hN5, hb2⟩; have X2 := Lib.hid (X1.out.below hb2); have s2 := HS3.out _ X2.out; have N5 := Lib.hid hN5)) | (go_at_call 25; ((with_reducible refine (cG' _ X2.out.bel).mono ?_); rintro e v3 ⟨a6, p6, rfl, hN6, hb3⟩; have X3 := Lib.hid (X2.out.below hb3); have s3 := HS3.out _ X3.out; have N6 := Lib.hid hN6; have N7 := Lib.hid (N5.out.later hb3))) | (go_at_call 23; ((with_reducible refine (rInts_same a5 a6 p5 p6 l _ N7.out N6.out hl).mono ?_); rintro e v4 ⟨rfl, hb4⟩; have X4 := Lib.hid (X3.out.below hb4); have s4 := HS3.out _ X4.out)))
  go_wp2
  go_ret
  exact ⟨rfl, X4.out.bel⟩
end Go.Proofs.YtlkgpajpblhkeaaDoor
