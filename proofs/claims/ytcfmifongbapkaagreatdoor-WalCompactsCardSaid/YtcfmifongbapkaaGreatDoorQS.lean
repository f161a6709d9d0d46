/- Contract of txn.Take. Conditions: the reader lies in memory; the tables of utf8 lie there. A record whose lists and data lie in blocks that were made later than others stays whatever is done to these. No condition. Words for lists of records in memory. No condition. Contracts of ballot.Formed, Less and Next, of the document's own, and of the statements' awake. No condition. Words for a reader that is taken from while the call makes boxes of its own: the program's reader, and the document's. No condition. -/
import Derived.Test.YtcfmifongbapkaaGreatDoorQQ
import Derived.Test.YtcfmifongbapkaaGreatDoorQR
import Derived.Test.YtcfmifongbapkaaGreatDoorQO
import Derived.Test.YtcfmifongbapkaaGreatDoorQM
import Derived.Test.YtcfmifongbapkaaGreatDoorQF
/- TxnTakeT -/
namespace Go.Proofs.YtcfmifongbapkaaGreatDoor

open Go.RowKit

set_option linter.unusedVariables false

/-- Nothing, or in a block that came later. -/
def NewP (B : Nat) (a : Option Addr) : Prop := ∀ p, a = some p → B ≤ p.block
theorem NewP.none (B : Nat) : NewP B Option.none := fun p h => by cases h
theorem NewP.mono {B C : Nat} {a : Option Addr} (h : NewP B a) (hB : C ≤ B) : NewP C a := fun p e => Nat.le_trans hB (h p e)
theorem NewP.of_own {W : World} {B e k n m c : Nat} {a : Option Addr} {xs : List Value} (h : W.ownsRow B e k (.slice a m c) n xs) : NewP B a := by
  rintro p rfl
  rcases h.2 with ⟨h0, _⟩ | ⟨b, cap, cur, h1, h2, _⟩
  · cases h0
  · injection h1 with h1 _ _; injection h1 with h1; subst h1; exact h2
/-- A transaction is taken; a zero one where it fails; its lists lie in blocks made by the call. -/
def GotT (rd : St → World → Prop) (g : Nat) (st : St) (w : World) (e : Ending) (w' : World) : Prop :=
  ∃ (s q : Int) (a : Option Addr) (n c : Nat) (b : Option Addr) (m d : Nat) (rs : List RdM) (ws : List WrM) (st' : St), e = .returned (.agg (txV s q a n c b m d)) ∧ rd st' w' ∧ Only g w w' ∧ TxAt w' a n b m rs ws ∧ ((n ≤ 255 ∧ m ≤ 255) ∧ NewP w.heap.size a ∧ NewP w.heap.size b) ∧ Res txnF st (txT (s, q) rs ws) st' ∧ (st' = none → (s = 0 ∧ q = 0) ∧ rs = [] ∧ ws = [])

set_option maxRecDepth 100000 in
set_option maxHeartbeats 4000000 in
theorem tTake_any (g : Nat) (st : St) (w : World) (h : RS g st w) (hU : Tabs w) :
    Calls Tryz.prog 131 #[.pointer (some ⟨g, 0, none⟩)] w (GotT (RS g) g st w) := by
  have hlt := h.lt
  have H0 := Lib.hid ((RdO.start h hlt).more (txV 0 0 none 0 0 none 0 0) 30)
  obtain ⟨l0, ok0, hrd0⟩ := h.rd
  have HT : Hid (∀ W, Only g w W → Tabs W) := fun W ho => hU.only hrd0 ho
  clear h hrd0 hU
  go_enter Tryz.func131, Tryz.ntmps131
  go_upto_region 2 with (go_at_call 141; ((with_reducible refine (tTakeId_any g _ _ H0.out.rdr).mono ?_); rintro e w1 ⟨⟨s, q⟩, st1, rfl, hr1, ho1, hR1, hz1⟩; have H1 := Lib.hid (H0.out.only hr1 ho1); have R1 := Lib.hid hR1; clear hr1 ho1 hR1 hz1))
  have H2 := Lib.hid (H1.out.more (txV s q none 0 0 none 0 0) 30)
  have hG : w.heap.size < w1.heap.size := (H1.out.get 0 _ _ _ rfl).lt
  clear H0 H1
  generalize w1.alloc (.cells (txV s q none 0 0 none 0 0) 30) = W2 at *
  generalize w1.heap.size = G at *
  have hl1 : ∀ x ∈ ([(w.heap.size, txV 0 0 none 0 0 none 0 0, 30)] : List (Nat × Array Value × TypeId)), x.1 ≠ G := by simp; omega
  go_upto_region 3 with (go_at_call 142; ((with_reducible refine (takeReads_any g _ _ H2.out.rdr).mono ?_); rintro e w3 ⟨rs, v3, st2, rfl, hr3, ho3, hrow3, hk3, hR3⟩; have H3 := Lib.hid (H2.out.add hr3 ho3 hrow3); obtain ⟨a3, c3, rfl, _, _⟩ := ownk_form hrow3; obtain ⟨x0, x1, x2, x3⟩ := (H3.out.get 0 _ _ _ rfl).four; have f2 := (H3.out.get 0 _ _ _ rfl).frozen 2; have R3 := Lib.hid hR3; have K3 := Lib.hid hk3; clear hr3 ho3 hrow3 hR3 hk3))
  have H4 : Hid (RdO (RS g st2) g w (w3.setCell ⟨G, 2, none⟩ (.slice a3 rs.length c3)) [(G, txV s q a3 rs.length c3 none 0 0, 30), (w.heap.size, txV 0 0 none 0 0 none 0 0, 30)] [⟨153, 2, .slice a3 rs.length c3, rs.length, rs.flatMap readC⟩]) := H3.out.set hl1 2 (.slice a3 rs.length c3)
  clear H2 H3 x0 x1 x2 x3 f2
  generalize w3.setCell ⟨G, 2, none⟩ (.slice a3 rs.length c3) = W4 at *
  go_upto_region 4 with (go_at_call 143; ((with_reducible refine (takeWrites_any g _ _ H4.out.rdr (HT.out _ H4.out.onl)).mono ?_); rintro e w5 ⟨ws, v5, st3, rfl, hr5, ho5, hrow5, hk5, hR5⟩; have H5 := Lib.hid (H4.out.add hr5 ho5 hrow5); obtain ⟨a5, c5, rfl, _, _⟩ := ownk_form hrow5; obtain ⟨x0, x1, x2, x3⟩ := (H5.out.get 0 _ _ _ rfl).four; have f3 := (H5.out.get 0 _ _ _ rfl).frozen 3; have R5 := Lib.hid hR5; have K5 := Lib.hid hk5; clear hr5 ho5 hrow5 hR5 hk5))
  have H6 : Hid (RdO (RS g st3) g w (w5.setCell ⟨G, 3, none⟩ (.slice a5 ws.length c5)) [(G, txV s q a3 rs.length c3 a5 ws.length c5, 30), (w.heap.size, txV 0 0 none 0 0 none 0 0, 30)] [⟨157, 4, .slice a5 ws.length c5, ws.length, ws.flatMap writeC⟩, ⟨153, 2, .slice a3 rs.length c3, rs.length, rs.flatMap readC⟩]) := H5.out.set hl1 3 (.slice a5 ws.length c5)
  have RR := Lib.hid (res_txn R1.out R3.out R5.out)
  clear H4 H5 x0 x1 x2 x3 f3 R1 R3 R5
  generalize w5.setCell ⟨G, 3, none⟩ (.slice a5 ws.length c5) = W6 at *
  have cF := tFormed_any s q a3 rs.length c3 a5 ws.length c5 rs ws W6 (TxAt.rows (RowAt.of_own (H6.out.own 1 _ rfl)) (RowAt.of_own (H6.out.own 0 _ rfl)) K3.out.2 K5.out.2) (HT.out _ H6.out.onl)
  obtain ⟨x0, x1, x2, x3⟩ := (H6.out.get 0 _ _ _ rfl).four
  cases hf : formT formedB (txT (s, q) rs ws)
  · rw [hf] at cF
    have Q := Lib.hid (RR.out.guard_bad (c := formT formedB) hf (txT (0, 0) [] []))
    clear hf RR
    go_wp2_with (first | (go_at_call 90; ((with_reducible refine cF.mono ?_); rintro e w7 ⟨rfl, hb7⟩; have H7 := Lib.hid (H6.out.below hb7))) | (go_at_call 144; ((with_reducible refine (tfail_any g _ _ H7.out.rdr).mono ?_); rintro e w8 ⟨rfl, hr8, ho8⟩; have H8 := Lib.hid (H7.out.only hr8 ho8); (clear x0 x1 x2 x3); obtain ⟨x0, x1, x2, x3⟩ := (H8.out.get 0 _ _ _ rfl).four; obtain ⟨z0, z1, z2, z3⟩ := (H8.out.get 1 _ _ _ rfl).four; have f0 := (H8.out.get 1 _ _ _ rfl).frozen 0; have f1 := (H8.out.get 1 _ _ _ rfl).frozen 1; have f2 := (H8.out.get 1 _ _ _ rfl).frozen 2; have f3 := (H8.out.get 1 _ _ _ rfl).frozen 3)) | (go_at_call 85; ((with_reducible refine (okS_any g none _ H8.out.rdr).mono ?_); rintro e w' ⟨rfl, rfl⟩)))
    have H9 := (((H8.out.tail.set (fun _ h => by cases h) 0 (.int .i64 0)).set (fun _ h => by cases h) 1 (.int .i64 0)).set (fun _ h => by cases h) 2 (.slice none 0 0)).set (fun _ h => by cases h) 3 (.slice none 0 0)
    exact bodyPost_ret (v := .agg (txV 0 0 none 0 0 none 0 0)) (by simp [results, Tryz.results131, go_sem, z0, z1, z2, z3]) rfl ⟨0, 0, none, 0, 0, none, 0, 0, [], [], none, rfl, H9.rdr, H9.onl, TxAt.nil, ⟨⟨by omega, by omega⟩, NewP.none _, NewP.none _⟩, Q.out, fun _ => ⟨⟨rfl, rfl⟩, rfl, rfl⟩⟩
  · rw [hf] at cF
    cases st3 with
    | none =>
      have Q := Lib.hid (RR.out.guard_no (c := formT formedB) (txT (0, 0) [] []))
      clear hf RR
      go_wp2_with (first | (go_at_call 90; ((with_reducible refine cF.mono ?_); rintro e w7 ⟨rfl, hb7⟩; have H8 := Lib.hid (H6.out.below hb7); (clear x0 x1 x2 x3); obtain ⟨x0, x1, x2, x3⟩ := (H8.out.get 0 _ _ _ rfl).four; obtain ⟨z0, z1, z2, z3⟩ := (H8.out.get 1 _ _ _ rfl).four; have f0 := (H8.out.get 1 _ _ _ rfl).frozen 0; have f1 := (H8.out.get 1 _ _ _ rfl).frozen 1; have f2 := (H8.out.get 1 _ _ _ rfl).frozen 2; have f3 := (H8.out.get 1 _ _ _ rfl).frozen 3)) | (go_at_call 85; ((with_reducible refine (okS_any g none _ H8.out.rdr).mono ?_); rintro e w' ⟨rfl, rfl⟩)))
      have H9 := (((H8.out.tail.set (fun _ h => by cases h) 0 (.int .i64 0)).set (fun _ h => by cases h) 1 (.int .i64 0)).set (fun _ h => by cases h) 2 (.slice none 0 0)).set (fun _ h => by cases h) 3 (.slice none 0 0)
      exact bodyPost_ret (v := .agg (txV 0 0 none 0 0 none 0 0)) (by simp [results, Tryz.results131, go_sem, z0, z1, z2, z3]) rfl ⟨0, 0, none, 0, 0, none, 0, 0, [], [], none, rfl, H9.rdr, H9.onl, TxAt.nil, ⟨⟨by omega, by omega⟩, NewP.none _, NewP.none _⟩, Q.out, fun _ => ⟨⟨rfl, rfl⟩, rfl, rfl⟩⟩
    | some r =>
      have Q := Lib.hid (RR.out.guard_yes (c := formT formedB) hf)
      clear hf RR
      have hl2 : ∀ x ∈ ([(G, txV s q a3 rs.length c3 a5 ws.length c5, 30)] : List (Nat × Array Value × TypeId)), x.1 ≠ w.heap.size := by simp; omega
      go_wp2_with (first | (go_at_call 90; ((with_reducible refine cF.mono ?_); rintro e w7 ⟨rfl, hb7⟩; have H8 := Lib.hid (H6.out.below hb7); (clear x0 x1 x2 x3); obtain ⟨x0, x1, x2, x3⟩ := (H8.out.get 0 _ _ _ rfl).four; obtain ⟨z0, z1, z2, z3⟩ := (H8.out.get 1 _ _ _ rfl).four; have f0 := (H8.out.get 1 _ _ _ rfl).frozen 0; have f1 := (H8.out.get 1 _ _ _ rfl).frozen 1; have f2 := (H8.out.get 1 _ _ _ rfl).frozen 2; have f3 := (H8.out.get 1 _ _ _ rfl).frozen 3)) | (go_at_call 85; ((with_reducible refine (okS_any g (some r) _ H8.out.rdr).mono ?_); rintro e w' ⟨rfl, rfl⟩)))
      have H9 := (((H8.out.swap.set hl2 0 (.int .i64 s)).set hl2 1 (.int .i64 q)).set hl2 2 (.slice a3 rs.length c3)).set hl2 3 (.slice a5 ws.length c5)
      exact bodyPost_ret (v := .agg (txV s q a3 rs.length c3 a5 ws.length c5)) (by simp [results, Tryz.results131, go_sem, z0, z1, z2, z3]) rfl ⟨s, q, a3, rs.length, c3, a5, ws.length, c5, rs, ws, some r, rfl, H9.rdr, H9.onl, TxAt.rows (RowAt.of_own (H9.own 1 _ rfl)) (RowAt.of_own (H9.own 0 _ rfl)) K3.out.2 K5.out.2, ⟨⟨K3.out.1, K5.out.1⟩, NewP.of_own (H9.own 1 _ rfl), NewP.of_own (H9.own 0 _ rfl)⟩, Q.out, fun e => by cases e⟩
end Go.Proofs.YtcfmifongbapkaaGreatDoor

/- WalStay -/
namespace Go.Proofs.YtcfmifongbapkaaGreatDoor

open Go.RowKit

set_option linter.unusedVariables false
set_option linter.unusedSimpArgs false

/-- Its lists and its data lie in blocks from B on. -/
structure NewRc (B : Nat) (x : RcM) : Prop where
  a : NewP B x.cm.a
  b : NewP B x.cm.b
  d : NewP B x.da
theorem NewRc.mono {B C : Nat} {x : RcM} (h : NewRc B x) (hB : C ≤ B) : NewRc C x := ⟨h.a.mono hB, h.b.mono hB, h.d.mono hB⟩
theorem NewRc.zero (B : Nat) : NewRc B zeroR := ⟨NewP.none B, NewP.none B, NewP.none B⟩
section

variable {W W' : World} {B n k C : Nat} {a : Option Addr}

theorem RowAt.far {xs : List Value} (h : RowAt W W.heap.size a n k xs) (hn : NewP B a) (hs : W.heap.size ≤ W'.heap.size) (hk : ∀ b, B ≤ b → b < W.heap.size → W'.heap[b]? = W.heap[b]?) : RowAt W' W'.heap.size a n k xs := by
  refine RowAt.more ?_ hs
  rcases h with ⟨hl, h | ⟨b, off, rfl, hb, hc⟩⟩
  · exact ⟨hl, .inl h⟩
  · exact ⟨hl, .inr ⟨b, off, rfl, hb, fun j u hu => (World.cell?_of_block (hk b (hn _ rfl) hb)).trans (hc j u hu)⟩⟩
theorem BAt.far {l : List UInt8} (h : BAt W W.heap.size a n l) (hn : NewP B a) (hs : W.heap.size ≤ W'.heap.size) (hk : ∀ b, B ≤ b → b < W.heap.size → W'.heap[b]? = W.heap[b]?) : BAt W' W'.heap.size a n l := by
  refine BAt.more ?_ hs
  rcases h with ⟨hl, h | ⟨b, off, rfl, hb, hc⟩⟩
  · exact ⟨hl, .inl h⟩
  · exact ⟨hl, .inr ⟨b, off, rfl, hb, fun j hj => (World.cell?_of_block (hk b (hn _ rfl) hb)).trans (hc j hj)⟩⟩
theorem CmAt.far {x : CmM} {rs : List RdM} {ws : List WrM} (h : CmAt W x rs ws) (ha : NewP B x.a) (hb : NewP B x.b) (hs : W.heap.size ≤ W'.heap.size) (hk : ∀ b, B ≤ b → b < W.heap.size → W'.heap[b]? = W.heap[b]?) : CmAt W' x rs ws :=
  ⟨⟨⟨⟨h.tx.lenR, h.tx.rds.2.far ha hs hk⟩, ⟨h.tx.lenW, h.tx.wrs.2.far hb hs hk⟩⟩, h.tx.okR, h.tx.okW⟩, h.st⟩
theorem RcAt.far {x : RcM} {L : RcL} (h : RcAt W x L) (hn : NewRc B x) (hs : W.heap.size ≤ W'.heap.size) (hk : ∀ b, B ≤ b → b < W.heap.size → W'.heap[b]? = W.heap[b]?) : RcAt W' x L :=
  ⟨h.cm.far hn.a hn.b hs hk, h.da.far hn.d hs hk, h.br⟩
end

end Go.Proofs.YtcfmifongbapkaaGreatDoor

/- WalRows -/
namespace Go.Proofs.YtcfmifongbapkaaGreatDoor

open Go.RowKit

set_option linter.unusedVariables false
set_option linter.unusedSimpArgs false

theorem Tryz.kInfo36 : (Tryz.prog.info? 36).map (fun i => (i.zero, i.size, i.bytes)) = some (some (.agg zeroRV), 15, 168) := by kernel_rfl
/-- An address in a block of S, if there is anything there. -/
def InP (S : Nat → Prop) (n : Nat) (a : Option Addr) : Prop := n = 0 ∨ ∀ p, a = some p → S p.block
/-- A record's lists and data lie in blocks of S. -/
structure InR (S : Nat → Prop) (x : RcM) : Prop where
  a : InP S x.cm.n x.cm.a
  b : InP S x.cm.m x.cm.b
  d : InP S x.dn x.da
theorem InP.mono {S T : Nat → Prop} {n : Nat} {a : Option Addr} (h : InP S n a) (hs : ∀ b, S b → T b) : InP T n a := h.elim .inl fun h => .inr fun p e => hs _ (h p e)
theorem InR.mono {S T : Nat → Prop} {x : RcM} (h : InR S x) (hs : ∀ b, S b → T b) : InR T x := ⟨h.a.mono hs, h.b.mono hs, h.d.mono hs⟩
section

variable {W W' : World} {B n k : Nat} {a : Option Addr} {S : Nat → Prop}

theorem RowAt.inP {xs : List Value} (h : RowAt W W.heap.size a n k xs) (hn : NewP B a) : InP (fun b => B ≤ b ∧ b < W.heap.size) n a := by
  rcases h with ⟨_, h | ⟨b, off, rfl, hb, _⟩⟩
  · exact .inl h
  · exact .inr fun p e => by injection e with e; subst e; exact ⟨hn _ rfl, hb⟩
theorem BAt.inP {l : List UInt8} (h : BAt W W.heap.size a n l) (hn : NewP B a) : InP (fun b => B ≤ b ∧ b < W.heap.size) n a := by
  rcases h with ⟨_, h | ⟨b, off, rfl, hb, _⟩⟩
  · exact .inl h
  · exact .inr fun p e => by injection e with e; subst e; exact ⟨hn _ rfl, hb⟩
theorem RcAt.inR {x : RcM} {L : RcL} (h : RcAt W x L) (hn : NewRc B x) : InR (fun b => B ≤ b ∧ b < W.heap.size) x := ⟨h.cm.tx.rds.2.inP hn.a, h.cm.tx.wrs.2.inP hn.b, h.da.inP hn.d⟩
theorem RowAt.keepS {xs : List Value} (h : RowAt W W.heap.size a n k xs) (hn : InP S n a) (hs : W.heap.size ≤ W'.heap.size) (hk : ∀ b, S b → b < W.heap.size → W'.heap[b]? = W.heap[b]?) : RowAt W' W'.heap.size a n k xs := by
  refine RowAt.more ?_ hs
  rcases h with ⟨hl, h | ⟨b, off, rfl, hb, hc⟩⟩
  · exact ⟨hl, .inl h⟩
  · rcases hn with hn | hn
    · exact ⟨hl, .inl hn⟩
    · exact ⟨hl, .inr ⟨b, off, rfl, hb, fun j u hu => (World.cell?_of_block (hk b (hn _ rfl) hb)).trans (hc j u hu)⟩⟩
theorem BAt.keepS {l : List UInt8} (h : BAt W W.heap.size a n l) (hn : InP S n a) (hs : W.heap.size ≤ W'.heap.size) (hk : ∀ b, S b → b < W.heap.size → W'.heap[b]? = W.heap[b]?) : BAt W' W'.heap.size a n l := by
  refine BAt.more ?_ hs
  rcases h with ⟨hl, h | ⟨b, off, rfl, hb, hc⟩⟩
  · exact ⟨hl, .inl h⟩
  · rcases hn with hn | hn
    · exact ⟨hl, .inl hn⟩
    · exact ⟨hl, .inr ⟨b, off, rfl, hb, fun j hj => (World.cell?_of_block (hk b (hn _ rfl) hb)).trans (hc j hj)⟩⟩
theorem RcAt.keepS {x : RcM} {L : RcL} (h : RcAt W x L) (hn : InR S x) (hs : W.heap.size ≤ W'.heap.size) (hk : ∀ b, S b → b < W.heap.size → W'.heap[b]? = W.heap[b]?) : RcAt W' x L :=
  ⟨⟨⟨⟨⟨h.cm.tx.lenR, h.cm.tx.rds.2.keepS hn.a hs hk⟩, ⟨h.cm.tx.lenW, h.cm.tx.wrs.2.keepS hn.b hs hk⟩⟩, h.cm.tx.okR, h.cm.tx.okW⟩, h.cm.st⟩, h.da.keepS hn.d hs hk, h.br⟩
end

abbrev RE := RcM × RcL
def rcC (z : RE) : List Value := (rcV z.1).toList
theorem rcC_len (z : RE) : (rcC z).length = 15 := rfl
def rcS (L : List RE) : List Rc := L.map fun z => rcT z.1 z.2
theorem rcS_len (L : List RE) : (rcS L).length = L.length := by simp [rcS]
theorem rcS_app (L M : List RE) : rcS (L ++ M) = rcS L ++ rcS M := by simp [rcS]
/-- A list of records that lies in memory. -/
structure RcsAt (W : World) (a : Option Addr) (n : Nat) (L : List RE) : Prop where
  len : L.length = n
  row : RowAt W W.heap.size a n 15 (L.flatMap rcC)
  all : ∀ z ∈ L, RcAt W z.1 z.2 ∧ RcF z.1
/-- .. in blocks of S. -/
structure RcsIn (S : Nat → Prop) (a : Option Addr) (n : Nat) (L : List RE) : Prop where
  row : InP S n a
  all : ∀ z ∈ L, InR S z.1
section

variable {W W' : World} {n : Nat} {a : Option Addr} {S T : Nat → Prop} {L : List RE}

theorem RcsAt.later (h : RcsAt W a n L) (hb : Below W.heap.size W W') : RcsAt W' a n L := ⟨h.len, (h.row.below hb (Nat.le_refl _)).more hb.size, fun z hz => ⟨(h.all z hz).1.later hb, (h.all z hz).2⟩⟩
theorem RcsAt.keepS (h : RcsAt W a n L) (hn : RcsIn S a n L) (hs : W.heap.size ≤ W'.heap.size) (hk : ∀ b, S b → b < W.heap.size → W'.heap[b]? = W.heap[b]?) : RcsAt W' a n L :=
  ⟨h.len, h.row.keepS hn.row hs hk, fun z hz => ⟨(h.all z hz).1.keepS (hn.all z hz) hs hk, (h.all z hz).2⟩⟩
theorem RcsIn.mono (h : RcsIn S a n L) (hs : ∀ b, S b → T b) : RcsIn T a n L := ⟨h.row.mono hs, fun z hz => (h.all z hz).mono hs⟩
theorem RcsAt.nil (W : World) : RcsAt W none 0 [] := ⟨rfl, RowAt.nil, fun z hz => by cases hz⟩
theorem RcsIn.nil : RcsIn S none 0 [] := ⟨.inl rfl, fun z hz => by cases hz⟩
/-- Element i: its cells. -/
theorem RcsAt.at_ (h : RcsAt W a n L) {i : Nat} (hi : i < L.length) : ∃ b0 off, a = some ⟨b0, off, none⟩ ∧ b0 < W.heap.size ∧ ∀ j u, (rcC L[i])[j]? = some u → W.cell? ⟨b0, off + i * 15 + j, none⟩ = some u := by
  obtain ⟨b0, off, ha, hb, hc⟩ := h.row.addr (by have := h.len; omega)
  refine ⟨b0, off, ha, hb, fun j u hu => ?_⟩
  have hj : j < 15 := by
    have := (List.getElem?_eq_some_iff.1 hu).1
    rw [rcC_len] at this; exact this
  have := hc (i * 15 + j) u (by rw [flat_get rcC 15 rcC_len L i j hi hj]; exact hu)
  rw [Nat.add_assoc]; exact this
end

end Go.Proofs.YtcfmifongbapkaaGreatDoor

/- BallotProg -/
namespace Go.Proofs.YtcfmifongbapkaaGreatDoor

open Go.RowKit

set_option linter.unusedVariables false

theorem bFormed_any (r n : Int) (w : World) : Calls Tryz.prog 49 #[.agg #[.int .u32 r, .int .i64 n]] w (Says w (formB n)) := by
  have hB := one_box w #[.int .u32 r, .int .i64 n] 24
  unfold formB
  by_cases h : 0 ≤ n
  · have q : decide (n < 0) = false := by simp; omega
    rw [decide_eq_true h, Bool.true_and]
    go_enter Tryz.func49, Tryz.ntmps49
    go_wp2
    go_ret
    exact ⟨rfl, hB⟩
  · have q : decide (n < 0) = true := by simp; omega
    rw [decide_eq_false h, Bool.false_and]
    go_enter Tryz.func49, Tryz.ntmps49
    go_wp2
    go_ret
    exact ⟨rfl, hB⟩
theorem rFormed_any (r n : Int) (w : World) : Calls Tryz.prog 52 #[.agg #[.int .u32 r, .int .i64 n]] w (Says w (formB n)) := by
  have hB := one_box w #[.int .u32 r, .int .i64 n] 44
  unfold formB
  by_cases h : 0 ≤ n
  · have e : decide (n < 5) = decide (n ≤ 4) := by simp; omega
    rw [e, decide_eq_true h, Bool.true_and]
    go_enter Tryz.func52, Tryz.ntmps52
    go_wp2
    go_ret
    exact ⟨rfl, hB⟩
  · rw [decide_eq_false h, Bool.false_and]
    go_enter Tryz.func52, Tryz.ntmps52
    go_wp2
    go_ret
    exact ⟨rfl, hB⟩
end Go.Proofs.YtcfmifongbapkaaGreatDoor

/- ReaderBox -/
namespace Go.Proofs.YtcfmifongbapkaaGreatDoor

open Go.RowKit

/-- What holds while something is taken: the reader, and boxes of the call's own. -/
def RdW (w W : World) (g : Nat) (l : List UInt8) (ok : Bool) (bs : List (Nat × Array Value × TypeId)) : Prop :=
  RdAt W g l ok ∧ Only g w W ∧ g < w.heap.size ∧ ∀ b ∈ bs, w.heap.size ≤ b.1 ∧ BoxC W b.1 b.2.1 b.2.2
section

variable {w W W' : World} {G i : Nat} {bs : List (Nat × Array Value × TypeId)} {cs : Array Value} {t : TypeId} {g : Nat} {l l' : List UInt8} {ok ok' : Bool}

theorem RdW.start (h : RdAt w g l ok) : RdW w w g l ok [] := ⟨h, Only.refl _ _, h.lt, fun b hb => by cases hb⟩
theorem RdW.rd (h : RdW w W g l ok bs) : RdAt W g l ok := h.1
theorem RdW.size (h : RdW w W g l ok bs) : w.heap.size ≤ W.heap.size := h.2.1.size
theorem RdW.get (h : RdW w W g l ok bs) (i : Nat) (G : Nat) (cs : Array Value) (t : TypeId) (hi : bs[i]? = some (G, cs, t)) : BoxC W G cs t := (h.2.2.2 _ (List.mem_of_getElem? hi)).2
theorem RdW.only (h : RdW w W g l ok bs) (hr : RdAt W' g l' ok') (ho : Only g W W') : RdW w W' g l' ok' bs :=
  ⟨hr, h.2.1.trans ho, h.2.2.1, fun b hb => ⟨(h.2.2.2 b hb).1, (h.2.2.2 b hb).2.only ho (by have := (h.2.2.2 b hb).1; have := h.2.2.1; omega)⟩⟩
theorem RdW.below (h : RdW w W g l ok bs) (hb : Below W.heap.size W W') : RdW w W' g l ok bs :=
  h.only (h.1.below hb) ⟨hb.os, hb.tape, hb.output, hb.size, fun _ hb' _ => hb.block _ hb'⟩
theorem RdW.more (h : RdW w W g l ok bs) (cs : Array Value) (t : TypeId) : RdW w (W.alloc (.cells cs t)) g l ok ((W.heap.size, cs, t) :: bs) := by
  have h' := h.below ((Below.refl W.heap.size W).alloc (Nat.le_refl _) (.cells cs t))
  refine ⟨h'.1, h'.2.1, h'.2.2.1, fun b hb => ?_⟩
  rcases List.mem_cons.1 hb with rfl | hb
  · exact ⟨h.2.1.size, BoxC.new W cs t⟩
  · exact h'.2.2.2 b hb
theorem RdW.out (h : RdW w W g l ok bs) (hG : w.heap.size ≤ G) (u : Value) : RdW w (W.setCell ⟨G, i, none⟩ u) g l ok [] := by
  have hg := h.2.2.1
  have hb : ∀ b, b < w.heap.size → (W.setCell ⟨G, i, none⟩ u).heap[b]? = W.heap[b]? := fun b hb => Below.heap_setCell _ _ _ _ (by show b ≠ G; omega)
  exact ⟨h.1.keep fun b hb' => hb b (by omega), ⟨h.2.1.os, h.2.1.tape, h.2.1.output, by have := h.2.1.size; simpa [World.setCell] using this, fun b hb' hne => (hb b hb').trans (h.2.1.block b hb' hne)⟩, hg, fun b hb => by cases hb⟩
theorem RdW.set (h : RdW w W g l ok ((G, cs, t) :: bs)) (hl : ∀ b ∈ bs, b.1 ≠ G) (i : Nat) (u : Value) : RdW w (W.setCell ⟨G, i, none⟩ u) g l ok ((G, cs.setIfInBounds i u, t) :: bs) := by
  have hG := (h.2.2.2 (G, cs, t) (List.mem_cons_self ..))
  have h' := RdW.out (i := i) h hG.1 u
  refine ⟨h'.1, h'.2.1, h'.2.2.1, fun b hb => ?_⟩
  rcases List.mem_cons.1 hb with rfl | hb
  · exact ⟨hG.1, hG.2.set i u⟩
  · exact ⟨(h.2.2.2 b (List.mem_cons_of_mem _ hb)).1, ((h.2.2.2 b (List.mem_cons_of_mem _ hb)).2).far i u (hl b hb)⟩
end

/-- What holds while something is taken: the reader, and boxes of the call's own. -/
def RfW (w W : World) (B g : Nat) (L : List UInt8) (k : Nat) (ok : Bool) (bs : List (Nat × Array Value × TypeId)) : Prop :=
  RefAt W B g L k ok ∧ Only g w W ∧ g < w.heap.size ∧ ∀ b ∈ bs, w.heap.size ≤ b.1 ∧ BoxC W b.1 b.2.1 b.2.2
section

variable {w W W' : World} {G i : Nat} {bs : List (Nat × Array Value × TypeId)} {cs : Array Value} {t : TypeId} {B g : Nat} {L : List UInt8} {k k' : Nat} {ok ok' : Bool}

theorem RfW.start (h : RefAt w B g L k ok) : RfW w w B g L k ok [] := ⟨h, Only.refl _ _, h.lt, fun b hb => by cases hb⟩
theorem RfW.rd (h : RfW w W B g L k ok bs) : RefAt W B g L k ok := h.1
theorem RfW.size (h : RfW w W B g L k ok bs) : w.heap.size ≤ W.heap.size := h.2.1.size
theorem RfW.get (h : RfW w W B g L k ok bs) (i : Nat) (G : Nat) (cs : Array Value) (t : TypeId) (hi : bs[i]? = some (G, cs, t)) : BoxC W G cs t := (h.2.2.2 _ (List.mem_of_getElem? hi)).2
theorem RfW.only (h : RfW w W B g L k ok bs) (hr : RefAt W' B g L k' ok') (ho : Only g W W') : RfW w W' B g L k' ok' bs :=
  ⟨hr, h.2.1.trans ho, h.2.2.1, fun b hb => ⟨(h.2.2.2 b hb).1, (h.2.2.2 b hb).2.only ho (by have := (h.2.2.2 b hb).1; have := h.2.2.1; omega)⟩⟩
theorem RfW.below (h : RfW w W B g L k ok bs) (hb : Below W.heap.size W W') : RfW w W' B g L k ok bs :=
  h.only (h.1.below hb) ⟨hb.os, hb.tape, hb.output, hb.size, fun _ hb' _ => hb.block _ hb'⟩
theorem RfW.more (h : RfW w W B g L k ok bs) (cs : Array Value) (t : TypeId) : RfW w (W.alloc (.cells cs t)) B g L k ok ((W.heap.size, cs, t) :: bs) := by
  have h' := h.below ((Below.refl W.heap.size W).alloc (Nat.le_refl _) (.cells cs t))
  refine ⟨h'.1, h'.2.1, h'.2.2.1, fun b hb => ?_⟩
  rcases List.mem_cons.1 hb with rfl | hb
  · exact ⟨h.2.1.size, BoxC.new W cs t⟩
  · exact h'.2.2.2 b hb
theorem RfW.out (h : RfW w W B g L k ok bs) (hG : w.heap.size ≤ G) (u : Value) : RfW w (W.setCell ⟨G, i, none⟩ u) B g L k ok [] := by
  have hg := h.2.2.1
  have hb : ∀ b, b < w.heap.size → (W.setCell ⟨G, i, none⟩ u).heap[b]? = W.heap[b]? := fun b hb => Below.heap_setCell _ _ _ _ (by show b ≠ G; omega)
  exact ⟨h.1.keep fun b hb' => hb b (by omega), ⟨h.2.1.os, h.2.1.tape, h.2.1.output, by have := h.2.1.size; simpa [World.setCell] using this, fun b hb' hne => (hb b hb').trans (h.2.1.block b hb' hne)⟩, hg, fun b hb => by cases hb⟩
theorem RfW.set (h : RfW w W B g L k ok ((G, cs, t) :: bs)) (hl : ∀ b ∈ bs, b.1 ≠ G) (i : Nat) (u : Value) : RfW w (W.setCell ⟨G, i, none⟩ u) B g L k ok ((G, cs.setIfInBounds i u, t) :: bs) := by
  have hG := (h.2.2.2 (G, cs, t) (List.mem_cons_self ..))
  have h' := RfW.out (i := i) h hG.1 u
  refine ⟨h'.1, h'.2.1, h'.2.2.1, fun b hb => ?_⟩
  rcases List.mem_cons.1 hb with rfl | hb
  · exact ⟨hG.1, hG.2.set i u⟩
  · exact ⟨(h.2.2.2 b (List.mem_cons_of_mem _ hb)).1, ((h.2.2.2 b (List.mem_cons_of_mem _ hb)).2).far i u (hl b hb)⟩
end

theorem RfW.fails {w W : World} {B g : Nat} {L : List UInt8} {k : Nat} {ok : Bool} {bs : List (Nat × Array Value × TypeId)} (h : RfW w W B g L k ok bs) : RfW w (W.setCell ⟨g, 2, none⟩ (.bool true)) B g L k false bs := h.only h.1.fails (only_set W g 2 _)
end Go.Proofs.YtcfmifongbapkaaGreatDoor
