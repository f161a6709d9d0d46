
/- Contract of wal.Read. Conditions: the bytes lie in memory, a million at most; the tables of utf8 lie there. Words for lists of records in memory. No condition. Contracts of the document's TakeId and Take of transactions. Conditions: the reader lies in memory. -/
import Derived.Test.YtcfmifongbapkaaGreatDoorQZL
import Derived.Test.YtcfmifongbapkaaGreatDoorQY
import Derived.Test.YtcfmifongbapkaaGreatDoorQZH
import Derived.Test.YtcfmifongbapkaaGreatDoorQZC
import Derived.Test.YtcfmifongbapkaaGreatDoorQS
import Derived.Deep.DeepCutAuto
import Derived.Deep.AppendLies
/- WalRead -/
namespace Go.Proofs.YtcfmifongbapkaaGreatDoor

open Go.RowKit

set_option linter.unusedVariables false
set_option linter.unusedSimpArgs false

/-- What bytes are read as: the record, whose lists and data lie in blocks made by the call; or none. -/
def ReadK (w : World) (l : List UInt8) (e : Ending) (w' : World) : Prop :=
  (∃ x L, e = .returned (.tuple #[.agg (rcV x), .int .i64 0]) ∧ Below w.heap.size w w' ∧ RcAt w' x L ∧ RcF x ∧ NewRc w.heap.size x ∧ readR l = some (rcT x L)) ∨ (e = .returned (.tuple #[.agg (rcV zeroR), .int .i64 2]) ∧ Below w.heap.size w w' ∧ readR l = none)
theorem res_read {l : List UInt8} {x : Rc} (h : Res rcP (some l) x (some [])) : rcP l = some (x, []) := by
  rcases h with ⟨l', r, e, hp, e2⟩ | ⟨_, e⟩
  · injection e with e; subst e; injection e2 with e2; subst e2; exact hp
  · cases e
theorem res_left {l : List UInt8} {x : Rc} {st : St} (h : Res rcP (some l) x st) (hs : ¬ st = some []) : readR l = none := by
  rcases h with ⟨l', r, e, hp, e2⟩ | ⟨hn, e⟩
  · injection e with e; subst e
    exact readR_more hp (fun e => hs (by rw [e2, e]))
  · exact readR_none (hn l rfl)
set_option maxRecDepth 100000 in
set_option maxHeartbeats 4000000 in
theorem wRead_any (a : Option Addr) (m c : Nat) (l : List UInt8) (w : World) (hl : BAt w w.heap.size a m l) (hm : m ≤ 1000000) (hU : Tabs w) :
    Calls Tryz.prog 13 #[.slice a m c] w (ReadK w l) := by
  have H0 := Lib.hid ((Boxs.start w).more zeroRV 36)
  have b0 : Below w.heap.size w (w.alloc (.cells zeroRV 36)) := H0.out.bel
  have s0 : (w.alloc (.cells zeroRV 36)).heap.size = w.heap.size + 1 := by simp
  have cN := new_any a m c l (w.alloc (.cells zeroRV 36)) ((hl.below b0 (Nat.le_refl _)).more b0.size) (by omega)
  have U0 := Lib.hid hU
  have hll := hl.len
  have LB : Hid (∀ l', some l = some l' → l'.length ≤ 1000000) := fun l' e => by injection e with e; subst e; omega
  clear hl hU hll
  go_enter Tryz.func13, Tryz.ntmps13
  go_upto_region 2 with (go_at_call 42; ((with_reducible refine cN.mono ?_); rintro e w1 ⟨g, rfl, hr1, hge1, hlt1, hb1⟩; rw [s0] at hge1; have H1 := Lib.hid (H0.out.below hb1); have D1 : Hid (RS g (some l) w1) := hr1; have GE := Lib.hid hge1; have GL := Lib.hid hlt1; clear hr1 hge1 hlt1 hb1))
  have BX1 : Hid (BoxC w1 w.heap.size (rcV zeroR) 36) := H1.out.get 0 _ _ _ rfl
  have BL1 : Hid (Below w.heap.size w w1) := H1.out.bel
  clear H0 b0 s0 cN H1
  have cT := wTakeFields_any g (some l) w1 D1.out LB.out (U0.out.below BL1.out)
  go_upto_region 3 with (first | (go_at_call 43; ((with_reducible refine cT.mono ?_); rintro e w2 ⟨x, L, st1, rfl, hr2, ho2, hX, hF, hN, hR⟩; have D2 := Lib.hid hr2; have O2 := Lib.hid ho2; have R2 := Lib.hid hR; have X2 := Lib.hid hX; have F2 := Lib.hid hF; have N2 := Lib.hid hN; have HZ : Hid (BoxC (w2.alloc (.cells zeroRV 36)) w2.heap.size (rcV zeroR) 36) := BoxC.new w2 zeroRV 36; clear hr2 ho2 hX hF hN hR)) | (refine wpList_store_k rfl _ _ rfl w2.heap.size x rfl rfl zeroR HZ.out ?_))
  have R4 : Hid (Boxs w ((w2.alloc (.cells zeroRV 36)).setRow w2.heap.size (rcV x)) [(w2.heap.size, rcV x, 36), (w.heap.size, rcV zeroR, 36)] ∧ RS g st1 ((w2.alloc (.cells zeroRV 36)).setRow w2.heap.size (rcV x)) ∧ RcAt ((w2.alloc (.cells zeroRV 36)).setRow w2.heap.size (rcV x)) x L ∧ w.heap.size < w2.heap.size) := by
    have hge := GE.out
    have b2 : Below w.heap.size w w2 := Only.below BL1.out O2.out (by omega) BL1.out.size
    have x2 : BoxC w2 w.heap.size (rcV zeroR) 36 := BX1.out.only O2.out (by omega)
    have z2 := x2.lt
    have bA : Below w2.heap.size w2 (w2.alloc (.cells zeroRV 36)) := (Below.refl _ _).alloc (Nat.le_refl _) _
    have oF := only_fill (w2.alloc (.cells zeroRV 36)) w2.heap.size (rcV x)
    have bF : Below w2.heap.size w2 ((w2.alloc (.cells zeroRV 36)).setRow w2.heap.size (rcV x)) := Only.below bA oF (Nat.le_refl _) bA.size
    have hB : Boxs w w2 [(w.heap.size, rcV zeroR, 36)] := ⟨b2, fun b hb => by rw [List.mem_singleton.1 hb]; exact x2⟩
    exact ⟨(hB.more zeroRV 36).fillK b2.size (by simp; omega) _, Keep.keep (g := g) w2 _ D2.out fun b hb => bF.block b (by have : g < w2.heap.size := D2.out.lt; omega), X2.out.later bF, z2⟩
  have NN : Hid (NewRc (w.heap.size + 1) x) := N2.out.mono (by have h1 := GE.out; have h2 := GL.out; omega)
  clear D1 BX1 BL1 D2 O2 cT HZ GL X2 N2
  generalize (w2.alloc (.cells zeroRV 36)).setRow w2.heap.size (rcV x) = W4 at *
  generalize w2.heap.size = G at *
  have cE := endS_any g st1 W4 R4.out.2.1
  have hGw : ∀ b ∈ [(w.heap.size, rcV zeroR, 36)], b.1 ≠ G := by have := R4.out.2.2.2; simp; omega
  have hwG : ∀ b ∈ [(G, rcV x, 36)], b.1 ≠ w.heap.size := by have := R4.out.2.2.2; simp; omega
  have swap : ∀ V (A B : Nat × Array Value × TypeId), Boxs w V [A, B] → Boxs w V [B, A] := fun V A B h => ⟨h.1, fun b hb => h.2 b (by simp only [List.mem_cons] at hb ⊢; rcases hb with h | h | h; exact .inr (.inl h); exact .inl h; exact .inr (.inr h))⟩
  by_cases he : st1 = some []
  rotate_left
  · have NO := Lib.hid (res_left R2.out he)
    have de : decide (st1 = some []) = false := decide_eq_false he
    rw [de] at cE
    have HZ := R4.out.1.get 1 _ _ _ rfl
    clear he de
    go_wp2_with (first | (go_at_call 44; ((with_reducible refine cE.mono ?_); rintro e w3 ⟨rfl, rfl⟩)) | (refine wpList_store_k rfl _ _ rfl w.heap.size zeroR rfl rfl zeroR HZ ?_))
    have F := (swap _ _ _ R4.out.1).fillK (Nat.le_refl _) hwG (rcV zeroR)
    have z0 := (F.get 0 _ _ _ rfl).cell 0 _ rfl; have z1 := (F.get 0 _ _ _ rfl).cell 1 _ rfl; have z2 := (F.get 0 _ _ _ rfl).cell 2 _ rfl; have z3 := (F.get 0 _ _ _ rfl).cell 3 _ rfl; have z4 := (F.get 0 _ _ _ rfl).cell 4 _ rfl; have z5 := (F.get 0 _ _ _ rfl).cell 5 _ rfl; have z6 := (F.get 0 _ _ _ rfl).cell 6 _ rfl; have z7 := (F.get 0 _ _ _ rfl).cell 7 _ rfl; have z8 := (F.get 0 _ _ _ rfl).cell 8 _ rfl; have z9 := (F.get 0 _ _ _ rfl).cell 9 _ rfl; have z10 := (F.get 0 _ _ _ rfl).cell 10 _ rfl; have z11 := (F.get 0 _ _ _ rfl).cell 11 _ rfl; have z12 := (F.get 0 _ _ _ rfl).cell 12 _ rfl; have z13 := (F.get 0 _ _ _ rfl).cell 13 _ rfl; have z14 := (F.get 0 _ _ _ rfl).cell 14 _ rfl
    exact bodyPost_ret (v := .tuple #[.agg (rcV zeroR), .int .i64 2]) (by simp [results, Tryz.results13, go_sem, z0, z1, z2, z3, z4, z5, z6, z7, z8, z9, z10, z11, z12, z13, z14]) rfl (.inr ⟨rfl, F.bel, NO.out⟩)
  have de : decide (st1 = some []) = true := decide_eq_true he
  rw [de] at cE
  have RP : Hid (rcP l = some (rcT x L, [])) := res_read (he ▸ R2.out)
  clear de
  have cF := wFormed_any x L W4 R4.out.2.2.1 F2.out (U0.out.below R4.out.1.bel)
  have ldX := (R4.out.1.get 0 _ _ _ rfl).ldK (x := x)
  cases hf : formR (rcT x L)
  · rw [hf] at cF
    have NO := Lib.hid (readR_bad RP.out hf)
    go_wp2_with (first | (go_at_call 44; ((with_reducible refine cE.mono ?_); rintro e w3 ⟨rfl, rfl⟩)) | (go_at_call 15; ((with_reducible refine cF.mono ?_); rintro e w5 ⟨rfl, hb5⟩; have H5 := Lib.hid (R4.out.1.below hb5); have HZ := H5.out.get 1 _ _ _ rfl; clear ldX)) | (refine wpList_store_k rfl _ _ rfl w.heap.size zeroR rfl rfl zeroR HZ ?_))
    have F := (swap _ _ _ H5.out).fillK (Nat.le_refl _) hwG (rcV zeroR)
    have z0 := (F.get 0 _ _ _ rfl).cell 0 _ rfl; have z1 := (F.get 0 _ _ _ rfl).cell 1 _ rfl; have z2 := (F.get 0 _ _ _ rfl).cell 2 _ rfl; have z3 := (F.get 0 _ _ _ rfl).cell 3 _ rfl; have z4 := (F.get 0 _ _ _ rfl).cell 4 _ rfl; have z5 := (F.get 0 _ _ _ rfl).cell 5 _ rfl; have z6 := (F.get 0 _ _ _ rfl).cell 6 _ rfl; have z7 := (F.get 0 _ _ _ rfl).cell 7 _ rfl; have z8 := (F.get 0 _ _ _ rfl).cell 8 _ rfl; have z9 := (F.get 0 _ _ _ rfl).cell 9 _ rfl; have z10 := (F.get 0 _ _ _ rfl).cell 10 _ rfl; have z11 := (F.get 0 _ _ _ rfl).cell 11 _ rfl; have z12 := (F.get 0 _ _ _ rfl).cell 12 _ rfl; have z13 := (F.get 0 _ _ _ rfl).cell 13 _ rfl; have z14 := (F.get 0 _ _ _ rfl).cell 14 _ rfl
    exact bodyPost_ret (v := .tuple #[.agg (rcV zeroR), .int .i64 2]) (by simp [results, Tryz.results13, go_sem, z0, z1, z2, z3, z4, z5, z6, z7, z8, z9, z10, z11, z12, z13, z14]) rfl (.inr ⟨rfl, F.bel, NO.out⟩)
  · rw [hf] at cF
    have YES := Lib.hid (readR_some RP.out hf)
    go_wp2_with (first | (go_at_call 44; ((with_reducible refine cE.mono ?_); rintro e w3 ⟨rfl, rfl⟩)) | (go_at_call 15; ((with_reducible refine cF.mono ?_); rintro e w5 ⟨rfl, hb5⟩; have H5 := Lib.hid (R4.out.1.below hb5); have X5 := Lib.hid (R4.out.2.2.1.later hb5); have HZ := H5.out.get 1 _ _ _ rfl; clear ldX; have ldX := (H5.out.get 0 _ _ _ rfl).ldK (x := x))) | (refine wpList_store_k rfl _ _ rfl w.heap.size x rfl rfl zeroR HZ ?_))
    have F := (swap _ _ _ H5.out).fillK (Nat.le_refl _) hwG (rcV x)
    have z0 := (F.get 0 _ _ _ rfl).cell 0 _ rfl; have z1 := (F.get 0 _ _ _ rfl).cell 1 _ rfl; have z2 := (F.get 0 _ _ _ rfl).cell 2 _ rfl; have z3 := (F.get 0 _ _ _ rfl).cell 3 _ rfl; have z4 := (F.get 0 _ _ _ rfl).cell 4 _ rfl; have z5 := (F.get 0 _ _ _ rfl).cell 5 _ rfl; have z6 := (F.get 0 _ _ _ rfl).cell 6 _ rfl; have z7 := (F.get 0 _ _ _ rfl).cell 7 _ rfl; have z8 := (F.get 0 _ _ _ rfl).cell 8 _ rfl; have z9 := (F.get 0 _ _ _ rfl).cell 9 _ rfl; have z10 := (F.get 0 _ _ _ rfl).cell 10 _ rfl; have z11 := (F.get 0 _ _ _ rfl).cell 11 _ rfl; have z12 := (F.get 0 _ _ _ rfl).cell 12 _ rfl; have z13 := (F.get 0 _ _ _ rfl).cell 13 _ rfl; have z14 := (F.get 0 _ _ _ rfl).cell 14 _ rfl
    exact bodyPost_ret (v := .tuple #[.agg (rcV x), .int .i64 0]) (by simp [results, Tryz.results13, go_sem, z0, z1, z2, z3, z4, z5, z6, z7, z8, z9, z10, z11, z12, z13, z14]) rfl (.inl ⟨x, L, rfl, F.bel, X5.out.far NN.out (by rw [setRow_size]; exact Nat.le_refl _) (fun b hb _ => setRow_other _ _ _ _ (by omega)), F2.out, NN.out.mono (by omega), YES.out⟩)
end Go.Proofs.YtcfmifongbapkaaGreatDoor

/- WalRows -/
namespace Go.Proofs.YtcfmifongbapkaaGreatDoor

open Go.RowKit

set_option linter.unusedVariables false
set_option linter.unusedSimpArgs false

theorem Tryz.kInfo36 : (Tryz.prog.info? 36).map (fun i => (i.zero, i.size, i.bytes)) = some (some (.agg zeroRV), 15, 168) := by kernel_rfl
/-- An address in a block of S, if there is anything there. -/
def InP (S : Nat → Prop) (n : Nat) (a : Option Addr) : Prop := n = 0 ∨ ∀ p, a = some p → S p.block
/-- A record's lists and data lie in blocks of S. -/
structure InR (S : Nat → Prop) (x : RcM) : Prop where
  a : InP S x.cm.n x.cm.a
  b : InP S x.cm.m x.cm.b
  d : InP S x.dn x.da
theorem InP.mono {S T : Nat → Prop} {n : Nat} {a : Option Addr} (h : InP S n a) (hs : ∀ b, S b → T b) : InP T n a := h.elim .inl fun h => .inr fun p e => hs _ (h p e)
theorem InR.mono {S T : Nat → Prop} {x : RcM} (h : InR S x) (hs : ∀ b, S b → T b) : InR T x := ⟨h.a.mono hs, h.b.mono hs, h.d.mono hs⟩
section

variable {W W' : World} {B n k : Nat} {a : Option Addr} {S : Nat → Prop}

theorem RowAt.inP {xs : List Value} (h : RowAt W W.heap.size a n k xs) (hn : NewP B a) : InP (fun b => B ≤ b ∧ b < W.heap.size) n a := by
  rcases h with ⟨_, h | ⟨b, off, rfl, hb, _⟩⟩
  · exact .inl h
  · exact .inr fun p e => by injection e with e; subst e; exact ⟨hn _ rfl, hb⟩
theorem BAt.inP {l : List UInt8} (h : BAt W W.heap.size a n l) (hn : NewP B a) : InP (fun b => B ≤ b ∧ b < W.heap.size) n a := by
  rcases h with ⟨_, h | ⟨b, off, rfl, hb, _⟩⟩
  · exact .inl h
  · exact .inr fun p e => by injection e with e; subst e; exact ⟨hn _ rfl, hb⟩
theorem RcAt.inR {x : RcM} {L : RcL} (h : RcAt W x L) (hn : NewRc B x) : InR (fun b => B ≤ b ∧ b < W.heap.size) x := ⟨h.cm.tx.rds.2.inP hn.a, h.cm.tx.wrs.2.inP hn.b, h.da.inP hn.d⟩
theorem RowAt.keepS {xs : List Value} (h : RowAt W W.heap.size a n k xs) (hn : InP S n a) (hs : W.heap.size ≤ W'.heap.size) (hk : ∀ b, S b → b < W.heap.size → W'.heap[b]? = W.heap[b]?) : RowAt W' W'.heap.size a n k xs := by
  refine RowAt.more ?_ hs
  rcases h with ⟨hl, h | ⟨b, off, rfl, hb, hc⟩⟩
  · exact ⟨hl, .inl h⟩
  · rcases hn with hn | hn
    · exact ⟨hl, .inl hn⟩
    · exact ⟨hl, .inr ⟨b, off, rfl, hb, fun j u hu => (World.cell?_of_block (hk b (hn _ rfl) hb)).trans (hc j u hu)⟩⟩
theorem BAt.keepS {l : List UInt8} (h : BAt W W.heap.size a n l) (hn : InP S n a) (hs : W.heap.size ≤ W'.heap.size) (hk : ∀ b, S b → b < W.heap.size → W'.heap[b]? = W.heap[b]?) : BAt W' W'.heap.size a n l := by
  refine BAt.more ?_ hs
  rcases h with ⟨hl, h | ⟨b, off, rfl, hb, hc⟩⟩
  · exact ⟨hl, .inl h⟩
  · rcases hn with hn | hn
    · exact ⟨hl, .inl hn⟩
    · exact ⟨hl, .inr ⟨b, off, rfl, hb, fun j hj => (World.cell?_of_block (hk b (hn _ rfl) hb)).trans (hc j hj)⟩⟩
theorem RcAt.keepS {x : RcM} {L : RcL} (h : RcAt W x L) (hn : InR S x) (hs : W.heap.size ≤ W'.heap.size) (hk : ∀ b, S b → b < W.heap.size → W'.heap[b]? = W.heap[b]?) : RcAt W' x L :=
  ⟨⟨⟨⟨⟨h.cm.tx.lenR, h.cm.tx.rds.2.keepS hn.a hs hk⟩, ⟨h.cm.tx.lenW, h.cm.tx.wrs.2.keepS hn.b hs hk⟩⟩, h.cm.tx.okR, h.cm.tx.okW⟩, h.cm.st⟩, h.da.keepS hn.d hs hk, h.br⟩
end

abbrev RE := RcM × RcL
def rcC (z : RE) : List Value := (rcV z.1).toList
theorem rcC_len (z : RE) : (rcC z).length = 15 := rfl
def rcS (L : List RE) : List Rc := L.map fun z => rcT z.1 z.2
theorem rcS_len (L : List RE) : (rcS L).length = L.length := by simp [rcS]
theorem rcS_app (L M : List RE) : rcS (L ++ M) = rcS L ++ rcS M := by simp [rcS]
/-- A list of records that lies in memory. -/
structure RcsAt (W : World) (a : Option Addr) (n : Nat) (L : List RE) : Prop where
  len : L.length = n
  row : RowAt W W.heap.size a n 15 (L.flatMap rcC)
  all : ∀ z ∈ L, RcAt W z.1 z.2 ∧ RcF z.1
/-- .. in blocks of S. -/
structure RcsIn (S : Nat → Prop) (a : Option Addr) (n : Nat) (L : List RE) : Prop where
  row : InP S n a
  all : ∀ z ∈ L, InR S z.1
section

variable {W W' : World} {n : Nat} {a : Option Addr} {S T : Nat → Prop} {L : List RE}

end

end Go.Proofs.YtcfmifongbapkaaGreatDoor

/- TxnRefTake -/
namespace Go.Proofs.YtcfmifongbapkaaGreatDoor

open Go.RowKit

set_option linter.unusedVariables false

set_option maxRecDepth 100000 in
set_option maxHeartbeats 2000000 in
theorem rTakeId_any (B g : Nat) (L : List UInt8) (st : St) (w : World) (h : FS B g L st w) :
    Calls Tryz.prog 88 #[.pointer (some ⟨g, 0, none⟩)] w (Took1 (FS B g L) g idV idQ (0, 0) st w) := by
  have hlt := h.lt
  have H0 := Lib.hid ((RdO.start h hlt).more #[.int .i64 0, .int .i64 0] 26)
  have c1 : ∀ s W, FS B g L s W → Calls Tryz.prog 45 #[.pointer (some ⟨g, 0, none⟩), .int .i64 1] W (Took1 (FS B g L) g numV (numP 1) 0 s W) := fun s W h => refTakeS_any B g L 1 s W h (by omega)
  have c4 : ∀ s W, FS B g L s W → Calls Tryz.prog 45 #[.pointer (some ⟨g, 0, none⟩), .int .i64 4] W (Took1 (FS B g L) g numV (numP 4) 0 s W) := fun s W h => refTakeS_any B g L 4 s W h (by omega)
  clear h
  go_enter Tryz.func88, Tryz.ntmps88
  go_upto_region 2 with (go_at_call 45; ((with_reducible refine (c1 _ _ H0.out.rdr).mono ?_); rintro e w1 ⟨x, st1, rfl, hr1, ho1, hR1, hz1⟩; have H1 := Lib.hid (H0.out.only hr1 ho1); have R1 := Lib.hid hR1; have Z1 := Lib.hid hz1; have hx : x < 256 := num_lt hR1 hz1 (by decide); clear hr1 ho1 hR1 hz1))
  go_upto_region 3 with (go_at_call 45; ((with_reducible refine (c4 _ _ H1.out.rdr).mono ?_); rintro e w3 ⟨y, st2, rfl, hr3, ho3, hR3, hz3⟩; have H3 := Lib.hid (H1.out.only hr3 ho3); have R3 := Lib.hid hR3; have Z3 := Lib.hid hz3; have hy : y < 4294967296 := num_lt hR3 hz3 (by decide); clear hr3 ho3 hR3 hz3))
  have H4 := Lib.hid (H3.out.more #[.int .i64 x, .int .i64 y] 26)
  have hG : w.heap.size < w3.heap.size := (H3.out.get 0 _ _ _ rfl).lt
  have RR : Hid (Res idP st ((x : Int), (y : Int)) st2) := res_id R1.out R3.out
  clear H0 H1 H3 c1 c4 R1 R3 Z1
  generalize w3.alloc (.cells #[.int .i64 x, .int .i64 y] 26) = W4 at *
  generalize w3.heap.size = G at *
  have hgG : g ≠ G := by omega
  have hgw : g ≠ w.heap.size := by omega
  obtain ⟨fl, ff⟩ := H4.out.rdr.flag
  obtain ⟨x0, x1⟩ := (H4.out.get 0 _ _ _ rfl).two
  obtain ⟨z0, z1⟩ := (H4.out.get 1 _ _ _ rfl).two
  have f0 := (H4.out.get 1 _ _ _ rfl).frozen 0
  have f1 := (H4.out.get 1 _ _ _ rfl).frozen 1
  have cI := rId_any (x : Int) (y : Int)
  cases st2 with
  | none =>
    have Q := Lib.hid (RR.out.guard_no (c := idB) (0, 0))
    have H5 : Hid (RdO (FS B g L none) g w (W4.setCell ⟨g, 2, none⟩ (.bool true)) [(G, #[.int .i64 x, .int .i64 y], 26), (w.heap.size, #[.int .i64 0, .int .i64 0], 26)] []) := H4.out.only H4.out.rdr.fails (only_set W4 g 2 _)
    go_wp2
    have H8 := (H5.out.tail.set (fun _ h => by cases h) 0 (.int .i64 0)).set (fun _ h => by cases h) 1 (.int .i64 0)
    exact bodyPost_ret (v := .agg #[.int .i64 0, .int .i64 0]) (by simp [results, Tryz.results88, go_sem, z0, z1]) rfl ⟨(0, 0), none, rfl, H8.rdr, H8.onl, Q.out, fun _ => rfl⟩
  | some r =>
    cases hf : idB ((x : Int), (y : Int))
    · rw [hf] at cI
      have Q := Lib.hid (RR.out.guard_bad (c := idB) hf (0, 0))
      clear hf RR
      go_wp2_with (go_at_call 93; ((with_reducible refine (cI _).mono ?_); rintro e w5 ⟨rfl, hb5⟩; have H5 := Lib.hid (H4.out.below hb5); (clear fl ff x0 x1 z0 z1 f0 f1); obtain ⟨fl, ff⟩ := H5.out.rdr.flag; obtain ⟨x0, x1⟩ := (H5.out.get 0 _ _ _ rfl).two; obtain ⟨z0, z1⟩ := (H5.out.get 1 _ _ _ rfl).two; have f0 := (H5.out.get 1 _ _ _ rfl).frozen 0; have f1 := (H5.out.get 1 _ _ _ rfl).frozen 1))
      have H6 : RdO (FS B g L none) g w (w5.setCell ⟨g, 2, none⟩ (.bool true)) [(G, #[.int .i64 x, .int .i64 y], 26), (w.heap.size, #[.int .i64 0, .int .i64 0], 26)] [] := H5.out.only H5.out.rdr.fails (only_set w5 g 2 _)
      have H8 := (H6.tail.set (fun _ h => by cases h) 0 (.int .i64 0)).set (fun _ h => by cases h) 1 (.int .i64 0)
      exact bodyPost_ret (v := .agg #[.int .i64 0, .int .i64 0]) (by simp [results, Tryz.results88, go_sem, z0, z1]) rfl ⟨(0, 0), none, rfl, H8.rdr, H8.onl, Q.out, fun _ => rfl⟩
    · rw [hf] at cI
      have Q := Lib.hid (RR.out.guard_yes (c := idB) hf)
      clear hf RR
      go_wp2_with (go_at_call 93; ((with_reducible refine (cI _).mono ?_); rintro e w5 ⟨rfl, hb5⟩; have H5 := Lib.hid (H4.out.below hb5); (clear fl ff x0 x1 z0 z1 f0 f1); obtain ⟨fl, ff⟩ := H5.out.rdr.flag; obtain ⟨x0, x1⟩ := (H5.out.get 0 _ _ _ rfl).two; obtain ⟨z0, z1⟩ := (H5.out.get 1 _ _ _ rfl).two; have f0 := (H5.out.get 1 _ _ _ rfl).frozen 0; have f1 := (H5.out.get 1 _ _ _ rfl).frozen 1))
      have H8 := (H5.out.tail.set (fun _ h => by cases h) 0 (.int .i64 x)).set (fun _ h => by cases h) 1 (.int .i64 y)
      exact bodyPost_ret (v := .agg #[.int .i64 x, .int .i64 y]) (by simp [results, Tryz.results88, go_sem, z0, z1]) rfl ⟨((x : Int), (y : Int)), some r, rfl, H8.rdr, H8.onl, Q.out, fun e => by cases e⟩
end Go.Proofs.YtcfmifongbapkaaGreatDoor
