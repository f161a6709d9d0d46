/- Whether a reader is at its end, as a state. Conditions: the reader lies in memory. Contract of wal.Read. Conditions: the bytes lie in memory, a million at most; the tables of utf8 lie there. New bytes, seen from an earlier world; one byte of a number. No condition. Contract of bytes.Clone; a row of the call's own is appended to at a step of a drawn region. Conditions: what it is handed lies in memory and is not longer than 2^40. Contracts of frame.Sum and of the document's own Sum: both answer the sum of the bytes. Condition: the bytes lie in memory. Contracts of frame.Wrap and of the document's own Wrap, and of the statements' function awake. Conditions: the body lies in memory and is not longer than 2^40. -/
import Derived.Test.YtcfmifongbapkaaGreatDoorQI
import Derived.Test.YtcfmifongbapkaaGreatDoorQB
import Derived.Test.YtcfmifongbapkaaGreatDoorQX
import Derived.Test.YtcfmifongbapkaaGreatDoorQZ
import Derived.Test.YtcfmifongbapkaaGreatDoorQA
import Derived.Test.YtcfmifongbapkaaGreatDoorQD
import Derived.Deep.RegionHeld3
import Derived.Test.YtcfmifongbapkaaGreatDoorQC
import Derived.Test.YtcfmifongbapkaaGreatDoorQM
import Derived.Test.YtcfmifongbapkaaGreatDoorQN
import Derived.Lib.SlBytesConst
/- ReadEnd -/
namespace Go.Proofs.YtcfmifongbapkaaGreatDoor

open Go.RowKit

set_option linter.unusedVariables false

theorem endS_any (g : Nat) (st : St) (W : World) (h : RS g st W) :
    Calls Tryz.prog 44 #[.pointer (some ⟨g, 0, none⟩)] W fun e w' => e = .returned (.bool (decide (st = some []))) ∧ W = w' := by
  cases st with
  | none =>
    have h1 := end_any g [] false W h
    simpa using h1
  | some l =>
    have h1 := end_any g l true W h
    cases l with
    | nil => simpa using h1
    | cons a r => simpa using h1
end Go.Proofs.YtcfmifongbapkaaGreatDoor

/- WalRead -/
namespace Go.Proofs.YtcfmifongbapkaaGreatDoor

open Go.RowKit

set_option linter.unusedVariables false
set_option linter.unusedSimpArgs false

/-- What bytes are read as: the record, whose lists and data lie in blocks made by the call; or none. -/
def ReadK (w : World) (l : List UInt8) (e : Ending) (w' : World) : Prop :=
  (∃ x L, e = .returned (.tuple #[.agg (rcV x), .int .i64 0]) ∧ Below w.heap.size w w' ∧ RcAt w' x L ∧ RcF x ∧ NewRc w.heap.size x ∧ readR l = some (rcT x L)) ∨ (e = .returned (.tuple #[.agg (rcV zeroR), .int .i64 2]) ∧ Below w.heap.size w w' ∧ readR l = none)
theorem res_read {l : List UInt8} {x : Rc} (h : Res rcP (some l) x (some [])) : rcP l = some (x, []) := by
  rcases h with ⟨l', r, e, hp, e2⟩ | ⟨_, e⟩
  · injection e with e; subst e; injection e2 with e2; subst e2; exact hp
  · cases e
theorem res_left {l : List UInt8} {x : Rc} {st : St} (h : Res rcP (some l) x st) (hs : ¬ st = some []) : readR l = none := by
  rcases h with ⟨l', r, e, hp, e2⟩ | ⟨hn, e⟩
  · injection e with e; subst e
    exact readR_more hp (fun e => hs (by rw [e2, e]))
  · exact readR_none (hn l rfl)
set_option maxRecDepth 100000 in
set_option maxHeartbeats 4000000 in
theorem wRead_any (a : Option Addr) (m c : Nat) (l : List UInt8) (w : World) (hl : BAt w w.heap.size a m l) (hm : m ≤ 1000000) (hU : Tabs w) :
    Calls Tryz.prog 13 #[.slice a m c] w (ReadK w l) := by
  have H0 := Lib.hid ((Boxs.start w).more zeroRV 36)
  have b0 : Below w.heap.size w (w.alloc (.cells zeroRV 36)) := H0.out.bel
  have s0 : (w.alloc (.cells zeroRV 36)).heap.size = w.heap.size + 1 := by simp
  have cN := new_any a m c l (w.alloc (.cells zeroRV 36)) ((hl.below b0 (Nat.le_refl _)).more b0.size) (by omega)
  have U0 := Lib.hid hU
  have hll := hl.len
  have LB : Hid (∀ l', some l = some l' → l'.length ≤ 1000000) := fun l' e => by injection e with e; subst e; omega
  clear hl hU hll
  go_enter Tryz.func13, Tryz.ntmps13
  go_upto_region 2 with (go_at_call 42; ((with_reducible refine cN.mono ?_); rintro e w1 ⟨g, rfl, hr1, hge1, hlt1, hb1⟩; rw [s0] at hge1; have H1 := Lib.hid (H0.out.below hb1); have D1 : Hid (RS g (some l) w1) := hr1; have GE := Lib.hid hge1; have GL := Lib.hid hlt1; clear hr1 hge1 hlt1 hb1))
  have BX1 : Hid (BoxC w1 w.heap.size (rcV zeroR) 36) := H1.out.get 0 _ _ _ rfl
  have BL1 : Hid (Below w.heap.size w w1) := H1.out.bel
  clear H0 b0 s0 cN H1
  have cT := wTakeFields_any g (some l) w1 D1.out LB.out (U0.out.below BL1.out)
  go_upto_region 3 with (first | (go_at_call 43; ((with_reducible refine cT.mono ?_); rintro e w2 ⟨x, L, st1, rfl, hr2, ho2, hX, hF, hN, hR⟩; have D2 := Lib.hid hr2; have O2 := Lib.hid ho2; have R2 := Lib.hid hR; have X2 := Lib.hid hX; have F2 := Lib.hid hF; have N2 := Lib.hid hN; have HZ : Hid (BoxC (w2.alloc (.cells zeroRV 36)) w2.heap.size (rcV zeroR) 36) := BoxC.new w2 zeroRV 36; clear hr2 ho2 hX hF hN hR)) | (refine wpList_store_k rfl _ _ rfl w2.heap.size x rfl rfl zeroR HZ.out ?_))
  have R4 : Hid (Boxs w ((w2.alloc (.cells zeroRV 36)).setRow w2.heap.size (rcV x)) [(w2.heap.size, rcV x, 36), (w.heap.size, rcV zeroR, 36)] ∧ RS g st1 ((w2.alloc (.cells zeroRV 36)).setRow w2.heap.size (rcV x)) ∧ RcAt ((w2.alloc (.cells zeroRV 36)).setRow w2.heap.size (rcV x)) x L ∧ w.heap.size < w2.heap.size) := by
    have hge := GE.out
    have b2 : Below w.heap.size w w2 := Only.below BL1.out O2.out (by omega) BL1.out.size
    have x2 : BoxC w2 w.heap.size (rcV zeroR) 36 := BX1.out.only O2.out (by omega)
    have z2 := x2.lt
    have bA : Below w2.heap.size w2 (w2.alloc (.cells zeroRV 36)) := (Below.refl _ _).alloc (Nat.le_refl _) _
    have oF := only_fill (w2.alloc (.cells zeroRV 36)) w2.heap.size (rcV x)
    have bF : Below w2.heap.size w2 ((w2.alloc (.cells zeroRV 36)).setRow w2.heap.size (rcV x)) := Only.below bA oF (Nat.le_refl _) bA.size
    have hB : Boxs w w2 [(w.heap.size, rcV zeroR, 36)] := ⟨b2, fun b hb => by rw [List.mem_singleton.1 hb]; exact x2⟩
    exact ⟨(hB.more zeroRV 36).fillK b2.size (by simp; omega) _, Keep.keep (g := g) w2 _ D2.out fun b hb => bF.block b (by have : g < w2.heap.size := D2.out.lt; omega), X2.out.later bF, z2⟩
  have NN : Hid (NewRc (w.heap.size + 1) x) := N2.out.mono (by have h1 := GE.out; have h2 := GL.out; omega)
  clear D1 BX1 BL1 D2 O2 cT HZ GL X2 N2
  generalize (w2.alloc (.cells zeroRV 36)).setRow w2.heap.size (rcV x) = W4 at *
  generalize w2.heap.size = G at *
  have cE := endS_any g st1 W4 R4.out.2.1
  have hGw : ∀ b ∈ [(w.heap.size, rcV zeroR, 36)], b.1 ≠ G := by have := R4.out.2.2.2; simp; omega
  have hwG : ∀ b ∈ [(G, rcV x, 36)], b.1 ≠ w.heap.size := by have := R4.out.2.2.2; simp; omega
  have swap : ∀ V (A B : Nat × Array Value × TypeId), Boxs w V [A, B] → Boxs w V [B, A] := fun V A B h => ⟨h.1, fun b hb => h.2 b (by simp only [List.mem_cons] at hb ⊢; rcases hb with h | h | h; exact .inr (.inl h); exact .inl h; exact .inr (.inr h))⟩
  by_cases he : st1 = some []
  rotate_left
  · have NO := Lib.hid (res_left R2.out he)
    have de : decide (st1 = some []) = false := decide_eq_false he
    rw [de] at cE
    have HZ := R4.out.1.get 1 _ _ _ rfl
    clear he de
    go_wp2_with (first | (go_at_call 44; ((with_reducible refine cE.mono ?_); rintro e w3 ⟨rfl, rfl⟩)) | (refine wpList_store_k rfl _ _ rfl w.heap.size zeroR rfl rfl zeroR HZ ?_))
    have F := (swap _ _ _ R4.out.1).fillK (Nat.le_refl _) hwG (rcV zeroR)
    have z0 := (F.get 0 _ _ _ rfl).cell 0 _ rfl; have z1 := (F.get 0 _ _ _ rfl).cell 1 _ rfl; have z2 := (F.get 0 _ _ _ rfl).cell 2 _ rfl; have z3 := (F.get 0 _ _ _ rfl).cell 3 _ rfl; have z4 := (F.get 0 _ _ _ rfl).cell 4 _ rfl; have z5 := (F.get 0 _ _ _ rfl).cell 5 _ rfl; have z6 := (F.get 0 _ _ _ rfl).cell 6 _ rfl; have z7 := (F.get 0 _ _ _ rfl).cell 7 _ rfl; have z8 := (F.get 0 _ _ _ rfl).cell 8 _ rfl; have z9 := (F.get 0 _ _ _ rfl).cell 9 _ rfl; have z10 := (F.get 0 _ _ _ rfl).cell 10 _ rfl; have z11 := (F.get 0 _ _ _ rfl).cell 11 _ rfl; have z12 := (F.get 0 _ _ _ rfl).cell 12 _ rfl; have z13 := (F.get 0 _ _ _ rfl).cell 13 _ rfl; have z14 := (F.get 0 _ _ _ rfl).cell 14 _ rfl
    exact bodyPost_ret (v := .tuple #[.agg (rcV zeroR), .int .i64 2]) (by simp [results, Tryz.results13, go_sem, z0, z1, z2, z3, z4, z5, z6, z7, z8, z9, z10, z11, z12, z13, z14]) rfl (.inr ⟨rfl, F.bel, NO.out⟩)
  have de : decide (st1 = some []) = true := decide_eq_true he
  rw [de] at cE
  have RP : Hid (rcP l = some (rcT x L, [])) := res_read (he ▸ R2.out)
  clear de
  have cF := wFormed_any x L W4 R4.out.2.2.1 F2.out (U0.out.below R4.out.1.bel)
  have ldX := (R4.out.1.get 0 _ _ _ rfl).ldK (x := x)
  cases hf : formR (rcT x L)
  · rw [hf] at cF
    have NO := Lib.hid (readR_bad RP.out hf)
    go_wp2_with (first | (go_at_call 44; ((with_reducible refine cE.mono ?_); rintro e w3 ⟨rfl, rfl⟩)) | (go_at_call 15; ((with_reducible refine cF.mono ?_); rintro e w5 ⟨rfl, hb5⟩; have H5 := Lib.hid (R4.out.1.below hb5); have HZ := H5.out.get 1 _ _ _ rfl; clear ldX)) | (refine wpList_store_k rfl _ _ rfl w.heap.size zeroR rfl rfl zeroR HZ ?_))
    have F := (swap _ _ _ H5.out).fillK (Nat.le_refl _) hwG (rcV zeroR)
    have z0 := (F.get 0 _ _ _ rfl).cell 0 _ rfl; have z1 := (F.get 0 _ _ _ rfl).cell 1 _ rfl; have z2 := (F.get 0 _ _ _ rfl).cell 2 _ rfl; have z3 := (F.get 0 _ _ _ rfl).cell 3 _ rfl; have z4 := (F.get 0 _ _ _ rfl).cell 4 _ rfl; have z5 := (F.get 0 _ _ _ rfl).cell 5 _ rfl; have z6 := (F.get 0 _ _ _ rfl).cell 6 _ rfl; have z7 := (F.get 0 _ _ _ rfl).cell 7 _ rfl; have z8 := (F.get 0 _ _ _ rfl).cell 8 _ rfl; have z9 := (F.get 0 _ _ _ rfl).cell 9 _ rfl; have z10 := (F.get 0 _ _ _ rfl).cell 10 _ rfl; have z11 := (F.get 0 _ _ _ rfl).cell 11 _ rfl; have z12 := (F.get 0 _ _ _ rfl).cell 12 _ rfl; have z13 := (F.get 0 _ _ _ rfl).cell 13 _ rfl; have z14 := (F.get 0 _ _ _ rfl).cell 14 _ rfl
    exact bodyPost_ret (v := .tuple #[.agg (rcV zeroR), .int .i64 2]) (by simp [results, Tryz.results13, go_sem, z0, z1, z2, z3, z4, z5, z6, z7, z8, z9, z10, z11, z12, z13, z14]) rfl (.inr ⟨rfl, F.bel, NO.out⟩)
  · rw [hf] at cF
    have YES := Lib.hid (readR_some RP.out hf)
    go_wp2_with (first | (go_at_call 44; ((with_reducible refine cE.mono ?_); rintro e w3 ⟨rfl, rfl⟩)) | (go_at_call 15; ((with_reducible refine cF.mono ?_); rintro e w5 ⟨rfl, hb5⟩; have H5 := Lib.hid (R4.out.1.below hb5); have X5 := Lib.hid (R4.out.2.2.1.later hb5); have HZ := H5.out.get 1 _ _ _ rfl; clear ldX; have ldX := (H5.out.get 0 _ _ _ rfl).ldK (x := x))) | (refine wpList_store_k rfl _ _ rfl w.heap.size x rfl rfl zeroR HZ ?_))
    have F := (swap _ _ _ H5.out).fillK (Nat.le_refl _) hwG (rcV x)
    have z0 := (F.get 0 _ _ _ rfl).cell 0 _ rfl; have z1 := (F.get 0 _ _ _ rfl).cell 1 _ rfl; have z2 := (F.get 0 _ _ _ rfl).cell 2 _ rfl; have z3 := (F.get 0 _ _ _ rfl).cell 3 _ rfl; have z4 := (F.get 0 _ _ _ rfl).cell 4 _ rfl; have z5 := (F.get 0 _ _ _ rfl).cell 5 _ rfl; have z6 := (F.get 0 _ _ _ rfl).cell 6 _ rfl; have z7 := (F.get 0 _ _ _ rfl).cell 7 _ rfl; have z8 := (F.get 0 _ _ _ rfl).cell 8 _ rfl; have z9 := (F.get 0 _ _ _ rfl).cell 9 _ rfl; have z10 := (F.get 0 _ _ _ rfl).cell 10 _ rfl; have z11 := (F.get 0 _ _ _ rfl).cell 11 _ rfl; have z12 := (F.get 0 _ _ _ rfl).cell 12 _ rfl; have z13 := (F.get 0 _ _ _ rfl).cell 13 _ rfl; have z14 := (F.get 0 _ _ _ rfl).cell 14 _ rfl
    exact bodyPost_ret (v := .tuple #[.agg (rcV x), .int .i64 0]) (by simp [results, Tryz.results13, go_sem, z0, z1, z2, z3, z4, z5, z6, z7, z8, z9, z10, z11, z12, z13, z14]) rfl (.inl ⟨x, L, rfl, F.bel, X5.out.far NN.out (by rw [setRow_size]; exact Nat.le_refl _) (fun b hb _ => setRow_other _ _ _ _ (by omega)), F2.out, NN.out.mono (by omega), YES.out⟩)
end Go.Proofs.YtcfmifongbapkaaGreatDoor

/- CodeNew -/
namespace Go.Proofs.YtcfmifongbapkaaGreatDoor

open Go.RowKit

theorem NewB.on {w w1 w' : World} {l : List UInt8} {e : Ending} (h : NewB w1 l e w') (hb : Below w.heap.size w w1) : NewB w l e w' := by
  obtain ⟨a, n, c, rfl, ho, hb'⟩ := h
  exact ⟨a, n, c, rfl, own_base ho hb.size, hb.trans (hb'.mono hb.size)⟩
theorem NewB.cast {w w' : World} {l m : List UInt8} {e : Ending} (h : NewB w l e w') (hl : l = m) : NewB w m e w' := hl ▸ h
theorem PutIn.below {w wr w1 : World} {v : Value} {n : Nat} {l : List UInt8} (h : PutIn w wr v n l) (hb : Below wr.heap.size wr w1) : PutIn w w1 v n l := ⟨own_below h.1 hb, h.2.trans (hb.mono h.2.size)⟩
theorem PutIn.drew {w wr : World} {v : Value} {n : Nat} {l : List UInt8} (h : PutIn w wr v n l) : PutIn w wr.drew v n l := h.below (below_drewN 1 (Below.refl _ _))
/-- What a call answered, while a row was made. -/
theorem PutIn.call {w wr w1 : World} {a : Option Addr} {n c : Nat} {l : List UInt8} (hb : Below w.heap.size w wr) (ho : w1.ownsRow wr.heap.size 5 1 (.slice a n c) n (bcells l)) (hb1 : Below wr.heap.size wr w1) : PutIn w w1 (.slice a n c) n l := ⟨own_base ho hb.size, hb.trans (hb1.mono hb.size)⟩
theorem PutIn.bat {w wr : World} {a : Option Addr} {n c : Nat} {l : List UInt8} (h : PutIn w wr (.slice a n c) n l) : BAt wr wr.heap.size a n l := BAt.of_own h.1
theorem PutIn.bel {w wr : World} {v : Value} {n : Nat} {l : List UInt8} (h : PutIn w wr v n l) : Below w.heap.size w wr := h.2
theorem PutIn.own {w wr : World} {v : Value} {n : Nat} {l : List UInt8} (h : PutIn w wr v n l) : wr.ownsRow w.heap.size 5 1 v n (bcells l) := h.1
theorem PutIn.form {w wr : World} {v : Value} {n : Nat} {l : List UInt8} (h : PutIn w wr v n l) : ∃ a c, v = .slice a n c := by
  obtain ⟨a, c, h1, _⟩ := own_form h.1
  exact ⟨a, c, h1⟩
theorem byte_nat (n : Nat) (h : n < 256) : ((n : Nat) : Int) = ((UInt8.ofNat n).toNat : Int) := by
  have h8 : (UInt8.ofNat n).toNat = n % 256 := UInt8.toNat_ofNat'
  rw [h8]; omega
theorem byte_mod (n : Nat) : ((n : Nat) : Int) % 256 = ((UInt8.ofNat n).toNat : Int) := by
  have h8 : (UInt8.ofNat n).toNat = n % 256 := UInt8.toNat_ofNat'
  rw [h8]; omega
theorem put_one (n : Nat) : putB n 1 = [UInt8.ofNat n] := by simp [putB]
end Go.Proofs.YtcfmifongbapkaaGreatDoor

/- BytesClone -/
namespace Go.Proofs.YtcfmifongbapkaaGreatDoor

open Go.RowKit

set_option linter.unusedVariables false
set_option linter.unusedSimpArgs false

set_option maxHeartbeats 1000000 in
theorem bclone_any (a : Option Addr) (m c : Nat) (l : List UInt8) (w : World) (hl : BAt w w.heap.size a m l) (hlen : m ≤ 1099511627776) :
    Calls Tryz.prog 65 #[.slice a m c] w (NewB w l) := by
  obtain ⟨i0, hi, hz0, hz1, hz2⟩ := info_parts Tryz.info5
  rcases a with _ | ad
  · have hm : m = 0 := by
      rcases hl with ⟨_, h | ⟨b, off, h, _⟩⟩
      · exact h
      · cases h
    obtain rfl : l = [] := List.eq_nil_of_length_eq_zero (by rw [hl.len, hm])
    have heq : ∀ W : World, (binOp .eql 34 (.slice none m c) (.slice none 0 0)).run Tryz.prog W = .ok (.bool true) W := fun W => Lib.run_eql_slice_nil W 34 5 _ _ _ _ _ Tryz.underlying34
    clear hm
    go_enter Tryz.func65, Tryz.ntmps65
    go_wp2
    go_ret
    exact ⟨none, 0, 0, rfl, World.ownsRow_nil _ _ _ _, Below.refl _ _⟩
  · have heq : ∀ W : World, (binOp .eql 34 (.slice (some ad) m c) (.slice none 0 0)).run Tryz.prog W = .ok (.bool false) W := fun W => Lib.run_eql_slice_nil W 34 5 _ _ _ _ _ Tryz.underlying34
    go_enter Tryz.func65, Tryz.ntmps65
    go_wp2_with (at_builtin; (refine wpList_append_bytes _ rfl _ _ 34 rfl w.heap.size 5 i0 Tryz.underlying34 hi hz0 hz1 hz2 _ 0 [] rfl (own_empty w) w.heap.size (some ad) m l c rfl (hl.alloc (Nat.le_refl _) _) (by omega) (by simp) ?_; intro v' w1 hown hg; have R : PutIn w w1 v' (0 + m) ([] ++ l) := ⟨hown, ((Below.refl _ _).alloc (Nat.le_refl _) _).grown hg (by simp) (own_block (own_empty w))⟩; clear hown hg))
    go_ret
    exact R.out
theorem step_append_row1 {P : Program} (w : World) {ops : Array Oper} {o : Oper} {a' : Act} {K : Act → World → Prop} {Q : Exit → Act → World → Prop} {E : Prop} (hgd : o.guard = none) (s x : Operand) (t : TypeId)
    (ho : o.op = .call { callee := .builtin .append, args := #[s, x], argTypes := #[t, t] })
    (base : Nat) (e : TypeId) (i : TypeInfo) (z : Value) (bytes : Nat) (ht : P.underlying t = some (.slice e)) (hi : P.info? e = some i) (hz : i.zero = some z)
    (hsize : i.size = 1) (hby : i.bytes = bytes) (hzs : z.cells.size = 1) (v : Value) (n : Nat) (xs : List Value) (hs : a'.eval s = v) (hown : w.ownsRow base e 1 v n xs)
    (a : Option Addr) (m c : Nat) (news : List Value) (hx : a'.eval x = .slice a m c) (hr : CellsAt w a m news) (h1 : ∀ u ∈ news, u.oneCell' = true)
    (h63 : n + m ≤ maxLen) (hlen : (n + m) * bytes ≤ 140737488355328) (hbase : base ≤ w.heap.size)
    (h : ∀ v' w', w'.ownsRow base e 1 v' (n + m) (xs ++ news) → w.grownBy w' v.ownBlock → (v'.ownBlock = v.ownBlock ∨ v'.ownBlock = some w.heap.size) → K (a'.put o.dst v') w') :
    if Region.wanted o (yielded ops a'.tmps) = true then Oper.wp P o a' w K Q else E := by
  have hw : Region.wanted o (yielded ops a'.tmps) = true := by simp [Region.wanted, hgd]
  rw [if_pos hw]
  obtain ⟨v', w', hrun, h2, h3, h4⟩ := run_append_row (P := P) w base t o.type e i z bytes ht hi hz hsize hby hzs v n xs hown a m c news hr h1 h63 hlen hbase
  unfold Oper.wp execOp
  simp only [ho, resolve, invoke, builtin, Sem.run_bind, Sem.run_pure, Result.andThen_ok, List.map_toArray, List.map_cons, List.map_nil, hs, hx, hrun]
  exact h v' w' h2 h3 h4
end Go.Proofs.YtcfmifongbapkaaGreatDoor

/- FrameSum -/
namespace Go.Proofs.YtcfmifongbapkaaGreatDoor

open Go.RowKit

theorem crcN_succ (k v : Nat) : crcN (k + 1) v = crcN k (crcStep v) := rfl
theorem sum_bits (v : Nat) (hv : v < 4294967296) : bits .and .u32 (v : Int) 1 = ((v % 2 : Nat) : Int) := by
  have := u32_and_nat v 1 hv (by omega)
  rw [nat_mask1] at this; exact this
theorem sum_over (v : Nat) (hv : v < 4294967296) : bits .xor .u32 ((v : Int) / 2) 3988292384 = ((v / 2 ^^^ 3988292384 : Nat) : Int) := u32_xor_nat (v / 2) 3988292384 (by omega) (by omega)
theorem sum_byte (v c : Nat) (hv : v < 4294967296) (hc : c < 256) : bits .xor .u32 (v : Int) (c : Int) = ((v ^^^ c : Nat) : Int) := u32_xor_nat v c hv (by omega)
theorem sum_last (v : Nat) (hv : v < 4294967296) : bits .xor .u32 (v : Int) 4294967295 = ((4294967295 - v : Nat) : Int) := by
  have := u32_xor_nat v 4294967295 hv (by omega)
  rw [all_turned v hv] at this; exact this

set_option maxHeartbeats 1000000 in
theorem shift_any (s : Nat) (w : World) (hs : s < 4294967296) :
    Calls Tryz.prog 140 #[.int .u32 s] w fun e w' => e = .returned (.int .u32 (crcN 8 s : Nat)) ∧ w = w' := by
  go_enter Tryz.func140, Tryz.ntmps140
  go_wp2
  go_loop [0, 4] (fun x i => ∃ (j v : Nat), j ≤ 8 ∧ i = .int .i64 j ∧ x = .int .u32 v ∧ v < 4294967296 ∧ crcN (8 - j) v = crcN 8 s) (fun _ i => 8 - (intOf i).toNat)
  case atStart => exact ⟨0, s, by omega, rfl, rfl, hs, rfl⟩
  case round =>
    obtain ⟨j, v, hj, rfl, rfl, hv, hc⟩ := hrel
    by_cases hlt : j < 8
    · have e1 : 8 - j = (8 - (j + 1)) + 1 := by omega
      rw [e1, crcN_succ] at hc
      have hst := crcStep_lt v hv
      have HC := Lib.hid hc
      clear hc e1
      have g1 := sum_bits v hv
      have g2 := sum_over v hv
      rcases Nat.mod_two_eq_zero_or_one v with h0 | h1
      · rw [h0] at g1
        have hx : crcStep v = v / 2 := by unfold crcStep; rw [if_neg (by omega)]
        rw [hx] at HC hst
        clear hx g2
        go_wp2
        go_round
        case rel => exact ⟨j + 1, v / 2, by omega, by go_num, by go_num, hst, HC.out⟩
        case measure => simp [intOf]; omega
      · rw [h1] at g1
        have hx : crcStep v = v / 2 ^^^ 3988292384 := by unfold crcStep; rw [if_pos h1]
        rw [hx] at HC hst
        clear hx
        generalize v / 2 ^^^ 3988292384 = u at *
        go_wp2
        go_round
        case rel => exact ⟨j + 1, u, by omega, by go_num, by go_num, hst, HC.out⟩
        case measure => simp [intOf]; omega
    · obtain rfl : j = 8 := by omega
      have HC := Lib.hid hc
      clear hc
      go_wp2
      go_ret
      exact ⟨by rw [← HC.out]; rfl, rfl⟩

set_option maxHeartbeats 1000000 in
theorem sum_any (B : Nat) (a : Option Addr) (n c : Nat) (l : List UInt8) (w : World) (h : BAt w B a n l) (hn : n ≤ maxLen) :
    Calls Tryz.prog 128 #[.slice a n c] w fun e w' => e = .returned (.int .u32 (sumB l : Nat)) ∧ w = w' := by
  unfold maxLen at hn
  go_enter Tryz.func128, Tryz.ntmps128
  go_wp2
  go_loop [3, 8] (fun x i => ∃ (k : Nat), k ≤ n ∧ i = .int .i64 k ∧ x = .int .u32 (crcAll 4294967295 (l.take k) : Nat)) (fun _ i => n - (intOf i).toNat)
  case atStart => exact ⟨0, by omega, rfl, rfl⟩
  case round =>
    obtain ⟨k, hk, rfl, rfl⟩ := hrel
    have hlen := h.len
    have hv := crcAll_lt 4294967295 (l.take k) (by omega)
    by_cases hlt : k < n
    · obtain ⟨b, off, rfl, _, hc⟩ := h.at_ (i := k) (by omega)
      have hS : crcAll 4294967295 (l.take (k + 1)) = crcN 8 (crcAll 4294967295 (l.take k) ^^^ (l[k]'(by omega)).toNat) := by
        rw [take_snoc _ _ (by omega), crcAll_snoc]; rfl
      have hb8 := (l[k]'(by omega)).toNat_lt
      have HS := Lib.hid hS
      clear hS
      generalize crcAll 4294967295 (l.take k) = v at *
      generalize (l[k]'(by omega)).toNat = d at *
      have g1 := sum_byte v d hv hb8
      have hx : v ^^^ d < 4294967296 := Nat.xor_lt_two_pow (n := 32) hv (by omega)
      generalize v ^^^ d = u at *
      clear h hlen
      go_wp2_with (go_at_call 140; ((with_reducible refine (shift_any u _ hx).mono ?_); rintro e w' ⟨rfl, rfl⟩))
      go_round
      case rel => exact ⟨k + 1, by omega, by go_num, by rw [HS.out]⟩
      case measure => simp [intOf]; omega
    · have e1 : l.take k = l := List.take_of_length_le (by omega)
      rw [e1] at hv ⊢
      have g := sum_last _ hv
      have HS : Hid (sumB l = 4294967295 - crcAll 4294967295 l) := rfl
      generalize crcAll 4294967295 l = v at *
      clear h hlen e1
      go_wp2
      go_ret
      exact ⟨by rw [HS.out]; rfl, rfl⟩

set_option maxHeartbeats 1000000 in
theorem refSum_any (B : Nat) (a : Option Addr) (n c : Nat) (l : List UInt8) (w : World) (h : BAt w B a n l) (hn : n ≤ maxLen) :
    Calls Tryz.prog 138 #[.slice a n c] w fun e w' => e = .returned (.int .u32 (sumB l : Nat)) ∧ w = w' := by
  unfold maxLen at hn
  go_enter Tryz.func138, Tryz.ntmps138
  go_wp2
  go_loop [3, 4] (fun x i => ∃ (k : Nat), k ≤ n ∧ i = .int .i64 k ∧ x = .int .u32 (crcAll 4294967295 (l.take k) : Nat)) (fun _ i => n - (intOf i).toNat)
  case atStart => exact ⟨0, by omega, rfl, rfl⟩
  case round =>
    obtain ⟨k, hk, rfl, rfl⟩ := hrel
    have hlen := h.len
    have hv := crcAll_lt 4294967295 (l.take k) (by omega)
    by_cases hlt : k < n
    · obtain ⟨b, off, rfl, _, hc⟩ := h.at_ (i := k) (by omega)
      have hS : crcAll 4294967295 (l.take (k + 1)) = crcN 8 (crcAll 4294967295 (l.take k) ^^^ (l[k]'(by omega)).toNat) := by
        rw [take_snoc _ _ (by omega), crcAll_snoc]; rfl
      have hb8 := (l[k]'(by omega)).toNat_lt
      have HS := Lib.hid hS
      clear hS
      generalize crcAll 4294967295 (l.take k) = v at *
      generalize (l[k]'(by omega)).toNat = d at *
      have g1 := sum_byte v d hv hb8
      have hx : v ^^^ d < 4294967296 := Nat.xor_lt_two_pow (n := 32) hv (by omega)
      generalize v ^^^ d = s at *
      clear h hlen
      go_wp2
      clear g1
      go_loop [3, 5] (fun x i => ∃ (j v : Nat), j ≤ 8 ∧ i = .int .i64 j ∧ x = .int .u32 v ∧ v < 4294967296 ∧ crcN (8 - j) v = crcN 8 s) (fun _ i => 8 - (intOf i).toNat)
      case atStart => exact ⟨0, s, by omega, rfl, rfl, hx, rfl⟩
      case round =>
        obtain ⟨j, v, hj, rfl, rfl, hv, hc⟩ := hrel
        by_cases hlt : j < 8
        · have e1 : 8 - j = (8 - (j + 1)) + 1 := by omega
          rw [e1, crcN_succ] at hc
          have hst := crcStep_lt v hv
          have HC := Lib.hid hc
          clear hc e1
          have g2 := sum_over v hv
          rcases Nat.mod_two_eq_zero_or_one v with h0 | h1
          · have g1 : (v : Int) % 2 = 0 := by omega
            have hx : crcStep v = v / 2 := by unfold crcStep; rw [if_neg (by omega)]
            rw [hx] at HC hst
            clear hx g2 h0
            go_wp2
            go_round
            case rel => exact ⟨j + 1, v / 2, by omega, by go_num, by go_num, hst, HC.out⟩
            case measure => simp [intOf]; omega
          · have g1 : (v : Int) % 2 = 1 := by omega
            have hx : crcStep v = v / 2 ^^^ 3988292384 := by unfold crcStep; rw [if_pos h1]
            rw [hx] at HC hst
            clear hx h1
            generalize v / 2 ^^^ 3988292384 = u at *
            go_wp2
            go_round
            case rel => exact ⟨j + 1, u, by omega, by go_num, by go_num, hst, HC.out⟩
            case measure => simp [intOf]; omega
        · obtain rfl : j = 8 := by omega
          have hc' : v = crcN 8 s := hc
          subst hc'
          clear hc
          go_wp2
          go_round
          case rel => exact ⟨k + 1, by omega, by go_num, by rw [HS.out]⟩
          case measure => simp [intOf]; omega
    · have e1 : l.take k = l := List.take_of_length_le (by omega)
      rw [e1] at hv ⊢
      have HS : Hid (sumB l = 4294967295 - crcAll 4294967295 l) := rfl
      generalize crcAll 4294967295 l = v at *
      clear h hlen e1
      go_wp2
      go_ret
      exact ⟨by rw [HS.out]; go_num, rfl⟩
end Go.Proofs.YtcfmifongbapkaaGreatDoor

/- FrameWrap -/
namespace Go.Proofs.YtcfmifongbapkaaGreatDoor

open Go.RowKit

theorem held4 : held 4 = 4 := by decide
theorem sumB_lt' (l : List UInt8) : sumB l < 4294967296 := sumB_lt l

/-- New memory that holds the bytes l is answered, and OK. -/
def NewB2 (w : World) (l : List UInt8) (e : Ending) (w' : World) : Prop :=
  ∃ a n c, e = .returned (.tuple #[.slice a n c, .int .i64 0]) ∧ w'.ownsRow w.heap.size 5 1 (.slice a n c) n (bcells l) ∧ Below w.heap.size w w'
theorem PutIn.out2 {w wr : World} {v : Value} {n : Nat} {l : List UInt8} (h : PutIn w wr v n l) : NewB2 w l (.returned (.tuple #[v, .int .i64 0])) wr := by
  obtain ⟨a, c, rfl, _⟩ := own_form h.1
  exact ⟨a, n, c, rfl, h.1, h.2⟩

set_option maxHeartbeats 1000000 in
theorem wrap_yes (a : Option Addr) (m c : Nat) (l : List UInt8) (w : World) (hl : BAt w w.heap.size a m l) (hm : m ≤ 60000) :
    Calls Tryz.prog 100 #[.slice a m c] w (NewB2 w (frameB l)) := by
  obtain ⟨i0, hi, hz0, hz1, hz2⟩ := info_parts Tryz.info5
  have hlen := hl.len
  have hF : Hid (frameB l = ([] ++ putB m (held 4)) ++ putB (sumB l) (held 4) ++ l) := by rw [← hlen]; rfl
  have hs := sumB_lt' l
  have HL := Lib.hid hlen
  clear hlen
  have hd : decide ((60000 : Int) < (m : Int)) = false := by simp; omega
  go_enter Tryz.func100, Tryz.ntmps100
  go_wp2_with (first | (go_at_call 34; ((with_reducible refine (put_any none 0 0 m 4 [] _ BAt.nil (by omega) (by omega)).mono ?_); rintro e w1 ⟨a1, n1, c1, rfl, ho1, hb1⟩; have hn1 := own_len ho1; have hn1' : n1 = 4 := hn1.symm.trans (by rw [List.nil_append, putB_len, held4]); subst hn1'; clear hn1; have hl1 : BAt w1 w.heap.size a m l := hl.below hb1 (Nat.le_refl _))) | (go_at_call 128; ((with_reducible refine (sum_any w.heap.size a m c l _ hl1 (by unfold maxLen; omega)).mono ?_); rintro e w' ⟨rfl, rfl⟩)) | (go_at_call 34; ((with_reducible refine (put_any a1 4 c1 (sumB l) 4 _ _ (BAt.of_own ho1) (by omega) (by omega)).mono ?_); rintro e w2 ⟨a2, n2, c2, rfl, ho2, hb2⟩; have hn2 := own_len ho2; have hn2' : n2 = 8 := hn2.symm.trans (by rw [List.nil_append, List.length_append, putB_len, putB_len, held4]); subst hn2'; clear hn2; have hB2 : Below w.heap.size w w2 := hb1.trans (hb2.mono hb1.size))) | (at_builtin; (refine wpList_append_bytes _ rfl _ _ 34 rfl w.heap.size 5 i0 Tryz.underlying34 hi hz0 hz1 hz2 _ 8 _ rfl (own_base ho2 hb1.size) w.heap.size a m l c rfl (hl.below hB2 (Nat.le_refl _)) (by omega) hB2.size ?_; intro v3 w3 ho3 hg3; have R : PutIn w w3 v3 _ _ := PutIn.next0 ⟨own_base ho2 hb1.size, hB2⟩ ho3 hg3; clear ho3 hg3)))
  go_ret2
  rw [hF.out]
  exact R.out2
theorem wrap_no (a : Option Addr) (m c : Nat) (w : World) (hm : 60000 < m) (hn : m ≤ maxLen) :
    Calls Tryz.prog 100 #[.slice a m c] w fun e w' => e = .returned (.tuple #[.slice none 0 0, .int .i64 3]) ∧ w = w' := by
  unfold maxLen at hn
  have hd : decide ((60000 : Int) < (m : Int)) = true := by simp; omega
  go_enter Tryz.func100, Tryz.ntmps100
  go_wp2
  go_ret2
  exact ⟨rfl, rfl⟩

set_option maxHeartbeats 1000000 in
theorem refWrap_yes (a : Option Addr) (m c : Nat) (l : List UInt8) (w : World) (hl : BAt w w.heap.size a m l) (hm : m ≤ 60000) :
    Calls Tryz.prog 126 #[.slice a m c] w (NewB2 w (frameB l)) := by
  obtain ⟨i0, hi, hz0, hz1, hz2⟩ := info_parts Tryz.info5
  have hlen := hl.len
  have hF : Hid (frameB l = ([] ++ putB m (held 4)) ++ putB (sumB l) (held 4) ++ l) := by rw [← hlen]; rfl
  have hs := sumB_lt' l
  have HL := Lib.hid hlen
  clear hlen
  have hd : decide ((60000 : Int) < (m : Int)) = false := by simp; omega
  go_enter Tryz.func126, Tryz.ntmps126
  go_wp2_with (first | (go_at_call 40; ((with_reducible refine (refPut_any none 0 0 m 4 [] _ BAt.nil (by omega) (by omega) (by omega) (by omega)).mono ?_); rintro e w1 ⟨a1, n1, c1, rfl, ho1, hb1⟩; have hn1 := own_len ho1; have hn1' : n1 = 4 := hn1.symm.trans (by rw [List.nil_append, putB_len, held4]); subst hn1'; clear hn1; have hl1 : BAt w1 w.heap.size a m l := hl.below hb1 (Nat.le_refl _))) | (go_at_call 138; ((with_reducible refine (refSum_any w.heap.size a m c l _ hl1 (by unfold maxLen; omega)).mono ?_); rintro e w' ⟨rfl, rfl⟩)) | (go_at_call 40; ((with_reducible refine (refPut_any a1 4 c1 (sumB l) 4 _ _ (BAt.of_own ho1) (by omega) (by omega) (by omega) (by omega)).mono ?_); rintro e w2 ⟨a2, n2, c2, rfl, ho2, hb2⟩; have hn2 := own_len ho2; have hn2' : n2 = 8 := hn2.symm.trans (by rw [List.nil_append, List.length_append, putB_len, putB_len, held4]); subst hn2'; clear hn2; have hB2 : Below w.heap.size w w2 := hb1.trans (hb2.mono hb1.size))) | (at_builtin; (refine wpList_append_bytes _ rfl _ _ 34 rfl w.heap.size 5 i0 Tryz.underlying34 hi hz0 hz1 hz2 _ 8 _ rfl (own_base ho2 hb1.size) w.heap.size a m l c rfl (hl.below hB2 (Nat.le_refl _)) (by omega) hB2.size ?_; intro v3 w3 ho3 hg3; have R : PutIn w w3 v3 _ _ := PutIn.next0 ⟨own_base ho2 hb1.size, hB2⟩ ho3 hg3; clear ho3 hg3)))
  go_ret2
  rw [hF.out]
  exact R.out2
theorem refWrap_no (a : Option Addr) (m c : Nat) (w : World) (hm : 60000 < m) (hn : m ≤ maxLen) :
    Calls Tryz.prog 126 #[.slice a m c] w fun e w' => e = .returned (.tuple #[.slice none 0 0, .int .i64 3]) ∧ w = w' := by
  unfold maxLen at hn
  have hd : decide ((60000 : Int) < (m : Int)) = true := by simp; omega
  go_enter Tryz.func126, Tryz.ntmps126
  go_wp2
  go_ret2
  exact ⟨rfl, rfl⟩

theorem sum_nine (w : World) (t : TypeId) (fr : Nat × Nat) : Calls Tryz.prog 128 #[.slice (some ⟨w.heap.size, 0, none⟩) 9 9] (w.alloc (.cells #[.int .u8 49, .int .u8 50, .int .u8 51, .int .u8 52, .int .u8 53, .int .u8 54, .int .u8 55, .int .u8 56, .int .u8 57] t fr))
    fun e w' => e = .returned (.int .u32 3421780262) ∧ w.alloc (.cells #[.int .u8 49, .int .u8 50, .int .u8 51, .int .u8 52, .int .u8 53, .int .u8 54, .int .u8 55, .int .u8 56, .int .u8 57] t fr) = w' := by
  have h := sum_any _ _ 9 9 _ _ (BAt.made w [49, 50, 51, 52, 53, 54, 55, 56, 57] _ t fr rfl) (by unfold maxLen; omega)
  have e : sumB [49, 50, 51, 52, 53, 54, 55, 56, 57] = 3421780262 := by decide +kernel
  rw [e] at h
  exact h
end Go.Proofs.YtcfmifongbapkaaGreatDoor
