/- Contracts of message.putFlag, putVote and putField. Conditions: what they are handed lies in memory; the field is well; the tables of utf8 lie there. Contract of message.Write. Conditions: the message's lists lie in memory, and are no longer than a million; the tables of utf8 lie there. -/
import Derived.Test.YtcgfhjkdgpgheaaDoorGT
import Derived.Test.YtcgfhjkdgpgheaaDoorHA
import Derived.Test.YtcgfhjkdgpgheaaDoorGZ
import Derived.Test.YtcgfhjkdgpgheaaDoorMessageLoad
import Derived.Deep.RegionHeld3
import Derived.Test.YtcgfhjkdgpgheaaDoorGU
/- MessagePut -/
namespace Go.Proofs.YtcgfhjkdgpgheaaDoor

open Go.RowKit

set_option linter.unusedVariables false

theorem bal_put (r : Nat) (n : Int) (hn : formB n = true) : balB r n = balBytes (((r : Nat) : Int), n) := by
  have h : 0 ≤ n ∧ n < 5 := by simpa [formB] using hn
  unfold balB balBytes
  show putB r 4 ++ _ = putB ((r : Nat) : Int).toNat 4 ++ putB n.toNat 1
  have e : (n % 256).toNat = n.toNat := by omega
  rw [Int.toNat_natCast, put_one, e]
theorem putI_any (a : Option Addr) (m c : Nat) (x : Int) (k : Int) (l : List UInt8) (w : World) (hl : BAt w w.heap.size a m l) (hlen : m ≤ 1099511627776) (h0 : 0 ≤ x) (hx : x < 18446744073709551616) :
    Calls Tryd.prog 37 #[.slice a m c, .int .u64 (IntKind.u64.wrap x), .int .i64 k] w (NewB w (l ++ putB x.toNat (held k))) := by
  have e : IntKind.u64.wrap x = ((x.toNat : Nat) : Int) := by rw [IntKind.wrap_u64]; omega
  rw [e]
  exact put_any a m c x.toNat k l w hl hlen (by omega)
/-- As the walk spells it where the number's bounds are at hand. -/
theorem putM_any (a : Option Addr) (m c : Nat) (x : Int) (k : Int) (l : List UInt8) (w : World) (hl : BAt w w.heap.size a m l) (hlen : m ≤ 1099511627776) (h0 : 0 ≤ x) (hx : x < 18446744073709551616) :
    Calls Tryd.prog 37 #[.slice a m c, .int .u64 x, .int .i64 k] w (NewB w (l ++ putB x.toNat (held k))) := by
  have h := put_any a m c x.toNat k l w hl hlen (by omega)
  rw [Int.toNat_of_nonneg h0] at h
  exact h
/-- Append of bytes at a step of a region that draws its order. -/
theorem step_append_bytes {P : Program} (w : World) {ops : Array Oper} {o : Oper} {a' : Act} {K : Act → World → Prop} {Q : Exit → Act → World → Prop} {E : Prop} (hgd : o.guard = none) (s x : Operand) (t : TypeId)
    (ho : o.op = .call { callee := .builtin .append, args := #[s, x], argTypes := #[t, t] })
    (base : Nat) (e : TypeId) (i : TypeInfo) (ht : P.underlying t = some (.slice e)) (hi : P.info? e = some i) (hz : i.zero = some (.int .u8 0))
    (hsize : i.size = 1) (hby : i.bytes = 1) (v : Value) (n : Nat) (l : List UInt8) (hs : a'.eval s = v) (hown : w.ownsRow base e 1 v n (bcells l))
    (B : Nat) (a : Option Addr) (m : Nat) (news : List UInt8) (c : Nat) (hx : a'.eval x = .slice a m c) (hr : BAt w B a m news)
    (hlen : n + m ≤ 140737488355328) (hbase : base ≤ w.heap.size)
    (h : ∀ v' w', w'.ownsRow base e 1 v' (n + m) (bcells (l ++ news)) → w.grownBy w' v.ownBlock → K (a'.put o.dst v') w') :
    if Region.wanted o (yielded ops a'.tmps) = true then Oper.wp P o a' w K Q else E := by
  have hw : Region.wanted o (yielded ops a'.tmps) = true := by simp [Region.wanted, hgd]
  rw [if_pos hw]
  obtain ⟨v', w', hrun, h2, h3⟩ := run_append_bytes (P := P) w base t o.type e i ht hi hz hsize hby v n l hown B a m news c hr hlen hbase
  unfold Oper.wp execOp
  simp only [ho, resolve, invoke, builtin, Sem.run_bind, Sem.run_pure, Result.andThen_ok, List.map_toArray, List.map_cons, List.map_nil, hs, hx, hrun]
  exact h v' w' h2 h3
set_option maxRecDepth 100000 in
set_option maxHeartbeats 1000000 in
theorem gFlag_any (pa : Option Addr) (pk pc : Nat) (l : List UInt8) (y : Bool) (w : World) (hl : BAt w w.heap.size pa pk l) (hpk : pk ≤ 1099511000000) :
    Calls Tryd.prog 74 #[.slice pa pk pc, .bool y] w (NewB w (l ++ putB (yesN y) 1)) := by
  have c0 : Calls Tryd.prog 37 #[.slice pa pk pc, .int .u64 0, .int .i64 1] w (NewB w (l ++ putB 0 1)) := put_any pa pk pc 0 1 l w hl (by omega) (by omega)
  have c1 : Calls Tryd.prog 37 #[.slice pa pk pc, .int .u64 1, .int .i64 1] w (NewB w (l ++ putB 1 1)) := put_any pa pk pc 1 1 l w hl (by omega) (by omega)
  clear hl
  cases y
  · clear c1
    go_enter Tryd.func74, Tryd.ntmps74
    go_wp2_with (go_at_call 37; ((with_reducible refine c0.mono ?_); intro e w1 h1; have N1 := Lib.hid h1; obtain ⟨a1, n1, c1, rfl, ho1, hb1⟩ := h1))
    go_ret
    exact N1.out
  · clear c0
    go_enter Tryd.func74, Tryd.ntmps74
    go_wp2_with (go_at_call 37; ((with_reducible refine c1.mono ?_); intro e w1 h1; have N1 := Lib.hid h1; obtain ⟨a1, n1, c2, rfl, ho1, hb1⟩ := h1))
    go_ret
    exact N1.out
/-- What a vote's bytes are; what a field's bytes are. -/
noncomputable def voteBytes (x : MgM) (L : MgL) : List UInt8 := putB (yesN x.has) 1 ++ (if x.has then balBytes (((x.vr : Nat) : Int), x.vn) ++ cmB (cmT x.cm L.rs L.ws) else [])
noncomputable def putF (x : MgM) (L : MgL) (c : Nat) : List UInt8 :=
  if c = 98 then balBytes (((x.br : Nat) : Int), x.bn) else if c = 115 then putB x.sl.toNat 4 else if c = 104 then voteBytes x L
  else if c = 99 then cmB (cmT x.cm L.rs L.ws) else if c = 116 then txnB bytesV (txT (x.s, x.q) L.rt L.wt) else if c = 105 then idBytes (x.i, x.j)
  else if c = 103 then putB x.g.toNat 1 else if c = 112 then putB x.st 8 else if c = 121 then putB (yesN x.y) 1 else if c = 110 then putB x.nu.toNat 4
  else if c = 107 then textB x.key.data.toList else if c = 118 then putB x.ver 8 else if c = 120 then bytesV ⟨x.vk, x.vb, x.vt.data.toList⟩
  else if c = 101 then putB x.er.toNat 1 else if c = 100 then dataB L.dl else []
set_option maxRecDepth 100000 in
set_option maxHeartbeats 4000000 in
theorem gVote_any (pa : Option Addr) (pk pc : Nat) (l : List UInt8) (x : MgM) (L : MgL) (w : World) (hl : BAt w w.heap.size pa pk l) (hpk : pk ≤ 1099000000000) (h : MgAt w x L) (hf : MgF x) (hU : Tabs w) (hv : voteB x L = true) :
    Calls Tryd.prog 70 #[.slice pa pk pc, .agg (mgV x)] w (NewB w (l ++ voteBytes x L)) := by
  have H0 := Lib.hid ((Boxs.start w).more (mgV x) 39)
  have c0 := fun W (hW : Below w.heap.size w W) => gFlag_any pa pk pc l x.has W ((hl.below hW (Nat.le_refl _)).more hW.size) (by omega)
  have hll := hl.len
  unfold voteB at hv
  unfold voteBytes
  cases hh : x.has
  · rw [hh] at c0
    rw [if_neg (by decide), List.append_nil]
    have x4 : (w.alloc (.cells (mgV x) 39)).cell? ⟨w.heap.size, 4, none⟩ = some (.bool x.has) := (H0.out.get 0 _ _ _ rfl).cell 4 _ rfl
    rw [hh] at x4
    clear h hf hU hl hv hll
    go_enter Tryd.func70, Tryd.ntmps70
    go_wp2_with (go_at_call 74; ((with_reducible refine (c0 _ H0.out.bel).mono ?_); intro e w1 h1; have N1 := Lib.hid (NewB.on h1 H0.out.bel); obtain ⟨a1, n1, c1, rfl, ho1, hb1⟩ := h1; have H1 := Lib.hid (H0.out.below hb1); clear x4; have x4 : w1.cell? ⟨w.heap.size, 4, none⟩ = some (.bool x.has) := (H1.out.get 0 _ _ _ rfl).cell 4 _ rfl; rw [hh] at x4))
    go_ret
    exact N1.out
  · rw [hh] at c0
    rw [if_pos hh, Bool.and_eq_true] at hv
    obtain ⟨hb, hc⟩ := hv
    rw [if_pos rfl, ← List.append_assoc, ← List.append_assoc]
    have HM : Hid (∀ z : Nat, (l ++ putB (yesN true) 1).length = z → z ≤ 1099000000001) := fun z hz => by rw [List.length_append, putB_len] at hz; omega
    have HM2 : Hid (∀ z : Nat, ((l ++ putB (yesN true) 1) ++ balBytes (((x.vr : Nat) : Int), x.vn)).length = z → z ≤ 1099000000006) := fun z hz => by
      unfold balBytes at hz
      rw [List.length_append, List.length_append, List.length_append, putB_len, putB_len, putB_len] at hz; omega
    have cB : ∀ a1 n1 c1 L1 W, BAt W W.heap.size a1 n1 L1 → n1 ≤ 1099000000001 → Calls Tryd.prog 69 #[.slice a1 n1 c1, .agg #[.int .u32 ((x.vr : Nat) : Int), .int .i64 x.vn]] W (NewB W (L1 ++ balBytes (((x.vr : Nat) : Int), x.vn))) := fun a1 n1 c1 L1 W h1 h2 => by
      have h3 := bPut_any a1 n1 c1 x.vr x.vn L1 W h1 (by omega) h.nb.vr
      rw [bal_put _ _ hb] at h3; exact h3
    have cC : ∀ a1 n1 c1 L1 W, Below w.heap.size w W → BAt W W.heap.size a1 n1 L1 → n1 ≤ 1099000000006 → Calls Tryd.prog 71 #[.slice a1 n1 c1, .agg (cmV x.cm)] W (NewB W (L1 ++ cmB (cmT x.cm L.rs L.ws))) := fun a1 n1 c1 L1 W hW h1 h2 => by
      have h3 := kPut_any a1 n1 c1 L1 x.cm L.rs L.ws W h1 (by omega) (h.cm.later hW) hf.n hf.m (hU.below hW)
      unfold putC at h3
      rw [if_pos hc] at h3; exact h3
    have x4 : (w.alloc (.cells (mgV x) 39)).cell? ⟨w.heap.size, 4, none⟩ = some (.bool x.has) := (H0.out.get 0 _ _ _ rfl).cell 4 _ rfl
    rw [hh] at x4
    generalize balBytes (((x.vr : Nat) : Int), x.vn) = K2 at *
    generalize cmB (cmT x.cm L.rs L.ws) = K3 at *
    clear h hf hU hl hb hc hll
    go_enter Tryd.func70, Tryd.ntmps70
    go_upto_region 4 with (go_at_call 74; ((with_reducible refine (c0 _ H0.out.bel).mono ?_); intro e w1 h1; obtain ⟨a1, n1, c1, rfl, ho1, hb1⟩ := h1; have H1 := Lib.hid (H0.out.below hb1); clear x4; have x4 : w1.cell? ⟨w.heap.size, 4, none⟩ = some (.bool x.has) := (H1.out.get 0 _ _ _ rfl).cell 4 _ rfl; rw [hh] at x4))
    clear x4
    have hn1 : n1 ≤ 1099000000001 := HM.out _ (own_len ho1)
    have X0 := Lib.hid H1.out.drew
    have L0 : Hid (BAt w1.drew w1.drew.heap.size a1 n1 (l ++ putB (yesN true) 1)) := BAt.of_own (own_below ho1 (below_drewN 1 (Below.refl _ _)))
    have s0 : (w1.drew.cell? ⟨w.heap.size, 4, none⟩ = some (.bool x.has) ∧ w1.drew.cell? ⟨w.heap.size, 5, none⟩ = some (.int .u32 ((x.vr : Nat) : Int)) ∧ w1.drew.cell? ⟨w.heap.size, 6, none⟩ = some (.int .i64 x.vn) ∧ w1.drew.cell? ⟨w.heap.size, 7, none⟩ = some (.int .i64 x.cm.k) ∧ w1.drew.cell? ⟨w.heap.size, 8, none⟩ = some (.int .i64 x.cm.s) ∧ w1.drew.cell? ⟨w.heap.size, 9, none⟩ = some (.int .i64 x.cm.q) ∧ w1.drew.cell? ⟨w.heap.size, 10, none⟩ = some (.slice x.cm.a x.cm.n x.cm.c) ∧ w1.drew.cell? ⟨w.heap.size, 11, none⟩ = some (.slice x.cm.b x.cm.m x.cm.d) ∧ w1.drew.cell? ⟨w.heap.size, 12, none⟩ = some (.int .i64 x.cm.i) ∧ w1.drew.cell? ⟨w.heap.size, 13, none⟩ = some (.int .i64 x.cm.j) ∧ w1.drew.cell? ⟨w.heap.size, 14, none⟩ = some (.int .i64 x.cm.g) ∧ w1.drew.cell? ⟨w.heap.size, 15, none⟩ = some (.int .u64 ((x.cm.st : Nat) : Int)) ∧ w1.drew.cell? ⟨w.heap.size, 16, none⟩ = some (.bool x.cm.y)) := ⟨(X0.out.get 0 _ _ _ rfl).cell 4 _ rfl, (X0.out.get 0 _ _ _ rfl).cell 5 _ rfl, (X0.out.get 0 _ _ _ rfl).cell 6 _ rfl, (X0.out.get 0 _ _ _ rfl).cell 7 _ rfl, (X0.out.get 0 _ _ _ rfl).cell 8 _ rfl, (X0.out.get 0 _ _ _ rfl).cell 9 _ rfl, (X0.out.get 0 _ _ _ rfl).cell 10 _ rfl, (X0.out.get 0 _ _ _ rfl).cell 11 _ rfl, (X0.out.get 0 _ _ _ rfl).cell 12 _ rfl, (X0.out.get 0 _ _ _ rfl).cell 13 _ rfl, (X0.out.get 0 _ _ _ rfl).cell 14 _ rfl, (X0.out.get 0 _ _ _ rfl).cell 15 _ rfl, (X0.out.get 0 _ _ _ rfl).cell 16 _ rfl⟩
    clear H1 ho1 hb1
    go_region_held3 (fun W => (W.cell? ⟨w.heap.size, 4, none⟩ = some (.bool x.has) ∧ W.cell? ⟨w.heap.size, 5, none⟩ = some (.int .u32 ((x.vr : Nat) : Int)) ∧ W.cell? ⟨w.heap.size, 6, none⟩ = some (.int .i64 x.vn) ∧ W.cell? ⟨w.heap.size, 7, none⟩ = some (.int .i64 x.cm.k) ∧ W.cell? ⟨w.heap.size, 8, none⟩ = some (.int .i64 x.cm.s) ∧ W.cell? ⟨w.heap.size, 9, none⟩ = some (.int .i64 x.cm.q) ∧ W.cell? ⟨w.heap.size, 10, none⟩ = some (.slice x.cm.a x.cm.n x.cm.c) ∧ W.cell? ⟨w.heap.size, 11, none⟩ = some (.slice x.cm.b x.cm.m x.cm.d) ∧ W.cell? ⟨w.heap.size, 12, none⟩ = some (.int .i64 x.cm.i) ∧ W.cell? ⟨w.heap.size, 13, none⟩ = some (.int .i64 x.cm.j) ∧ W.cell? ⟨w.heap.size, 14, none⟩ = some (.int .i64 x.cm.g) ∧ W.cell? ⟨w.heap.size, 15, none⟩ = some (.int .u64 ((x.cm.st : Nat) : Int)) ∧ W.cell? ⟨w.heap.size, 16, none⟩ = some (.bool x.cm.y))) (first | (with_reducible exact s0) | (with_reducible exact s1) | (with_reducible exact s2))
      (first | (go_at_call 69; ((with_reducible refine (cB a1 n1 c1 _ _ L0.out hn1).mono ?_); rintro e v4 ⟨a4, n4, c4, rfl, ho4, hb4⟩; have X4 := Lib.hid (X0.out.below hb4); have s1 : (v4.cell? ⟨w.heap.size, 4, none⟩ = some (.bool x.has) ∧ v4.cell? ⟨w.heap.size, 5, none⟩ = some (.int .u32 ((x.vr : Nat) : Int)) ∧ v4.cell? ⟨w.heap.size, 6, none⟩ = some (.int .i64 x.vn) ∧ v4.cell? ⟨w.heap.size, 7, none⟩ = some (.int .i64 x.cm.k) ∧ v4.cell? ⟨w.heap.size, 8, none⟩ = some (.int .i64 x.cm.s) ∧ v4.cell? ⟨w.heap.size, 9, none⟩ = some (.int .i64 x.cm.q) ∧ v4.cell? ⟨w.heap.size, 10, none⟩ = some (.slice x.cm.a x.cm.n x.cm.c) ∧ v4.cell? ⟨w.heap.size, 11, none⟩ = some (.slice x.cm.b x.cm.m x.cm.d) ∧ v4.cell? ⟨w.heap.size, 12, none⟩ = some (.int .i64 x.cm.i) ∧ v4.cell? ⟨w.heap.size, 13, none⟩ = some (.int .i64 x.cm.j) ∧ v4.cell? ⟨w.heap.size, 14, none⟩ = some (.int .i64 x.cm.g) ∧ v4.cell? ⟨w.heap.size, 15, none⟩ = some (.int .u64 ((x.cm.st : Nat) : Int)) ∧ v4.cell? ⟨w.heap.size, 16, none⟩ = some (.bool x.cm.y)) := ⟨(X4.out.get 0 _ _ _ rfl).cell 4 _ rfl, (X4.out.get 0 _ _ _ rfl).cell 5 _ rfl, (X4.out.get 0 _ _ _ rfl).cell 6 _ rfl, (X4.out.get 0 _ _ _ rfl).cell 7 _ rfl, (X4.out.get 0 _ _ _ rfl).cell 8 _ rfl, (X4.out.get 0 _ _ _ rfl).cell 9 _ rfl, (X4.out.get 0 _ _ _ rfl).cell 10 _ rfl, (X4.out.get 0 _ _ _ rfl).cell 11 _ rfl, (X4.out.get 0 _ _ _ rfl).cell 12 _ rfl, (X4.out.get 0 _ _ _ rfl).cell 13 _ rfl, (X4.out.get 0 _ _ _ rfl).cell 14 _ rfl, (X4.out.get 0 _ _ _ rfl).cell 15 _ rfl, (X4.out.get 0 _ _ _ rfl).cell 16 _ rfl⟩; have L4 := Lib.hid (BAt.of_own ho4); have hn4 := HM2.out _ (own_len ho4))) | (go_at_call 71; ((with_reducible refine (cC a4 n4 c4 _ _ X4.out.bel L4.out hn4).mono ?_); intro e v5 h5; have N5 := Lib.hid (NewB.on h5 X4.out.bel); obtain ⟨a5, n5, c5, rfl, ho5, hb5⟩ := h5; have X5 := Lib.hid (X4.out.below hb5); have s2 : (v5.cell? ⟨w.heap.size, 4, none⟩ = some (.bool x.has) ∧ v5.cell? ⟨w.heap.size, 5, none⟩ = some (.int .u32 ((x.vr : Nat) : Int)) ∧ v5.cell? ⟨w.heap.size, 6, none⟩ = some (.int .i64 x.vn) ∧ v5.cell? ⟨w.heap.size, 7, none⟩ = some (.int .i64 x.cm.k) ∧ v5.cell? ⟨w.heap.size, 8, none⟩ = some (.int .i64 x.cm.s) ∧ v5.cell? ⟨w.heap.size, 9, none⟩ = some (.int .i64 x.cm.q) ∧ v5.cell? ⟨w.heap.size, 10, none⟩ = some (.slice x.cm.a x.cm.n x.cm.c) ∧ v5.cell? ⟨w.heap.size, 11, none⟩ = some (.slice x.cm.b x.cm.m x.cm.d) ∧ v5.cell? ⟨w.heap.size, 12, none⟩ = some (.int .i64 x.cm.i) ∧ v5.cell? ⟨w.heap.size, 13, none⟩ = some (.int .i64 x.cm.j) ∧ v5.cell? ⟨w.heap.size, 14, none⟩ = some (.int .i64 x.cm.g) ∧ v5.cell? ⟨w.heap.size, 15, none⟩ = some (.int .u64 ((x.cm.st : Nat) : Int)) ∧ v5.cell? ⟨w.heap.size, 16, none⟩ = some (.bool x.cm.y)) := ⟨(X5.out.get 0 _ _ _ rfl).cell 4 _ rfl, (X5.out.get 0 _ _ _ rfl).cell 5 _ rfl, (X5.out.get 0 _ _ _ rfl).cell 6 _ rfl, (X5.out.get 0 _ _ _ rfl).cell 7 _ rfl, (X5.out.get 0 _ _ _ rfl).cell 8 _ rfl, (X5.out.get 0 _ _ _ rfl).cell 9 _ rfl, (X5.out.get 0 _ _ _ rfl).cell 10 _ rfl, (X5.out.get 0 _ _ _ rfl).cell 11 _ rfl, (X5.out.get 0 _ _ _ rfl).cell 12 _ rfl, (X5.out.get 0 _ _ _ rfl).cell 13 _ rfl, (X5.out.get 0 _ _ _ rfl).cell 14 _ rfl, (X5.out.get 0 _ _ _ rfl).cell 15 _ rfl, (X5.out.get 0 _ _ _ rfl).cell 16 _ rfl⟩)))
    go_wp2
    go_ret
    exact N5.out
set_option maxRecDepth 100000 in
set_option maxHeartbeats 2000000 in
theorem put_b (pa : Option Addr) (pk pc : Nat) (l : List UInt8) (x : MgM) (L : MgL) (w : World) (hl : BAt w w.heap.size pa pk l) (hpk : pk ≤ 1099000000000) (h : MgAt w x L) (hb : formB x.bn = true) :
    Calls Tryd.prog 38 #[.slice pa pk pc, .agg (mgV x), .int .i32 98] w (NewB w (l ++ putF x L 98)) := by
  have H0 := Lib.hid ((Boxs.start w).more (mgV x) 39)
  have cP : ∀ W, Below w.heap.size w W → Calls Tryd.prog 69 #[.slice pa pk pc, .agg #[.int .u32 ((x.br : Nat) : Int), .int .i64 x.bn]] W (NewB W (l ++ balBytes (((x.br : Nat) : Int), x.bn))) := fun W hW => by
    have h3 := bPut_any pa pk pc x.br x.bn l W ((hl.below hW (Nat.le_refl _)).more hW.size) (by omega) h.nb.br
    rw [bal_put _ _ hb] at h3; exact h3
  show Calls _ _ _ _ (NewB w (l ++ balBytes (((x.br : Nat) : Int), x.bn)))
  have x1 := (H0.out.get 0 _ _ _ rfl).cell 1 _ rfl; have x2 := (H0.out.get 0 _ _ _ rfl).cell 2 _ rfl
  clear hl h hb
  go_enter Tryd.func38, Tryd.ntmps38
  go_wp2_with (go_at_call 69; ((with_reducible refine (cP _ H0.out.bel).mono ?_); intro e w1 h1; have N1 := Lib.hid (NewB.on h1 H0.out.bel); obtain ⟨a1, n1, c1, rfl, ho1, hb1⟩ := h1))
  go_ret
  exact N1.out
set_option maxRecDepth 100000 in
set_option maxHeartbeats 2000000 in
theorem put_s (pa : Option Addr) (pk pc : Nat) (l : List UInt8) (x : MgM) (L : MgL) (w : World) (hl : BAt w w.heap.size pa pk l) (hpk : pk ≤ 1099000000000) (h0 : 0 ≤ x.sl) (h1 : x.sl ≤ 1000000) :
    Calls Tryd.prog 38 #[.slice pa pk pc, .agg (mgV x), .int .i32 115] w (NewB w (l ++ putF x L 115)) := by
  have H0 := Lib.hid ((Boxs.start w).more (mgV x) 39)
  have cP : ∀ W, Below w.heap.size w W → Calls Tryd.prog 37 #[.slice pa pk pc, .int .u64 x.sl, .int .i64 4] W (NewB W (l ++ putB x.sl.toNat 4)) := fun W hW => putM_any pa pk pc x.sl 4 l W ((hl.below hW (Nat.le_refl _)).more hW.size) (by omega) h0 (by omega)
  show Calls _ _ _ _ (NewB w (l ++ putB x.sl.toNat 4))
  have x3 := (H0.out.get 0 _ _ _ rfl).cell 3 _ rfl
  clear hl
  go_enter Tryd.func38, Tryd.ntmps38
  go_wp2_with (go_at_call 37; ((with_reducible refine (cP _ H0.out.bel).mono ?_); intro e w1 h1; have N1 := Lib.hid (NewB.on h1 H0.out.bel); obtain ⟨a1, n1, c1, rfl, ho1, hb1⟩ := h1))
  go_ret
  exact N1.out
set_option maxRecDepth 100000 in
set_option maxHeartbeats 2000000 in
theorem put_g (pa : Option Addr) (pk pc : Nat) (l : List UInt8) (x : MgM) (L : MgL) (w : World) (hl : BAt w w.heap.size pa pk l) (hpk : pk ≤ 1099000000000) (h0 : 0 ≤ x.g) (h1 : x.g ≤ 3) :
    Calls Tryd.prog 38 #[.slice pa pk pc, .agg (mgV x), .int .i32 103] w (NewB w (l ++ putF x L 103)) := by
  have H0 := Lib.hid ((Boxs.start w).more (mgV x) 39)
  have cP : ∀ W, Below w.heap.size w W → Calls Tryd.prog 37 #[.slice pa pk pc, .int .u64 x.g, .int .i64 1] W (NewB W (l ++ putB x.g.toNat 1)) := fun W hW => putM_any pa pk pc x.g 1 l W ((hl.below hW (Nat.le_refl _)).more hW.size) (by omega) h0 (by omega)
  show Calls _ _ _ _ (NewB w (l ++ putB x.g.toNat 1))
  have x23 := (H0.out.get 0 _ _ _ rfl).cell 23 _ rfl
  clear hl
  go_enter Tryd.func38, Tryd.ntmps38
  go_wp2_with (go_at_call 37; ((with_reducible refine (cP _ H0.out.bel).mono ?_); intro e w1 h1; have N1 := Lib.hid (NewB.on h1 H0.out.bel); obtain ⟨a1, n1, c1, rfl, ho1, hb1⟩ := h1))
  go_ret
  exact N1.out
set_option maxRecDepth 100000 in
set_option maxHeartbeats 2000000 in
theorem put_n (pa : Option Addr) (pk pc : Nat) (l : List UInt8) (x : MgM) (L : MgL) (w : World) (hl : BAt w w.heap.size pa pk l) (hpk : pk ≤ 1099000000000) (h0 : 0 ≤ x.nu) (h1 : x.nu ≤ 2147483647) :
    Calls Tryd.prog 38 #[.slice pa pk pc, .agg (mgV x), .int .i32 110] w (NewB w (l ++ putF x L 110)) := by
  have H0 := Lib.hid ((Boxs.start w).more (mgV x) 39)
  have cP : ∀ W, Below w.heap.size w W → Calls Tryd.prog 37 #[.slice pa pk pc, .int .u64 x.nu, .int .i64 4] W (NewB W (l ++ putB x.nu.toNat 4)) := fun W hW => putM_any pa pk pc x.nu 4 l W ((hl.below hW (Nat.le_refl _)).more hW.size) (by omega) h0 (by omega)
  show Calls _ _ _ _ (NewB w (l ++ putB x.nu.toNat 4))
  have x26 := (H0.out.get 0 _ _ _ rfl).cell 26 _ rfl
  clear hl
  go_enter Tryd.func38, Tryd.ntmps38
  go_wp2_with (go_at_call 37; ((with_reducible refine (cP _ H0.out.bel).mono ?_); intro e w1 h1; have N1 := Lib.hid (NewB.on h1 H0.out.bel); obtain ⟨a1, n1, c1, rfl, ho1, hb1⟩ := h1))
  go_ret
  exact N1.out
set_option maxRecDepth 100000 in
set_option maxHeartbeats 2000000 in
theorem put_e (pa : Option Addr) (pk pc : Nat) (l : List UInt8) (x : MgM) (L : MgL) (w : World) (hl : BAt w w.heap.size pa pk l) (hpk : pk ≤ 1099000000000) (h0 : 0 ≤ x.er) (h1 : x.er ≤ 11) :
    Calls Tryd.prog 38 #[.slice pa pk pc, .agg (mgV x), .int .i32 101] w (NewB w (l ++ putF x L 101)) := by
  have H0 := Lib.hid ((Boxs.start w).more (mgV x) 39)
  have cP : ∀ W, Below w.heap.size w W → Calls Tryd.prog 37 #[.slice pa pk pc, .int .u64 x.er, .int .i64 1] W (NewB W (l ++ putB x.er.toNat 1)) := fun W hW => putM_any pa pk pc x.er 1 l W ((hl.below hW (Nat.le_refl _)).more hW.size) (by omega) h0 (by omega)
  show Calls _ _ _ _ (NewB w (l ++ putB x.er.toNat 1))
  have x32 := (H0.out.get 0 _ _ _ rfl).cell 32 _ rfl
  clear hl
  go_enter Tryd.func38, Tryd.ntmps38
  go_wp2_with (go_at_call 37; ((with_reducible refine (cP _ H0.out.bel).mono ?_); intro e w1 h1; have N1 := Lib.hid (NewB.on h1 H0.out.bel); obtain ⟨a1, n1, c1, rfl, ho1, hb1⟩ := h1))
  go_ret
  exact N1.out
set_option maxRecDepth 100000 in
set_option maxHeartbeats 2000000 in
theorem put_h (pa : Option Addr) (pk pc : Nat) (l : List UInt8) (x : MgM) (L : MgL) (w : World) (hl : BAt w w.heap.size pa pk l) (hpk : pk ≤ 1099000000000) (h : MgAt w x L) (hf : MgF x) (hU : Tabs w) (hv : voteB x L = true) :
    Calls Tryd.prog 38 #[.slice pa pk pc, .agg (mgV x), .int .i32 104] w (NewB w (l ++ putF x L 104)) := by
  have H0 := Lib.hid ((Boxs.start w).more (mgV x) 39)
  have cP : ∀ W, Below w.heap.size w W → Calls Tryd.prog 70 #[.slice pa pk pc, .agg (mgV x)] W (NewB W (l ++ voteBytes x L)) := fun W hW => gVote_any pa pk pc l x L W ((hl.below hW (Nat.le_refl _)).more hW.size) (by omega) (h.later hW) hf (hU.below hW) hv
  show Calls _ _ _ _ (NewB w (l ++ voteBytes x L))
  have xW := (H0.out.get 0 _ _ _ rfl).ldG
  clear hl h hf hU hv
  go_enter Tryd.func38, Tryd.ntmps38
  go_wp2_with (go_at_call 70; ((with_reducible refine (cP _ H0.out.bel).mono ?_); intro e w1 h1; have N1 := Lib.hid (NewB.on h1 H0.out.bel); obtain ⟨a1, n1, c1, rfl, ho1, hb1⟩ := h1))
  go_ret
  exact N1.out
set_option maxRecDepth 100000 in
set_option maxHeartbeats 2000000 in
theorem put_c (pa : Option Addr) (pk pc : Nat) (l : List UInt8) (x : MgM) (L : MgL) (w : World) (hl : BAt w w.heap.size pa pk l) (hpk : pk ≤ 1099000000000) (h : MgAt w x L) (hf : MgF x) (hU : Tabs w) (hc : formCm (cmT x.cm L.rs L.ws) = true) :
    Calls Tryd.prog 38 #[.slice pa pk pc, .agg (mgV x), .int .i32 99] w (NewB w (l ++ putF x L 99)) := by
  have H0 := Lib.hid ((Boxs.start w).more (mgV x) 39)
  have cP : ∀ W, Below w.heap.size w W → Calls Tryd.prog 71 #[.slice pa pk pc, .agg (cmV x.cm)] W (NewB W (l ++ cmB (cmT x.cm L.rs L.ws))) := fun W hW => by
    have h3 := kPut_any pa pk pc l x.cm L.rs L.ws W ((hl.below hW (Nat.le_refl _)).more hW.size) (by omega) (h.cm.later hW) hf.n hf.m (hU.below hW)
    unfold putC at h3
    rw [if_pos hc] at h3; exact h3
  show Calls _ _ _ _ (NewB w (l ++ cmB (cmT x.cm L.rs L.ws)))
  generalize cmB (cmT x.cm L.rs L.ws) = K at *
  have x7 := (H0.out.get 0 _ _ _ rfl).cell 7 _ rfl; have x8 := (H0.out.get 0 _ _ _ rfl).cell 8 _ rfl; have x9 := (H0.out.get 0 _ _ _ rfl).cell 9 _ rfl; have x10 := (H0.out.get 0 _ _ _ rfl).cell 10 _ rfl; have x11 := (H0.out.get 0 _ _ _ rfl).cell 11 _ rfl; have x12 := (H0.out.get 0 _ _ _ rfl).cell 12 _ rfl; have x13 := (H0.out.get 0 _ _ _ rfl).cell 13 _ rfl; have x14 := (H0.out.get 0 _ _ _ rfl).cell 14 _ rfl; have x15 := (H0.out.get 0 _ _ _ rfl).cell 15 _ rfl; have x16 := (H0.out.get 0 _ _ _ rfl).cell 16 _ rfl
  clear hl h hf hU hc
  go_enter Tryd.func38, Tryd.ntmps38
  go_wp2_with (go_at_call 71; ((with_reducible refine (cP _ H0.out.bel).mono ?_); intro e w1 h1; have N1 := Lib.hid (NewB.on h1 H0.out.bel); obtain ⟨a1, n1, c1, rfl, ho1, hb1⟩ := h1))
  go_ret
  exact N1.out
set_option maxRecDepth 100000 in
set_option maxHeartbeats 2000000 in
theorem put_t (pa : Option Addr) (pk pc : Nat) (l : List UInt8) (x : MgM) (L : MgL) (w : World) (hl : BAt w w.heap.size pa pk l) (hpk : pk ≤ 1099000000000) (h : MgAt w x L) (hU : Tabs w) (hc : formT formedB (txT (x.s, x.q) L.rt L.wt) = true) :
    Calls Tryd.prog 38 #[.slice pa pk pc, .agg (mgV x), .int .i32 116] w (NewB w (l ++ putF x L 116)) := by
  have H0 := Lib.hid ((Boxs.start w).more (mgV x) 39)
  have cP : ∀ W, Below w.heap.size w W → Calls Tryd.prog 72 #[.slice pa pk pc, .agg (txV x.s x.q x.a x.n x.c x.b x.m x.d)] W (NewB W (l ++ txnB bytesV (txT (x.s, x.q) L.rt L.wt))) := fun W hW => by
    have h3 := tPut_any pa pk pc l x.s x.q x.a x.n x.c x.b x.m x.d L.rt L.wt W ((hl.below hW (Nat.le_refl _)).more hW.size) (by omega) (h.tx.later hW) (hU.below hW)
    unfold putT at h3
    rw [if_pos hc] at h3; exact h3
  show Calls _ _ _ _ (NewB w (l ++ txnB bytesV (txT (x.s, x.q) L.rt L.wt)))
  generalize txnB bytesV (txT (x.s, x.q) L.rt L.wt) = K at *
  have x17 := (H0.out.get 0 _ _ _ rfl).cell 17 _ rfl; have x18 := (H0.out.get 0 _ _ _ rfl).cell 18 _ rfl; have x19 := (H0.out.get 0 _ _ _ rfl).cell 19 _ rfl; have x20 := (H0.out.get 0 _ _ _ rfl).cell 20 _ rfl
  clear hl h hU hc
  go_enter Tryd.func38, Tryd.ntmps38
  go_wp2_with (go_at_call 72; ((with_reducible refine (cP _ H0.out.bel).mono ?_); intro e w1 h1; have N1 := Lib.hid (NewB.on h1 H0.out.bel); obtain ⟨a1, n1, c1, rfl, ho1, hb1⟩ := h1))
  go_ret
  exact N1.out
set_option maxRecDepth 100000 in
set_option maxHeartbeats 2000000 in
theorem put_i (pa : Option Addr) (pk pc : Nat) (l : List UInt8) (x : MgM) (L : MgL) (w : World) (hl : BAt w w.heap.size pa pk l) (hpk : pk ≤ 1099000000000) (hc : idB (x.i, x.j) = true) :
    Calls Tryd.prog 38 #[.slice pa pk pc, .agg (mgV x), .int .i32 105] w (NewB w (l ++ putF x L 105)) := by
  have H0 := Lib.hid ((Boxs.start w).more (mgV x) 39)
  have cP : ∀ W, Below w.heap.size w W → Calls Tryd.prog 73 #[.slice pa pk pc, .agg #[.int .i64 x.i, .int .i64 x.j]] W (NewB W (l ++ idBytes (x.i, x.j))) := fun W hW => by
    have h3 := tPutId_any pa pk pc x.i x.j l W ((hl.below hW (Nat.le_refl _)).more hW.size) (by omega)
    unfold putId at h3
    rw [if_pos hc] at h3; exact h3
  show Calls _ _ _ _ (NewB w (l ++ idBytes (x.i, x.j)))
  generalize idBytes (x.i, x.j) = K at *
  have x21 := (H0.out.get 0 _ _ _ rfl).cell 21 _ rfl; have x22 := (H0.out.get 0 _ _ _ rfl).cell 22 _ rfl
  clear hl hc
  go_enter Tryd.func38, Tryd.ntmps38
  go_wp2_with (go_at_call 73; ((with_reducible refine (cP _ H0.out.bel).mono ?_); intro e w1 h1; have N1 := Lib.hid (NewB.on h1 H0.out.bel); obtain ⟨a1, n1, c1, rfl, ho1, hb1⟩ := h1))
  go_ret
  exact N1.out
set_option maxRecDepth 100000 in
set_option maxHeartbeats 2000000 in
theorem put_p (pa : Option Addr) (pk pc : Nat) (l : List UInt8) (x : MgM) (L : MgL) (w : World) (hl : BAt w w.heap.size pa pk l) (hpk : pk ≤ 1099000000000) (h : MgAt w x L) :
    Calls Tryd.prog 38 #[.slice pa pk pc, .agg (mgV x), .int .i32 112] w (NewB w (l ++ putF x L 112)) := by
  have H0 := Lib.hid ((Boxs.start w).more (mgV x) 39)
  have cP : ∀ W, Below w.heap.size w W → Calls Tryd.prog 37 #[.slice pa pk pc, .int .u64 ((x.st : Nat) : Int), .int .i64 8] W (NewB W (l ++ putB x.st 8)) := fun W hW => put_any pa pk pc x.st 8 l W ((hl.below hW (Nat.le_refl _)).more hW.size) (by omega) h.nb.st
  show Calls _ _ _ _ (NewB w (l ++ putB x.st 8))
  have x24 := (H0.out.get 0 _ _ _ rfl).cell 24 _ rfl
  clear hl h
  go_enter Tryd.func38, Tryd.ntmps38
  go_wp2_with (go_at_call 37; ((with_reducible refine (cP _ H0.out.bel).mono ?_); intro e w1 h1; have N1 := Lib.hid (NewB.on h1 H0.out.bel); obtain ⟨a1, n1, c1, rfl, ho1, hb1⟩ := h1))
  go_ret
  exact N1.out
set_option maxRecDepth 100000 in
set_option maxHeartbeats 2000000 in
theorem put_v (pa : Option Addr) (pk pc : Nat) (l : List UInt8) (x : MgM) (L : MgL) (w : World) (hl : BAt w w.heap.size pa pk l) (hpk : pk ≤ 1099000000000) (h : MgAt w x L) :
    Calls Tryd.prog 38 #[.slice pa pk pc, .agg (mgV x), .int .i32 118] w (NewB w (l ++ putF x L 118)) := by
  have H0 := Lib.hid ((Boxs.start w).more (mgV x) 39)
  have cP : ∀ W, Below w.heap.size w W → Calls Tryd.prog 37 #[.slice pa pk pc, .int .u64 ((x.ver : Nat) : Int), .int .i64 8] W (NewB W (l ++ putB x.ver 8)) := fun W hW => put_any pa pk pc x.ver 8 l W ((hl.below hW (Nat.le_refl _)).more hW.size) (by omega) h.nb.ver
  show Calls _ _ _ _ (NewB w (l ++ putB x.ver 8))
  have x28 := (H0.out.get 0 _ _ _ rfl).cell 28 _ rfl
  clear hl h
  go_enter Tryd.func38, Tryd.ntmps38
  go_wp2_with (go_at_call 37; ((with_reducible refine (cP _ H0.out.bel).mono ?_); intro e w1 h1; have N1 := Lib.hid (NewB.on h1 H0.out.bel); obtain ⟨a1, n1, c1, rfl, ho1, hb1⟩ := h1))
  go_ret
  exact N1.out
set_option maxRecDepth 100000 in
set_option maxHeartbeats 2000000 in
theorem put_y (pa : Option Addr) (pk pc : Nat) (l : List UInt8) (x : MgM) (L : MgL) (w : World) (hl : BAt w w.heap.size pa pk l) (hpk : pk ≤ 1099000000000) :
    Calls Tryd.prog 38 #[.slice pa pk pc, .agg (mgV x), .int .i32 121] w (NewB w (l ++ putF x L 121)) := by
  have H0 := Lib.hid ((Boxs.start w).more (mgV x) 39)
  have cP : ∀ W, Below w.heap.size w W → Calls Tryd.prog 74 #[.slice pa pk pc, .bool x.y] W (NewB W (l ++ putB (yesN x.y) 1)) := fun W hW => gFlag_any pa pk pc l x.y W ((hl.below hW (Nat.le_refl _)).more hW.size) (by omega)
  show Calls _ _ _ _ (NewB w (l ++ putB (yesN x.y) 1))
  have x25 := (H0.out.get 0 _ _ _ rfl).cell 25 _ rfl
  clear hl
  go_enter Tryd.func38, Tryd.ntmps38
  go_wp2_with (go_at_call 74; ((with_reducible refine (cP _ H0.out.bel).mono ?_); intro e w1 h1; have N1 := Lib.hid (NewB.on h1 H0.out.bel); obtain ⟨a1, n1, c1, rfl, ho1, hb1⟩ := h1))
  go_ret
  exact N1.out
set_option maxRecDepth 100000 in
set_option maxHeartbeats 2000000 in
theorem put_k (pa : Option Addr) (pk pc : Nat) (l : List UInt8) (x : MgM) (L : MgL) (w : World) (hl : BAt w w.heap.size pa pk l) (hpk : pk ≤ 1099000000000) (h : MgAt w x L) :
    Calls Tryd.prog 38 #[.slice pa pk pc, .agg (mgV x), .int .i32 107] w (NewB w (l ++ putF x L 107)) := by
  have H0 := Lib.hid ((Boxs.start w).more (mgV x) 39)
  have cP : ∀ W, Below w.heap.size w W → Calls Tryd.prog 75 #[.slice pa pk pc, .string x.key] W (NewB W (l ++ textB x.key.data.toList)) := fun W hW => putText_any pa pk pc x.key l W ((hl.below hW (Nat.le_refl _)).more hW.size) (by omega) h.nb.key
  show Calls _ _ _ _ (NewB w (l ++ textB x.key.data.toList))
  have x27 := (H0.out.get 0 _ _ _ rfl).cell 27 _ rfl
  clear hl h
  go_enter Tryd.func38, Tryd.ntmps38
  go_wp2_with (go_at_call 75; ((with_reducible refine (cP _ H0.out.bel).mono ?_); intro e w1 h1; have N1 := Lib.hid (NewB.on h1 H0.out.bel); obtain ⟨a1, n1, c1, rfl, ho1, hb1⟩ := h1))
  go_ret
  exact N1.out
set_option maxRecDepth 100000 in
set_option maxHeartbeats 2000000 in
theorem put_x (pa : Option Addr) (pk pc : Nat) (l : List UInt8) (x : MgM) (L : MgL) (w : World) (hl : BAt w w.heap.size pa pk l) (hpk : pk ≤ 1099000000000) (h : MgAt w x L) (hU : Tabs w) (hc : formedB ⟨x.vk, x.vb, x.vt.data.toList⟩ = true) :
    Calls Tryd.prog 38 #[.slice pa pk pc, .agg (mgV x), .int .i32 120] w (NewB w (l ++ putF x L 120)) := by
  have H0 := Lib.hid ((Boxs.start w).more (mgV x) 39)
  have cP : ∀ W, Below w.heap.size w W → Calls Tryd.prog 76 #[.slice pa pk pc, .agg #[.int .i64 x.vk, .int .u64 ((x.vb : Nat) : Int), .string x.vt]] W (NewB W (l ++ bytesV ⟨x.vk, x.vb, x.vt.data.toList⟩)) := fun W hW => by
    have h3 : Calls Tryd.prog 76 #[.slice pa pk pc, .agg #[.int .i64 x.vk, .int .u64 ((x.vb : Nat) : Int), .string x.vt]] W (NewB W (putV l ⟨x.vk, x.vb, x.vt.data.toList⟩)) := putsV pa pk pc l x.vk x.vb x.vt W ((hl.below hW (Nat.le_refl _)).more hW.size) (by omega) h.nb.vb h.nb.vt (hU.below hW)
    unfold putV at h3
    rw [if_pos hc] at h3; exact h3
  show Calls _ _ _ _ (NewB w (l ++ bytesV ⟨x.vk, x.vb, x.vt.data.toList⟩))
  generalize bytesV ⟨x.vk, x.vb, x.vt.data.toList⟩ = K at *
  have x29 := (H0.out.get 0 _ _ _ rfl).cell 29 _ rfl; have x30 := (H0.out.get 0 _ _ _ rfl).cell 30 _ rfl; have x31 := (H0.out.get 0 _ _ _ rfl).cell 31 _ rfl
  clear hl h hU hc
  go_enter Tryd.func38, Tryd.ntmps38
  go_wp2_with (go_at_call 76; ((with_reducible refine (cP _ H0.out.bel).mono ?_); intro e w1 h1; have N1 := Lib.hid (NewB.on h1 H0.out.bel); obtain ⟨a1, n1, c1, rfl, ho1, hb1⟩ := h1))
  go_ret
  exact N1.out
set_option maxRecDepth 100000 in
set_option maxHeartbeats 4000000 in
theorem put_d (pa : Option Addr) (pk pc : Nat) (l : List UInt8) (x : MgM) (L : MgL) (w : World) (hl : BAt w w.heap.size pa pk l) (hpk : pk ≤ 1099000000000) (h : MgAt w x L) (hd : x.dn ≤ 59900) :
    Calls Tryd.prog 38 #[.slice pa pk pc, .agg (mgV x), .int .i32 100] w (NewB w (l ++ putF x L 100)) := by
  obtain ⟨i0, hi, hz0, hz1, hz2⟩ := info_parts Tryd.info5
  have H0 := Lib.hid ((Boxs.start w).more (mgV x) 39)
  have hdl := h.da.len
  have cP : ∀ W, Below w.heap.size w W → Calls Tryd.prog 37 #[.slice pa pk pc, .int .u64 ((x.dn : Nat) : Int), .int .i64 4] W (NewB W (l ++ putB x.dn 4)) := fun W hW => put_any pa pk pc x.dn 4 l W ((hl.below hW (Nat.le_refl _)).more hW.size) (by omega) (by omega)
  have e64 : IntKind.u64.wrap ((x.dn : Nat) : Int) = ((x.dn : Nat) : Int) := by rw [IntKind.wrap_u64]; omega
  have cP2 : ∀ W, Below w.heap.size w W → Calls Tryd.prog 37 #[.slice pa pk pc, .int .u64 (IntKind.u64.wrap ((x.dn : Nat) : Int)), .int .i64 4] W (NewB W (l ++ putB x.dn 4)) := fun W hW => by rw [e64]; exact cP W hW
  have HD : Hid (∀ W, Below w.heap.size w W → BAt W w.heap.size x.da x.dn L.dl) := fun W hW => h.da.below hW (Nat.le_refl _)
  have HM : Hid (∀ z : Nat, (l ++ putB x.dn 4).length = z → z ≤ 1099000000004) := fun z hz => by have := hl.len; rw [List.length_append, putB_len] at hz; omega
  show Calls _ _ _ _ (NewB w (l ++ dataB L.dl))
  have e : l ++ dataB L.dl = (l ++ putB x.dn 4) ++ L.dl := by unfold dataB; rw [hdl, List.append_assoc]
  rw [e]
  clear e e64 hdl h hl
  go_enter Tryd.func38, Tryd.ntmps38
  go_upto_region 31 with (fail)
  have X0 := Lib.hid H0.out.drew
  have s0 : (w.alloc (.cells (mgV x) 39)).drew.cell? ⟨w.heap.size, 33, none⟩ = some (.slice x.da x.dn x.dc) := (X0.out.get 0 _ _ _ rfl).cell 33 _ rfl
  go_region_held3 (fun W => W.cell? ⟨w.heap.size, 33, none⟩ = some (.slice x.da x.dn x.dc)) (first | (with_reducible exact s0) | (with_reducible exact s1) | (with_reducible exact s2))
    (first | (go_at_call 37; (first | (with_reducible refine (cP _ X0.out.bel).mono ?_) | (with_reducible refine (cP2 _ X0.out.bel).mono ?_)); (rintro e v1 ⟨a1, n1, c1, rfl, ho1, hb1⟩; have X1 := Lib.hid (X0.out.below hb1); have G1 : Hid (some w.heap.size ≠ (Value.slice a1 n1 c1).ownBlock) := (fun e => by have := (ho1.lt _ e.symm).1; simp at this; omega); have s1 : v1.cell? ⟨w.heap.size, 33, none⟩ = some (.slice x.da x.dn x.dc) := (X1.out.get 0 _ _ _ rfl).cell 33 _ rfl; have P1 := Lib.hid (PutIn.call X0.out.bel ho1 hb1); have hn1 := HM.out _ (own_len ho1); have Z1 : Hid (w.heap.size ≤ v1.heap.size) := X1.out.bel.size)) | (refine step_append_bytes _ rfl _ _ 37 rfl w.heap.size 5 i0 Tryd.underlying37 hi hz0 hz1 hz2 _ n1 (l ++ putB x.dn 4) rfl P1.out.own w.heap.size x.da x.dn L.dl x.dc rfl (HD.out _ X1.out.bel) (by omega) Z1.out ?_; intro v2 w2 ho2 hg2; have s2 : w2.cell? ⟨w.heap.size, 33, none⟩ = some (.slice x.da x.dn x.dc) := ((X1.out.get 0 _ _ _ rfl).grown hg2 G1.out).cell 33 _ rfl; have R2 := Lib.hid (P1.out.next0 ho2 hg2)))
  obtain ⟨a2, c2, rfl⟩ := R2.out.form
  go_wp2
  go_ret
  exact R2.out.out
/-- The field of a letter is put, if it is well. -/
theorem put_any_letter (pa : Option Addr) (pk pc : Nat) (l : List UInt8) (x : MgM) (L : MgL) (w : World) (hl : BAt w w.heap.size pa pk l) (hpk : pk ≤ 1099000000000) (c : Nat) (hc : IsLet c) (h : MgAt w x L) (hf : MgF x) (hU : Tabs w) (hw : wellF x L c = true) :
    Calls Tryd.prog 38 #[.slice pa pk pc, .agg (mgV x), .int .i32 ((c : Nat) : Int)] w (NewB w (l ++ putF x L c)) := by
  rcases hc with rfl | rfl | rfl | rfl | rfl | rfl | rfl | rfl | rfl | rfl | rfl | rfl | rfl | rfl | rfl
  · exact put_b pa pk pc l x L w hl hpk h hw
  · exact (by
      have p : 0 ≤ x.sl ∧ x.sl ≤ 1000000 := by simpa [wellF] using hw
      exact put_s pa pk pc l x L w hl hpk p.1 p.2)
  · exact put_h pa pk pc l x L w hl hpk h hf hU hw
  · exact put_c pa pk pc l x L w hl hpk h hf hU hw
  · exact put_t pa pk pc l x L w hl hpk h hU hw
  · exact put_i pa pk pc l x L w hl hpk hw
  · exact (by
      have p : 0 ≤ x.g ∧ x.g < 4 := by simpa [wellF] using hw
      exact put_g pa pk pc l x L w hl hpk p.1 (by have := p.2; omega))
  · exact put_p pa pk pc l x L w hl hpk h
  · exact put_y pa pk pc l x L w hl hpk
  · exact (by
      have p : 0 ≤ x.nu ∧ x.nu ≤ 2147483647 := by simpa [wellF] using hw
      exact put_n pa pk pc l x L w hl hpk p.1 p.2)
  · exact put_k pa pk pc l x L w hl hpk h
  · exact put_v pa pk pc l x L w hl hpk h
  · exact put_x pa pk pc l x L w hl hpk h hU hw
  · exact (by
      have p : 0 ≤ x.er ∧ x.er ≤ 11 := by simpa [wellF] using hw
      exact put_e pa pk pc l x L w hl hpk p.1 p.2)
  · exact put_d pa pk pc l x L w hl hpk h (by have p : decide (x.dn ≤ 59900) = true := hw; exact of_decide_eq_true p)
end Go.Proofs.YtcgfhjkdgpgheaaDoor

/- MessageWrite -/
namespace Go.Proofs.YtcgfhjkdgpgheaaDoor

open Go.RowKit

set_option linter.unusedVariables false

/-- The bytes of the fields of some letters. -/
noncomputable def putFs (x : MgM) (L : MgL) (l : List Nat) : List UInt8 := l.flatMap (putF x L)
theorem putFs_step (x : MgM) (L : MgL) (s : ByteArray) (i : Nat) (h : i < s.size) : putFs x L ((lets s).take (i + 1)) = putFs x L ((lets s).take i) ++ putF x L (s[i]'h).toNat := by
  rw [List.take_succ_eq_append_getElem (by rw [lets_len]; exact h), lets_get s i h]
  unfold putFs; rw [List.flatMap_append]; simp
theorem balBytes_len (b : Bal) : (balBytes b).length = 5 := by unfold balBytes; rw [List.length_append, putB_len, putB_len]
theorem voteBytes_max (x : MgM) (L : MgL) (hw : voteB x L = true) : (voteBytes x L).length ≤ 1179734 := by
  unfold voteBytes
  unfold voteB at hw
  cases hh : x.has
  · rw [if_neg (by decide), List.append_nil, putB_len]; omega
  · rw [if_pos hh, Bool.and_eq_true] at hw
    have := cmB_max _ hw.2
    rw [if_pos rfl, List.length_append, List.length_append, putB_len, balBytes_len]; omega
theorem putF_max (x : MgM) (L : MgL) (c : Nat) (hc : IsLet c) (hw : wellF x L c = true) (hd : L.dl.length = x.dn) : (putF x L c).length ≤ 1300000 := by
  rcases hc with rfl | rfl | rfl | rfl | rfl | rfl | rfl | rfl | rfl | rfl | rfl | rfl | rfl | rfl | rfl
  · show (balBytes _).length ≤ _; rw [balBytes_len]; omega
  · show (putB _ _).length ≤ _; rw [putB_len]; omega
  · exact Nat.le_trans (voteBytes_max x L hw) (by omega)
  · exact Nat.le_trans (cmB_max _ hw) (by omega)
  · exact Nat.le_trans (txnB_max _ hw) (by omega)
  · show (idBytes _).length ≤ _; rw [idBytes_len]; omega
  · show (putB _ _).length ≤ _; rw [putB_len]; omega
  · show (putB _ _).length ≤ _; rw [putB_len]; omega
  · show (putB _ _).length ≤ _; rw [putB_len]; omega
  · show (putB _ _).length ≤ _; rw [putB_len]; omega
  · exact Nat.le_trans (textB_le _) (by omega)
  · show (putB _ _).length ≤ _; rw [putB_len]; omega
  · exact Nat.le_trans (bytesV_len _) (by omega)
  · show (putB _ _).length ≤ _; rw [putB_len]; omega
  · have p : decide (x.dn ≤ 59900) = true := hw
    have := of_decide_eq_true p
    show (dataB L.dl).length ≤ _; unfold dataB; rw [List.length_append, putB_len]; omega
theorem putFs_max (x : MgM) (L : MgL) (l : List Nat) (hl : ∀ c ∈ l, IsLet c) (hw : ∀ c ∈ l, wellF x L c = true) (hd : L.dl.length = x.dn) : (putFs x L l).length ≤ l.length * 1300000 := by
  induction l with
  | nil => exact Nat.zero_le _
  | cons c r ih =>
    have h1 := putF_max x L c (hl c (List.mem_cons_self ..)) (hw c (List.mem_cons_self ..)) hd
    have h2 := ih (fun d hd => hl d (List.mem_cons_of_mem _ hd)) (fun d hd => hw d (List.mem_cons_of_mem _ hd))
    unfold putFs at *
    rw [List.flatMap_cons, List.length_append, List.length_cons, Nat.succ_mul]; omega
theorem own_iter {w : World} {B e k n : Nat} {v : Value} {xs : List Value} {g : Nat} {s : ByteArray} {pos : Nat} (h : w.ownsRow B e k v n xs) (hk : w.heap[g]? = some (.stringIter s pos)) (pos' : Nat) : (w.iterAt g s pos').ownsRow B e k v n xs := by
  refine ⟨h.1, ?_⟩
  rcases h.2 with ⟨rfl, rfl⟩ | ⟨b, cap, cur, rfl, h1, hh, hr⟩
  · exact .inl ⟨rfl, rfl⟩
  · exact .inr ⟨b, cap, cur, rfl, h1, (Lib.iterAt_other _ _ _ _ _ (by rintro rfl; rw [hk] at hh; cases hh)).trans hh, hr⟩
/-- Bytes and how it ended. -/
def WrB (w : World) (f : Bool) (l : List UInt8) (e : Ending) (w' : World) : Prop :=
  ∃ a n c, e = .returned (.tuple #[.slice a n c, .int .i64 (if f then 0 else 2)]) ∧ w'.ownsRow w.heap.size 5 1 (.slice a n c) n (bcells (if f then l else [])) ∧ Below w.heap.size w w'
/-- Where the loop stands: the bytes so far, the message's box, the letters' iterator. -/
def WrtR (x : MgM) (L : MgL) (s : ByteArray) (w : World) (g : Nat) (pos : Nat) (v : Value) (n : Nat) (wr : World) : Prop :=
  wr.ownsRow w.heap.size 5 1 v n (bcells (putB x.k.toNat 1 ++ putFs x L ((lets s).take pos))) ∧ Below w.heap.size w wr ∧ BoxC wr w.heap.size (mgV x) 39 ∧ wr.heap[g]? = some (.stringIter s pos) ∧ w.heap.size < g
section

variable {x : MgM} {L : MgL} {s : ByteArray} {w wr w1 : World} {g pos n n' : Nat} {v v' : Value}

theorem WrtR.own (h : WrtR x L s w g pos v n wr) : wr.ownsRow w.heap.size 5 1 v n (bcells (putB x.k.toNat 1 ++ putFs x L ((lets s).take pos))) := h.1
theorem WrtR.bel (h : WrtR x L s w g pos v n wr) : Below w.heap.size w wr := h.2.1
theorem WrtR.mx (h : WrtR x L s w g pos v n wr) : BoxC wr w.heap.size (mgV x) 39 := h.2.2.1
theorem WrtR.it (h : WrtR x L s w g pos v n wr) : wr.heap[g]? = some (.stringIter s pos) := h.2.2.2.1
theorem WrtR.next (h : WrtR x L s w g pos v n wr) : (wr.iterAt g s (pos + 1)).ownsRow w.heap.size 5 1 v n (bcells (putB x.k.toNat 1 ++ putFs x L ((lets s).take pos))) ∧ Below w.heap.size w (wr.iterAt g s (pos + 1)) ∧ BoxC (wr.iterAt g s (pos + 1)) w.heap.size (mgV x) 39 ∧ (wr.iterAt g s (pos + 1)).heap[g]? = some (.stringIter s (pos + 1)) :=
  have hg := h.2.2.2.2
  ⟨own_iter h.1 h.it _, Lib.below_iterAt h.2.1 (by omega) s _, (Lib.iterAt_other _ _ _ _ _ (by omega)).trans h.2.2.1, Lib.iterAt_heap _ _ _ _ _ h.it⟩
end

set_option maxRecDepth 100000 in
set_option maxHeartbeats 4000000 in
theorem gWrite_gen (x : MgM) (L : MgL) (w : World) (h : MgAt w x L) (hf : MgF x) (hU : Tabs w) :
    Calls Tryd.prog 17 #[.agg (mgV x)] w (WrB w (formMg (mgT x L)) (putB x.k.toNat 1 ++ putFs x L (lets (letters x.k)))) := by
  have H0 := Lib.hid ((Boxs.start w).more (mgV x) 39)
  have hz1 : (w.alloc (.cells (mgV x) 39)).heap.size = w.heap.size + 1 := by simp
  have cF := fun W (hW : Below w.heap.size w W) => gFormed_any x L W (h.later hW) hf (hU.below hW)
  have xW := (H0.out.get 0 _ _ _ rfl).ldG
  cases hform : formMg (mgT x L)
  · rw [hform] at cF
    clear h hf hU hform hz1
    go_enter Tryd.func17, Tryd.ntmps17
    go_wp2_with (go_at_call 10; ((with_reducible refine (cF _ H0.out.bel).mono ?_); rintro e w1 ⟨rfl, hb1⟩; have H1 := Lib.hid (H0.out.below hb1)))
    go_ret2
    exact ⟨none, 0, 0, rfl, World.ownsRow_nil _ _ _ _, H1.out.bel⟩
  rw [hform] at cF
  have hp : formP x L = true := by rw [formP_doc h]; exact hform
  have hk := ((formMg_iff _).1 hform).kind
  have hk1 : 1 ≤ x.k := hk.1
  have hk15 : x.k ≤ 15 := hk.2
  unfold formP at hp
  rw [Bool.and_eq_true] at hp
  have hall := List.all_eq_true.1 hp.1
  have hlt := letters_all x.k
  have cL := fun W => fields_any x.k W
  have cK : ∀ W, Calls Tryd.prog 37 #[.slice none 0 0, .int .u64 x.k, .int .i64 1] W (NewB W (putB x.k.toNat 1)) := fun W => putM_any none 0 0 x.k 1 [] W BAt.nil (by omega) (by omega) (by omega)
  have cP : Hid (∀ c W a n k l, IsLet c → Below w.heap.size w W → BAt W W.heap.size a n l → n ≤ 1099000000000 → wellF x L c = true → Calls Tryd.prog 38 #[.slice a n k, .agg (mgV x), .int .i32 ((c : Nat) : Int)] W (NewB W (l ++ putF x L c))) := fun c W a n k l hc hW hl hn hw => put_any_letter a n k l x L W hl hn c hc (h.later hW) hf (hU.below hW) hw
  have HMX : Hid (∀ i, (putB x.k.toNat 1 ++ putFs x L ((lets (letters x.k)).take i)).length ≤ 9100001) := fun i => by
    have h1 := putFs_max x L ((lets (letters x.k)).take i) (fun c hc => hlt.1 c (List.mem_of_mem_take hc)) (fun c hc => hall c (List.mem_of_mem_take hc)) h.da.len
    have h2 : ((lets (letters x.k)).take i).length ≤ 7 := by have := hlt.2; have := lets_len (letters x.k); rw [List.length_take]; omega
    have h3 : ((lets (letters x.k)).take i).length * 1300000 ≤ 7 * 1300000 := Nat.mul_le_mul_right _ h2
    rw [List.length_append, putB_len]; omega
  generalize letters x.k = s at *
  have hls := lets_len s
  have HL := Lib.hid hlt.1
  have HW := Lib.hid hall
  have HLS := Lib.hid hls
  have HZ1 := Lib.hid hz1
  have HK := Lib.hid hk1
  clear h hf hU hls hp hall hlt hform hk hz1
  go_enter Tryd.func17, Tryd.ntmps17
  go_upto_region 3 with (go_at_call 10; ((with_reducible refine (cF _ H0.out.bel).mono ?_); rintro e w1 ⟨rfl, hb1⟩; have H1 := Lib.hid (H0.out.below hb1)))
  clear xW cF
  have x0 : w1.cell? ⟨w.heap.size, 0, none⟩ = some (.int .i64 x.k) := (H1.out.get 0 _ _ _ rfl).cell 0 _ rfl
  have k0 := HK.out
  go_upto_region 4 with (go_at_call 37; ((with_reducible refine (cK _).mono ?_); rintro e w2 ⟨a2, n2, c2, rfl, ho2, hb2⟩))
  have H2 := Lib.hid (H1.out.below hb2)
  clear x0
  have x0 : w2.cell? ⟨w.heap.size, 0, none⟩ = some (.int .i64 x.k) := (H2.out.get 0 _ _ _ rfl).cell 0 _ rfl
  have ho3 := own_base (B := w.heap.size) ho2 H1.out.bel.size
  have R0 : Hid (WrtR x L s w w2.heap.size 0 (.slice a2 n2 c2) n2 (w2.iter s 0)) := by
    have b2 := H2.out.bel
    refine ⟨?_, b2.alloc b2.size _, (H2.out.get 0 _ _ _ rfl).alloc _, World.iter_heap w2 s 0, (H2.out.get 0 _ _ _ rfl).lt⟩
    rw [List.take_zero]
    show World.ownsRow _ _ _ _ _ _ (bcells (putB x.k.toNat 1 ++ []))
    rw [List.append_nil]
    exact ho3.alloc _
  have NN : Hid (n2 ≤ 9100001) := by have := own_len ho2; rw [putB_len] at this; unfold Hid; omega
  clear H0 H1 ho2 hb2 ho3 k0
  go_upto_region 5 with (go_at_call 23; ((with_reducible refine (cL _).mono ?_); rintro e w3 ⟨rfl, rfl⟩))
  clear H2 x0 cL
  generalize w2.heap.size = g at *
  generalize w2.iter s 0 = W0 at *
  go_loopw [4, 6] (fun v _ wr => ∃ pos a n c, pos ≤ s.size ∧ v = .slice a n c ∧ WrtR x L s w g pos (.slice a n c) n wr) (fun _ _ wr => s.size - wr.iterPos g)
  case atStart => exact ⟨0, a2, n2, c2, Nat.zero_le _, rfl, R0.out⟩
  case round =>
    obtain ⟨pos, a, n, c, hps, rfl, hR⟩ := hrel
    have R1 := Lib.hid hR
    have I1 := Lib.hid hR.it
    have hn : n ≤ 9100001 := by have h1 := HMX.out pos; have h2 := own_len hR.own; omega
    clear hR R0
    by_cases hlt : pos < s.size
    · have hlp : pos < (lets s).length := by rw [HLS.out]; exact hlt
      have hg := lets_get s pos hlt
      have hLc : IsLet (s[pos]'hlt).toNat := by rw [← hg]; exact HL.out _ (List.getElem_mem hlp)
      have hWc : wellF x L (s[pos]'hlt).toNat = true := by rw [← hg]; exact HW.out _ (List.getElem_mem hlp)
      have hnx : ∀ ty, (Instr.next (.pointer (some ⟨g, 0, none⟩)) true ty).run Tryd.prog wr = .ok (.tuple #[.bool true, .int .i64 pos, .int .i32 (s[pos]'hlt).toNat]) (wr.iterAt g s (pos + 1)) := fun ty => Lib.run_next_ascii_at wr _ s pos ty I1.out hlt (by rcases hLc with e | e | e | e | e | e | e | e | e | e | e | e | e | e | e <;> rw [e] <;> decide)
      have N1 := Lib.hid R1.out.next
      have GG : Hid (w.heap.size < g) := R1.out.2.2.2.2
      have hst := putFs_step x L s pos hlt
      have ST := Lib.hid hst
      have LC := Lib.hid hLc
      have WC := Lib.hid hWc
      generalize (s[pos]'hlt).toNat = q at *
      obtain ⟨W1, hW1⟩ : ∃ W1, wr.iterAt g s (pos + 1) = W1 := ⟨_, rfl⟩
      rw [hW1] at hnx N1
      clear hW1 hst hLc hWc hg hlp R1
      have NB := Lib.hid N1.out.2.1
      have NM := Lib.hid N1.out.2.2.1
      have NI := Lib.hid N1.out.2.2.2
      have NL : Hid (g < W1.heap.size) := lt_of_heap N1.out.2.2.2
      have NR := Lib.hid (BAt.of_own N1.out.1)
      have mW := NM.out.ldG
      have cQ := cP.out q W1 a n c _ LC.out NB.out NR.out (by omega) WC.out
      clear N1
      go_wp2_with (go_at_call 38; ((with_reducible refine cQ.mono ?_); rintro e w2 ⟨a3, n3, c3, rfl, ho3, hb3⟩))
      have R3 : Hid (WrtR x L s w g (pos + 1) (.slice a3 n3 c3) n3 w2) := by
        refine ⟨?_, NB.out.trans (hb3.mono NB.out.size), NM.out.below hb3, (hb3.block _ NL.out).trans NI.out, GG.out⟩
        rw [ST.out, ← List.append_assoc]
        exact own_base ho3 NB.out.size
      have I3 := R3.out.it
      clear ho3 hb3
      go_roundw
      case rel => exact ⟨pos + 1, a3, n3, c3, by omega, rfl, R3.out⟩
      case measure => simp only [World.iterPos, I3, I1.out]; omega
    · have hnx : ∀ ty, (Instr.next (.pointer (some ⟨g, 0, none⟩)) true ty).run Tryd.prog wr = .ok (.tuple #[.bool false]) wr := fun ty => Lib.run_next_end_at wr _ s pos ty I1.out hlt
      obtain rfl : pos = s.size := by omega
      have ht : (lets s).take s.size = lets s := List.take_of_length_le (by rw [HLS.out]; exact Nat.le_refl _)
      have OW : Hid (wr.ownsRow w.heap.size 5 1 (.slice a n c) n (bcells (putB x.k.toNat 1 ++ putFs x L (lets s)))) := by have := R1.out.own; rw [ht] at this; exact this
      have BB := Lib.hid R1.out.bel
      clear ht cP HL HLS HW HMX hlt I1 R1
      go_wp2
      go_ret2
      exact ⟨a, n, c, rfl, OW.out, BB.out⟩
section

variable {w : World} {x : MgM} {L : MgL}

set_option maxHeartbeats 1000000 in
theorem bytes_1 (hk : x.k = 1) (hf : FormMg (mgT x L)) : putB x.k.toNat 1 ++ putFs x L (lets (letters x.k)) = mgB (mgT x L) := by
  have e1 : lets (letters x.k) = [98] := by rw [hk]; rfl
  have e2 : x.has = false := hf.has0 (show uHas (mgT x L).k = false by rw [show (mgT x L).k = 1 from hk]; rfl)
  rw [e1]
  unfold mgB putFs
  show _ = putB x.k.toNat 1 ++ (onB (uBal x.k) (balBytes (((x.br : Nat) : Int), x.bn)) ++ (onB (uSlot x.k) (putB x.sl.toNat 4) ++ (onB (uHas x.k) (putB (yesN x.has) 1) ++ (onB x.has (balBytes (((x.vr : Nat) : Int), x.vn)) ++ (onB (x.has || uCmd x.k) (cmB (cmT x.cm L.rs L.ws)) ++ (onB (uTxn x.k) (txnB bytesV (txT (x.s, x.q) L.rt L.wt)) ++ (onB (uId x.k) (idBytes (x.i, x.j)) ++ (onB (uGrp x.k) (putB x.g.toNat 1) ++ (onB (uStp x.k) (putB x.st 8) ++ (onB (uYes x.k) (putB (yesN x.y) 1) ++ (onB (uNum x.k) (putB x.nu.toNat 4) ++ (onB (uKey x.k) (textB x.key.data.toList) ++ (onB (uVal x.k) (putB x.ver 8) ++ (onB (uVal x.k) (bytesV ⟨x.vk, x.vb, x.vt.data.toList⟩) ++ (onB (uVal x.k) (putB x.er.toNat 1) ++ onB (uDat x.k) (dataB L.dl))))))))))))))))
  have u : ∀ f : Int → Bool, f x.k = f 1 := fun f => by rw [hk]
  rw [u uBal, u uSlot, u uHas, u uCmd, u uTxn, u uId, u uGrp, u uStp, u uYes, u uNum, u uKey, u uVal, u uDat]
  rw [show uBal 1 = true from rfl, show uSlot 1 = false from rfl, show uHas 1 = false from rfl, show uCmd 1 = false from rfl, show uTxn 1 = false from rfl, show uId 1 = false from rfl, show uGrp 1 = false from rfl, show uStp 1 = false from rfl, show uYes 1 = false from rfl, show uNum 1 = false from rfl, show uKey 1 = false from rfl, show uVal 1 = false from rfl, show uDat 1 = false from rfl]
  rw [e2]
  simp only [List.flatMap_cons, List.flatMap_nil, onB, if_true, if_false, Bool.or_false, Bool.false_eq_true, List.append_nil]
  rfl
set_option maxHeartbeats 1000000 in
theorem bytes_2 (hk : x.k = 2) (hf : FormMg (mgT x L)) : putB x.k.toNat 1 ++ putFs x L (lets (letters x.k)) = mgB (mgT x L) := by
  have e1 : lets (letters x.k) = [98, 115, 104] := by rw [hk]; rfl
  rw [e1]
  unfold mgB putFs
  show _ = putB x.k.toNat 1 ++ (onB (uBal x.k) (balBytes (((x.br : Nat) : Int), x.bn)) ++ (onB (uSlot x.k) (putB x.sl.toNat 4) ++ (onB (uHas x.k) (putB (yesN x.has) 1) ++ (onB x.has (balBytes (((x.vr : Nat) : Int), x.vn)) ++ (onB (x.has || uCmd x.k) (cmB (cmT x.cm L.rs L.ws)) ++ (onB (uTxn x.k) (txnB bytesV (txT (x.s, x.q) L.rt L.wt)) ++ (onB (uId x.k) (idBytes (x.i, x.j)) ++ (onB (uGrp x.k) (putB x.g.toNat 1) ++ (onB (uStp x.k) (putB x.st 8) ++ (onB (uYes x.k) (putB (yesN x.y) 1) ++ (onB (uNum x.k) (putB x.nu.toNat 4) ++ (onB (uKey x.k) (textB x.key.data.toList) ++ (onB (uVal x.k) (putB x.ver 8) ++ (onB (uVal x.k) (bytesV ⟨x.vk, x.vb, x.vt.data.toList⟩) ++ (onB (uVal x.k) (putB x.er.toNat 1) ++ onB (uDat x.k) (dataB L.dl))))))))))))))))
  have u : ∀ f : Int → Bool, f x.k = f 2 := fun f => by rw [hk]
  rw [u uBal, u uSlot, u uHas, u uCmd, u uTxn, u uId, u uGrp, u uStp, u uYes, u uNum, u uKey, u uVal, u uDat]
  rw [show uBal 2 = true from rfl, show uSlot 2 = true from rfl, show uHas 2 = true from rfl, show uCmd 2 = false from rfl, show uTxn 2 = false from rfl, show uId 2 = false from rfl, show uGrp 2 = false from rfl, show uStp 2 = false from rfl, show uYes 2 = false from rfl, show uNum 2 = false from rfl, show uKey 2 = false from rfl, show uVal 2 = false from rfl, show uDat 2 = false from rfl]
  simp only [List.flatMap_cons, List.flatMap_nil, onB, if_true, if_false, Bool.or_false, Bool.false_eq_true, List.append_nil]
  show putB x.k.toNat 1 ++ (balBytes _ ++ (putB _ 4 ++ voteBytes x L)) = _
  unfold voteBytes
  cases x.has
  · simp only [if_false, Bool.false_eq_true, List.append_nil]
  · simp only [if_true]
set_option maxHeartbeats 1000000 in
theorem bytes_3 (hk : x.k = 3) (hf : FormMg (mgT x L)) : putB x.k.toNat 1 ++ putFs x L (lets (letters x.k)) = mgB (mgT x L) := by
  have e1 : lets (letters x.k) = [98] := by rw [hk]; rfl
  have e2 : x.has = false := hf.has0 (show uHas (mgT x L).k = false by rw [show (mgT x L).k = 3 from hk]; rfl)
  rw [e1]
  unfold mgB putFs
  show _ = putB x.k.toNat 1 ++ (onB (uBal x.k) (balBytes (((x.br : Nat) : Int), x.bn)) ++ (onB (uSlot x.k) (putB x.sl.toNat 4) ++ (onB (uHas x.k) (putB (yesN x.has) 1) ++ (onB x.has (balBytes (((x.vr : Nat) : Int), x.vn)) ++ (onB (x.has || uCmd x.k) (cmB (cmT x.cm L.rs L.ws)) ++ (onB (uTxn x.k) (txnB bytesV (txT (x.s, x.q) L.rt L.wt)) ++ (onB (uId x.k) (idBytes (x.i, x.j)) ++ (onB (uGrp x.k) (putB x.g.toNat 1) ++ (onB (uStp x.k) (putB x.st 8) ++ (onB (uYes x.k) (putB (yesN x.y) 1) ++ (onB (uNum x.k) (putB x.nu.toNat 4) ++ (onB (uKey x.k) (textB x.key.data.toList) ++ (onB (uVal x.k) (putB x.ver 8) ++ (onB (uVal x.k) (bytesV ⟨x.vk, x.vb, x.vt.data.toList⟩) ++ (onB (uVal x.k) (putB x.er.toNat 1) ++ onB (uDat x.k) (dataB L.dl))))))))))))))))
  have u : ∀ f : Int → Bool, f x.k = f 3 := fun f => by rw [hk]
  rw [u uBal, u uSlot, u uHas, u uCmd, u uTxn, u uId, u uGrp, u uStp, u uYes, u uNum, u uKey, u uVal, u uDat]
  rw [show uBal 3 = true from rfl, show uSlot 3 = false from rfl, show uHas 3 = false from rfl, show uCmd 3 = false from rfl, show uTxn 3 = false from rfl, show uId 3 = false from rfl, show uGrp 3 = false from rfl, show uStp 3 = false from rfl, show uYes 3 = false from rfl, show uNum 3 = false from rfl, show uKey 3 = false from rfl, show uVal 3 = false from rfl, show uDat 3 = false from rfl]
  rw [e2]
  simp only [List.flatMap_cons, List.flatMap_nil, onB, if_true, if_false, Bool.or_false, Bool.false_eq_true, List.append_nil]
  rfl
set_option maxHeartbeats 1000000 in
theorem bytes_4 (hk : x.k = 4) (hf : FormMg (mgT x L)) : putB x.k.toNat 1 ++ putFs x L (lets (letters x.k)) = mgB (mgT x L) := by
  have e1 : lets (letters x.k) = [98, 115, 99] := by rw [hk]; rfl
  have e2 : x.has = false := hf.has0 (show uHas (mgT x L).k = false by rw [show (mgT x L).k = 4 from hk]; rfl)
  rw [e1]
  unfold mgB putFs
  show _ = putB x.k.toNat 1 ++ (onB (uBal x.k) (balBytes (((x.br : Nat) : Int), x.bn)) ++ (onB (uSlot x.k) (putB x.sl.toNat 4) ++ (onB (uHas x.k) (putB (yesN x.has) 1) ++ (onB x.has (balBytes (((x.vr : Nat) : Int), x.vn)) ++ (onB (x.has || uCmd x.k) (cmB (cmT x.cm L.rs L.ws)) ++ (onB (uTxn x.k) (txnB bytesV (txT (x.s, x.q) L.rt L.wt)) ++ (onB (uId x.k) (idBytes (x.i, x.j)) ++ (onB (uGrp x.k) (putB x.g.toNat 1) ++ (onB (uStp x.k) (putB x.st 8) ++ (onB (uYes x.k) (putB (yesN x.y) 1) ++ (onB (uNum x.k) (putB x.nu.toNat 4) ++ (onB (uKey x.k) (textB x.key.data.toList) ++ (onB (uVal x.k) (putB x.ver 8) ++ (onB (uVal x.k) (bytesV ⟨x.vk, x.vb, x.vt.data.toList⟩) ++ (onB (uVal x.k) (putB x.er.toNat 1) ++ onB (uDat x.k) (dataB L.dl))))))))))))))))
  have u : ∀ f : Int → Bool, f x.k = f 4 := fun f => by rw [hk]
  rw [u uBal, u uSlot, u uHas, u uCmd, u uTxn, u uId, u uGrp, u uStp, u uYes, u uNum, u uKey, u uVal, u uDat]
  rw [show uBal 4 = true from rfl, show uSlot 4 = true from rfl, show uHas 4 = false from rfl, show uCmd 4 = true from rfl, show uTxn 4 = false from rfl, show uId 4 = false from rfl, show uGrp 4 = false from rfl, show uStp 4 = false from rfl, show uYes 4 = false from rfl, show uNum 4 = false from rfl, show uKey 4 = false from rfl, show uVal 4 = false from rfl, show uDat 4 = false from rfl]
  rw [e2]
  simp only [List.flatMap_cons, List.flatMap_nil, onB, if_true, if_false, Bool.or_true, Bool.false_eq_true, List.append_nil, List.nil_append]
  rfl
set_option maxHeartbeats 1000000 in
theorem bytes_5 (hk : x.k = 5) (hf : FormMg (mgT x L)) : putB x.k.toNat 1 ++ putFs x L (lets (letters x.k)) = mgB (mgT x L) := by
  have e1 : lets (letters x.k) = [98, 115] := by rw [hk]; rfl
  have e2 : x.has = false := hf.has0 (show uHas (mgT x L).k = false by rw [show (mgT x L).k = 5 from hk]; rfl)
  rw [e1]
  unfold mgB putFs
  show _ = putB x.k.toNat 1 ++ (onB (uBal x.k) (balBytes (((x.br : Nat) : Int), x.bn)) ++ (onB (uSlot x.k) (putB x.sl.toNat 4) ++ (onB (uHas x.k) (putB (yesN x.has) 1) ++ (onB x.has (balBytes (((x.vr : Nat) : Int), x.vn)) ++ (onB (x.has || uCmd x.k) (cmB (cmT x.cm L.rs L.ws)) ++ (onB (uTxn x.k) (txnB bytesV (txT (x.s, x.q) L.rt L.wt)) ++ (onB (uId x.k) (idBytes (x.i, x.j)) ++ (onB (uGrp x.k) (putB x.g.toNat 1) ++ (onB (uStp x.k) (putB x.st 8) ++ (onB (uYes x.k) (putB (yesN x.y) 1) ++ (onB (uNum x.k) (putB x.nu.toNat 4) ++ (onB (uKey x.k) (textB x.key.data.toList) ++ (onB (uVal x.k) (putB x.ver 8) ++ (onB (uVal x.k) (bytesV ⟨x.vk, x.vb, x.vt.data.toList⟩) ++ (onB (uVal x.k) (putB x.er.toNat 1) ++ onB (uDat x.k) (dataB L.dl))))))))))))))))
  have u : ∀ f : Int → Bool, f x.k = f 5 := fun f => by rw [hk]
  rw [u uBal, u uSlot, u uHas, u uCmd, u uTxn, u uId, u uGrp, u uStp, u uYes, u uNum, u uKey, u uVal, u uDat]
  rw [show uBal 5 = true from rfl, show uSlot 5 = true from rfl, show uHas 5 = false from rfl, show uCmd 5 = false from rfl, show uTxn 5 = false from rfl, show uId 5 = false from rfl, show uGrp 5 = false from rfl, show uStp 5 = false from rfl, show uYes 5 = false from rfl, show uNum 5 = false from rfl, show uKey 5 = false from rfl, show uVal 5 = false from rfl, show uDat 5 = false from rfl]
  rw [e2]
  simp only [List.flatMap_cons, List.flatMap_nil, onB, if_true, if_false, Bool.or_false, Bool.false_eq_true, List.append_nil]
  rfl
set_option maxHeartbeats 1000000 in
theorem bytes_6 (hk : x.k = 6) (hf : FormMg (mgT x L)) : putB x.k.toNat 1 ++ putFs x L (lets (letters x.k)) = mgB (mgT x L) := by
  have e1 : lets (letters x.k) = [115, 99] := by rw [hk]; rfl
  have e2 : x.has = false := hf.has0 (show uHas (mgT x L).k = false by rw [show (mgT x L).k = 6 from hk]; rfl)
  rw [e1]
  unfold mgB putFs
  show _ = putB x.k.toNat 1 ++ (onB (uBal x.k) (balBytes (((x.br : Nat) : Int), x.bn)) ++ (onB (uSlot x.k) (putB x.sl.toNat 4) ++ (onB (uHas x.k) (putB (yesN x.has) 1) ++ (onB x.has (balBytes (((x.vr : Nat) : Int), x.vn)) ++ (onB (x.has || uCmd x.k) (cmB (cmT x.cm L.rs L.ws)) ++ (onB (uTxn x.k) (txnB bytesV (txT (x.s, x.q) L.rt L.wt)) ++ (onB (uId x.k) (idBytes (x.i, x.j)) ++ (onB (uGrp x.k) (putB x.g.toNat 1) ++ (onB (uStp x.k) (putB x.st 8) ++ (onB (uYes x.k) (putB (yesN x.y) 1) ++ (onB (uNum x.k) (putB x.nu.toNat 4) ++ (onB (uKey x.k) (textB x.key.data.toList) ++ (onB (uVal x.k) (putB x.ver 8) ++ (onB (uVal x.k) (bytesV ⟨x.vk, x.vb, x.vt.data.toList⟩) ++ (onB (uVal x.k) (putB x.er.toNat 1) ++ onB (uDat x.k) (dataB L.dl))))))))))))))))
  have u : ∀ f : Int → Bool, f x.k = f 6 := fun f => by rw [hk]
  rw [u uBal, u uSlot, u uHas, u uCmd, u uTxn, u uId, u uGrp, u uStp, u uYes, u uNum, u uKey, u uVal, u uDat]
  rw [show uBal 6 = false from rfl, show uSlot 6 = true from rfl, show uHas 6 = false from rfl, show uCmd 6 = true from rfl, show uTxn 6 = false from rfl, show uId 6 = false from rfl, show uGrp 6 = false from rfl, show uStp 6 = false from rfl, show uYes 6 = false from rfl, show uNum 6 = false from rfl, show uKey 6 = false from rfl, show uVal 6 = false from rfl, show uDat 6 = false from rfl]
  rw [e2]
  simp only [List.flatMap_cons, List.flatMap_nil, onB, if_true, if_false, Bool.or_true, Bool.false_eq_true, List.append_nil, List.nil_append]
  rfl
set_option maxHeartbeats 1000000 in
theorem bytes_7 (hk : x.k = 7) (hf : FormMg (mgT x L)) : putB x.k.toNat 1 ++ putFs x L (lets (letters x.k)) = mgB (mgT x L) := by
  have e1 : lets (letters x.k) = [115] := by rw [hk]; rfl
  have e2 : x.has = false := hf.has0 (show uHas (mgT x L).k = false by rw [show (mgT x L).k = 7 from hk]; rfl)
  rw [e1]
  unfold mgB putFs
  show _ = putB x.k.toNat 1 ++ (onB (uBal x.k) (balBytes (((x.br : Nat) : Int), x.bn)) ++ (onB (uSlot x.k) (putB x.sl.toNat 4) ++ (onB (uHas x.k) (putB (yesN x.has) 1) ++ (onB x.has (balBytes (((x.vr : Nat) : Int), x.vn)) ++ (onB (x.has || uCmd x.k) (cmB (cmT x.cm L.rs L.ws)) ++ (onB (uTxn x.k) (txnB bytesV (txT (x.s, x.q) L.rt L.wt)) ++ (onB (uId x.k) (idBytes (x.i, x.j)) ++ (onB (uGrp x.k) (putB x.g.toNat 1) ++ (onB (uStp x.k) (putB x.st 8) ++ (onB (uYes x.k) (putB (yesN x.y) 1) ++ (onB (uNum x.k) (putB x.nu.toNat 4) ++ (onB (uKey x.k) (textB x.key.data.toList) ++ (onB (uVal x.k) (putB x.ver 8) ++ (onB (uVal x.k) (bytesV ⟨x.vk, x.vb, x.vt.data.toList⟩) ++ (onB (uVal x.k) (putB x.er.toNat 1) ++ onB (uDat x.k) (dataB L.dl))))))))))))))))
  have u : ∀ f : Int → Bool, f x.k = f 7 := fun f => by rw [hk]
  rw [u uBal, u uSlot, u uHas, u uCmd, u uTxn, u uId, u uGrp, u uStp, u uYes, u uNum, u uKey, u uVal, u uDat]
  rw [show uBal 7 = false from rfl, show uSlot 7 = true from rfl, show uHas 7 = false from rfl, show uCmd 7 = false from rfl, show uTxn 7 = false from rfl, show uId 7 = false from rfl, show uGrp 7 = false from rfl, show uStp 7 = false from rfl, show uYes 7 = false from rfl, show uNum 7 = false from rfl, show uKey 7 = false from rfl, show uVal 7 = false from rfl, show uDat 7 = false from rfl]
  rw [e2]
  simp only [List.flatMap_cons, List.flatMap_nil, onB, if_true, if_false, Bool.or_false, Bool.false_eq_true, List.append_nil, List.nil_append]
  rfl
set_option maxHeartbeats 1000000 in
theorem bytes_8 (hk : x.k = 8) (hf : FormMg (mgT x L)) : putB x.k.toNat 1 ++ putFs x L (lets (letters x.k)) = mgB (mgT x L) := by
  have e1 : lets (letters x.k) = [116] := by rw [hk]; rfl
  have e2 : x.has = false := hf.has0 (show uHas (mgT x L).k = false by rw [show (mgT x L).k = 8 from hk]; rfl)
  rw [e1]
  unfold mgB putFs
  show _ = putB x.k.toNat 1 ++ (onB (uBal x.k) (balBytes (((x.br : Nat) : Int), x.bn)) ++ (onB (uSlot x.k) (putB x.sl.toNat 4) ++ (onB (uHas x.k) (putB (yesN x.has) 1) ++ (onB x.has (balBytes (((x.vr : Nat) : Int), x.vn)) ++ (onB (x.has || uCmd x.k) (cmB (cmT x.cm L.rs L.ws)) ++ (onB (uTxn x.k) (txnB bytesV (txT (x.s, x.q) L.rt L.wt)) ++ (onB (uId x.k) (idBytes (x.i, x.j)) ++ (onB (uGrp x.k) (putB x.g.toNat 1) ++ (onB (uStp x.k) (putB x.st 8) ++ (onB (uYes x.k) (putB (yesN x.y) 1) ++ (onB (uNum x.k) (putB x.nu.toNat 4) ++ (onB (uKey x.k) (textB x.key.data.toList) ++ (onB (uVal x.k) (putB x.ver 8) ++ (onB (uVal x.k) (bytesV ⟨x.vk, x.vb, x.vt.data.toList⟩) ++ (onB (uVal x.k) (putB x.er.toNat 1) ++ onB (uDat x.k) (dataB L.dl))))))))))))))))
  have u : ∀ f : Int → Bool, f x.k = f 8 := fun f => by rw [hk]
  rw [u uBal, u uSlot, u uHas, u uCmd, u uTxn, u uId, u uGrp, u uStp, u uYes, u uNum, u uKey, u uVal, u uDat]
  rw [show uBal 8 = false from rfl, show uSlot 8 = false from rfl, show uHas 8 = false from rfl, show uCmd 8 = false from rfl, show uTxn 8 = true from rfl, show uId 8 = false from rfl, show uGrp 8 = false from rfl, show uStp 8 = false from rfl, show uYes 8 = false from rfl, show uNum 8 = false from rfl, show uKey 8 = false from rfl, show uVal 8 = false from rfl, show uDat 8 = false from rfl]
  rw [e2]
  simp only [List.flatMap_cons, List.flatMap_nil, onB, if_true, if_false, Bool.or_false, Bool.false_eq_true, List.append_nil, List.nil_append]
  rfl
set_option maxHeartbeats 1000000 in
theorem bytes_9 (hk : x.k = 9) (hf : FormMg (mgT x L)) : putB x.k.toNat 1 ++ putFs x L (lets (letters x.k)) = mgB (mgT x L) := by
  have e1 : lets (letters x.k) = [105, 103, 112] := by rw [hk]; rfl
  have e2 : x.has = false := hf.has0 (show uHas (mgT x L).k = false by rw [show (mgT x L).k = 9 from hk]; rfl)
  rw [e1]
  unfold mgB putFs
  show _ = putB x.k.toNat 1 ++ (onB (uBal x.k) (balBytes (((x.br : Nat) : Int), x.bn)) ++ (onB (uSlot x.k) (putB x.sl.toNat 4) ++ (onB (uHas x.k) (putB (yesN x.has) 1) ++ (onB x.has (balBytes (((x.vr : Nat) : Int), x.vn)) ++ (onB (x.has || uCmd x.k) (cmB (cmT x.cm L.rs L.ws)) ++ (onB (uTxn x.k) (txnB bytesV (txT (x.s, x.q) L.rt L.wt)) ++ (onB (uId x.k) (idBytes (x.i, x.j)) ++ (onB (uGrp x.k) (putB x.g.toNat 1) ++ (onB (uStp x.k) (putB x.st 8) ++ (onB (uYes x.k) (putB (yesN x.y) 1) ++ (onB (uNum x.k) (putB x.nu.toNat 4) ++ (onB (uKey x.k) (textB x.key.data.toList) ++ (onB (uVal x.k) (putB x.ver 8) ++ (onB (uVal x.k) (bytesV ⟨x.vk, x.vb, x.vt.data.toList⟩) ++ (onB (uVal x.k) (putB x.er.toNat 1) ++ onB (uDat x.k) (dataB L.dl))))))))))))))))
  have u : ∀ f : Int → Bool, f x.k = f 9 := fun f => by rw [hk]
  rw [u uBal, u uSlot, u uHas, u uCmd, u uTxn, u uId, u uGrp, u uStp, u uYes, u uNum, u uKey, u uVal, u uDat]
  rw [show uBal 9 = false from rfl, show uSlot 9 = false from rfl, show uHas 9 = false from rfl, show uCmd 9 = false from rfl, show uTxn 9 = false from rfl, show uId 9 = true from rfl, show uGrp 9 = true from rfl, show uStp 9 = true from rfl, show uYes 9 = false from rfl, show uNum 9 = false from rfl, show uKey 9 = false from rfl, show uVal 9 = false from rfl, show uDat 9 = false from rfl]
  rw [e2]
  simp only [List.flatMap_cons, List.flatMap_nil, onB, if_true, if_false, Bool.or_false, Bool.false_eq_true, List.append_nil, List.nil_append]
  rfl
set_option maxHeartbeats 1000000 in
theorem bytes_10 (hk : x.k = 10) (hf : FormMg (mgT x L)) : putB x.k.toNat 1 ++ putFs x L (lets (letters x.k)) = mgB (mgT x L) := by
  have e1 : lets (letters x.k) = [105, 103, 121] := by rw [hk]; rfl
  have e2 : x.has = false := hf.has0 (show uHas (mgT x L).k = false by rw [show (mgT x L).k = 10 from hk]; rfl)
  rw [e1]
  unfold mgB putFs
  show _ = putB x.k.toNat 1 ++ (onB (uBal x.k) (balBytes (((x.br : Nat) : Int), x.bn)) ++ (onB (uSlot x.k) (putB x.sl.toNat 4) ++ (onB (uHas x.k) (putB (yesN x.has) 1) ++ (onB x.has (balBytes (((x.vr : Nat) : Int), x.vn)) ++ (onB (x.has || uCmd x.k) (cmB (cmT x.cm L.rs L.ws)) ++ (onB (uTxn x.k) (txnB bytesV (txT (x.s, x.q) L.rt L.wt)) ++ (onB (uId x.k) (idBytes (x.i, x.j)) ++ (onB (uGrp x.k) (putB x.g.toNat 1) ++ (onB (uStp x.k) (putB x.st 8) ++ (onB (uYes x.k) (putB (yesN x.y) 1) ++ (onB (uNum x.k) (putB x.nu.toNat 4) ++ (onB (uKey x.k) (textB x.key.data.toList) ++ (onB (uVal x.k) (putB x.ver 8) ++ (onB (uVal x.k) (bytesV ⟨x.vk, x.vb, x.vt.data.toList⟩) ++ (onB (uVal x.k) (putB x.er.toNat 1) ++ onB (uDat x.k) (dataB L.dl))))))))))))))))
  have u : ∀ f : Int → Bool, f x.k = f 10 := fun f => by rw [hk]
  rw [u uBal, u uSlot, u uHas, u uCmd, u uTxn, u uId, u uGrp, u uStp, u uYes, u uNum, u uKey, u uVal, u uDat]
  rw [show uBal 10 = false from rfl, show uSlot 10 = false from rfl, show uHas 10 = false from rfl, show uCmd 10 = false from rfl, show uTxn 10 = false from rfl, show uId 10 = true from rfl, show uGrp 10 = true from rfl, show uStp 10 = false from rfl, show uYes 10 = true from rfl, show uNum 10 = false from rfl, show uKey 10 = false from rfl, show uVal 10 = false from rfl, show uDat 10 = false from rfl]
  rw [e2]
  simp only [List.flatMap_cons, List.flatMap_nil, onB, if_true, if_false, Bool.or_false, Bool.false_eq_true, List.append_nil, List.nil_append]
  rfl
set_option maxHeartbeats 1000000 in
theorem bytes_11 (hk : x.k = 11) (hf : FormMg (mgT x L)) : putB x.k.toNat 1 ++ putFs x L (lets (letters x.k)) = mgB (mgT x L) := by
  have e1 : lets (letters x.k) = [105, 103, 112, 121] := by rw [hk]; rfl
  have e2 : x.has = false := hf.has0 (show uHas (mgT x L).k = false by rw [show (mgT x L).k = 11 from hk]; rfl)
  rw [e1]
  unfold mgB putFs
  show _ = putB x.k.toNat 1 ++ (onB (uBal x.k) (balBytes (((x.br : Nat) : Int), x.bn)) ++ (onB (uSlot x.k) (putB x.sl.toNat 4) ++ (onB (uHas x.k) (putB (yesN x.has) 1) ++ (onB x.has (balBytes (((x.vr : Nat) : Int), x.vn)) ++ (onB (x.has || uCmd x.k) (cmB (cmT x.cm L.rs L.ws)) ++ (onB (uTxn x.k) (txnB bytesV (txT (x.s, x.q) L.rt L.wt)) ++ (onB (uId x.k) (idBytes (x.i, x.j)) ++ (onB (uGrp x.k) (putB x.g.toNat 1) ++ (onB (uStp x.k) (putB x.st 8) ++ (onB (uYes x.k) (putB (yesN x.y) 1) ++ (onB (uNum x.k) (putB x.nu.toNat 4) ++ (onB (uKey x.k) (textB x.key.data.toList) ++ (onB (uVal x.k) (putB x.ver 8) ++ (onB (uVal x.k) (bytesV ⟨x.vk, x.vb, x.vt.data.toList⟩) ++ (onB (uVal x.k) (putB x.er.toNat 1) ++ onB (uDat x.k) (dataB L.dl))))))))))))))))
  have u : ∀ f : Int → Bool, f x.k = f 11 := fun f => by rw [hk]
  rw [u uBal, u uSlot, u uHas, u uCmd, u uTxn, u uId, u uGrp, u uStp, u uYes, u uNum, u uKey, u uVal, u uDat]
  rw [show uBal 11 = false from rfl, show uSlot 11 = false from rfl, show uHas 11 = false from rfl, show uCmd 11 = false from rfl, show uTxn 11 = false from rfl, show uId 11 = true from rfl, show uGrp 11 = true from rfl, show uStp 11 = true from rfl, show uYes 11 = true from rfl, show uNum 11 = false from rfl, show uKey 11 = false from rfl, show uVal 11 = false from rfl, show uDat 11 = false from rfl]
  rw [e2]
  simp only [List.flatMap_cons, List.flatMap_nil, onB, if_true, if_false, Bool.or_false, Bool.false_eq_true, List.append_nil, List.nil_append]
  rfl
set_option maxHeartbeats 1000000 in
theorem bytes_12 (hk : x.k = 12) (hf : FormMg (mgT x L)) : putB x.k.toNat 1 ++ putFs x L (lets (letters x.k)) = mgB (mgT x L) := by
  have e1 : lets (letters x.k) = [112, 110, 107] := by rw [hk]; rfl
  have e2 : x.has = false := hf.has0 (show uHas (mgT x L).k = false by rw [show (mgT x L).k = 12 from hk]; rfl)
  rw [e1]
  unfold mgB putFs
  show _ = putB x.k.toNat 1 ++ (onB (uBal x.k) (balBytes (((x.br : Nat) : Int), x.bn)) ++ (onB (uSlot x.k) (putB x.sl.toNat 4) ++ (onB (uHas x.k) (putB (yesN x.has) 1) ++ (onB x.has (balBytes (((x.vr : Nat) : Int), x.vn)) ++ (onB (x.has || uCmd x.k) (cmB (cmT x.cm L.rs L.ws)) ++ (onB (uTxn x.k) (txnB bytesV (txT (x.s, x.q) L.rt L.wt)) ++ (onB (uId x.k) (idBytes (x.i, x.j)) ++ (onB (uGrp x.k) (putB x.g.toNat 1) ++ (onB (uStp x.k) (putB x.st 8) ++ (onB (uYes x.k) (putB (yesN x.y) 1) ++ (onB (uNum x.k) (putB x.nu.toNat 4) ++ (onB (uKey x.k) (textB x.key.data.toList) ++ (onB (uVal x.k) (putB x.ver 8) ++ (onB (uVal x.k) (bytesV ⟨x.vk, x.vb, x.vt.data.toList⟩) ++ (onB (uVal x.k) (putB x.er.toNat 1) ++ onB (uDat x.k) (dataB L.dl))))))))))))))))
  have u : ∀ f : Int → Bool, f x.k = f 12 := fun f => by rw [hk]
  rw [u uBal, u uSlot, u uHas, u uCmd, u uTxn, u uId, u uGrp, u uStp, u uYes, u uNum, u uKey, u uVal, u uDat]
  rw [show uBal 12 = false from rfl, show uSlot 12 = false from rfl, show uHas 12 = false from rfl, show uCmd 12 = false from rfl, show uTxn 12 = false from rfl, show uId 12 = false from rfl, show uGrp 12 = false from rfl, show uStp 12 = true from rfl, show uYes 12 = false from rfl, show uNum 12 = true from rfl, show uKey 12 = true from rfl, show uVal 12 = false from rfl, show uDat 12 = false from rfl]
  rw [e2]
  simp only [List.flatMap_cons, List.flatMap_nil, onB, if_true, if_false, Bool.or_false, Bool.false_eq_true, List.append_nil, List.nil_append]
  rfl
set_option maxHeartbeats 1000000 in
theorem bytes_13 (hk : x.k = 13) (hf : FormMg (mgT x L)) : putB x.k.toNat 1 ++ putFs x L (lets (letters x.k)) = mgB (mgT x L) := by
  have e1 : lets (letters x.k) = [103, 112, 110, 107, 118, 120, 101] := by rw [hk]; rfl
  have e2 : x.has = false := hf.has0 (show uHas (mgT x L).k = false by rw [show (mgT x L).k = 13 from hk]; rfl)
  rw [e1]
  unfold mgB putFs
  show _ = putB x.k.toNat 1 ++ (onB (uBal x.k) (balBytes (((x.br : Nat) : Int), x.bn)) ++ (onB (uSlot x.k) (putB x.sl.toNat 4) ++ (onB (uHas x.k) (putB (yesN x.has) 1) ++ (onB x.has (balBytes (((x.vr : Nat) : Int), x.vn)) ++ (onB (x.has || uCmd x.k) (cmB (cmT x.cm L.rs L.ws)) ++ (onB (uTxn x.k) (txnB bytesV (txT (x.s, x.q) L.rt L.wt)) ++ (onB (uId x.k) (idBytes (x.i, x.j)) ++ (onB (uGrp x.k) (putB x.g.toNat 1) ++ (onB (uStp x.k) (putB x.st 8) ++ (onB (uYes x.k) (putB (yesN x.y) 1) ++ (onB (uNum x.k) (putB x.nu.toNat 4) ++ (onB (uKey x.k) (textB x.key.data.toList) ++ (onB (uVal x.k) (putB x.ver 8) ++ (onB (uVal x.k) (bytesV ⟨x.vk, x.vb, x.vt.data.toList⟩) ++ (onB (uVal x.k) (putB x.er.toNat 1) ++ onB (uDat x.k) (dataB L.dl))))))))))))))))
  have u : ∀ f : Int → Bool, f x.k = f 13 := fun f => by rw [hk]
  rw [u uBal, u uSlot, u uHas, u uCmd, u uTxn, u uId, u uGrp, u uStp, u uYes, u uNum, u uKey, u uVal, u uDat]
  rw [show uBal 13 = false from rfl, show uSlot 13 = false from rfl, show uHas 13 = false from rfl, show uCmd 13 = false from rfl, show uTxn 13 = false from rfl, show uId 13 = false from rfl, show uGrp 13 = true from rfl, show uStp 13 = true from rfl, show uYes 13 = false from rfl, show uNum 13 = true from rfl, show uKey 13 = true from rfl, show uVal 13 = true from rfl, show uDat 13 = false from rfl]
  rw [e2]
  simp only [List.flatMap_cons, List.flatMap_nil, onB, if_true, if_false, Bool.or_false, Bool.false_eq_true, List.append_nil, List.nil_append]
  rfl
set_option maxHeartbeats 1000000 in
theorem bytes_14 (hk : x.k = 14) (hf : FormMg (mgT x L)) : putB x.k.toNat 1 ++ putFs x L (lets (letters x.k)) = mgB (mgT x L) := by
  have e1 : lets (letters x.k) = [110] := by rw [hk]; rfl
  have e2 : x.has = false := hf.has0 (show uHas (mgT x L).k = false by rw [show (mgT x L).k = 14 from hk]; rfl)
  rw [e1]
  unfold mgB putFs
  show _ = putB x.k.toNat 1 ++ (onB (uBal x.k) (balBytes (((x.br : Nat) : Int), x.bn)) ++ (onB (uSlot x.k) (putB x.sl.toNat 4) ++ (onB (uHas x.k) (putB (yesN x.has) 1) ++ (onB x.has (balBytes (((x.vr : Nat) : Int), x.vn)) ++ (onB (x.has || uCmd x.k) (cmB (cmT x.cm L.rs L.ws)) ++ (onB (uTxn x.k) (txnB bytesV (txT (x.s, x.q) L.rt L.wt)) ++ (onB (uId x.k) (idBytes (x.i, x.j)) ++ (onB (uGrp x.k) (putB x.g.toNat 1) ++ (onB (uStp x.k) (putB x.st 8) ++ (onB (uYes x.k) (putB (yesN x.y) 1) ++ (onB (uNum x.k) (putB x.nu.toNat 4) ++ (onB (uKey x.k) (textB x.key.data.toList) ++ (onB (uVal x.k) (putB x.ver 8) ++ (onB (uVal x.k) (bytesV ⟨x.vk, x.vb, x.vt.data.toList⟩) ++ (onB (uVal x.k) (putB x.er.toNat 1) ++ onB (uDat x.k) (dataB L.dl))))))))))))))))
  have u : ∀ f : Int → Bool, f x.k = f 14 := fun f => by rw [hk]
  rw [u uBal, u uSlot, u uHas, u uCmd, u uTxn, u uId, u uGrp, u uStp, u uYes, u uNum, u uKey, u uVal, u uDat]
  rw [show uBal 14 = false from rfl, show uSlot 14 = false from rfl, show uHas 14 = false from rfl, show uCmd 14 = false from rfl, show uTxn 14 = false from rfl, show uId 14 = false from rfl, show uGrp 14 = false from rfl, show uStp 14 = false from rfl, show uYes 14 = false from rfl, show uNum 14 = true from rfl, show uKey 14 = false from rfl, show uVal 14 = false from rfl, show uDat 14 = false from rfl]
  rw [e2]
  simp only [List.flatMap_cons, List.flatMap_nil, onB, if_true, if_false, Bool.or_false, Bool.false_eq_true, List.append_nil, List.nil_append]
  rfl
set_option maxHeartbeats 1000000 in
theorem bytes_15 (hk : x.k = 15) (hf : FormMg (mgT x L)) : putB x.k.toNat 1 ++ putFs x L (lets (letters x.k)) = mgB (mgT x L) := by
  have e1 : lets (letters x.k) = [115, 100] := by rw [hk]; rfl
  have e2 : x.has = false := hf.has0 (show uHas (mgT x L).k = false by rw [show (mgT x L).k = 15 from hk]; rfl)
  rw [e1]
  unfold mgB putFs
  show _ = putB x.k.toNat 1 ++ (onB (uBal x.k) (balBytes (((x.br : Nat) : Int), x.bn)) ++ (onB (uSlot x.k) (putB x.sl.toNat 4) ++ (onB (uHas x.k) (putB (yesN x.has) 1) ++ (onB x.has (balBytes (((x.vr : Nat) : Int), x.vn)) ++ (onB (x.has || uCmd x.k) (cmB (cmT x.cm L.rs L.ws)) ++ (onB (uTxn x.k) (txnB bytesV (txT (x.s, x.q) L.rt L.wt)) ++ (onB (uId x.k) (idBytes (x.i, x.j)) ++ (onB (uGrp x.k) (putB x.g.toNat 1) ++ (onB (uStp x.k) (putB x.st 8) ++ (onB (uYes x.k) (putB (yesN x.y) 1) ++ (onB (uNum x.k) (putB x.nu.toNat 4) ++ (onB (uKey x.k) (textB x.key.data.toList) ++ (onB (uVal x.k) (putB x.ver 8) ++ (onB (uVal x.k) (bytesV ⟨x.vk, x.vb, x.vt.data.toList⟩) ++ (onB (uVal x.k) (putB x.er.toNat 1) ++ onB (uDat x.k) (dataB L.dl))))))))))))))))
  have u : ∀ f : Int → Bool, f x.k = f 15 := fun f => by rw [hk]
  rw [u uBal, u uSlot, u uHas, u uCmd, u uTxn, u uId, u uGrp, u uStp, u uYes, u uNum, u uKey, u uVal, u uDat]
  rw [show uBal 15 = false from rfl, show uSlot 15 = true from rfl, show uHas 15 = false from rfl, show uCmd 15 = false from rfl, show uTxn 15 = false from rfl, show uId 15 = false from rfl, show uGrp 15 = false from rfl, show uStp 15 = false from rfl, show uYes 15 = false from rfl, show uNum 15 = false from rfl, show uKey 15 = false from rfl, show uVal 15 = false from rfl, show uDat 15 = true from rfl]
  rw [e2]
  simp only [List.flatMap_cons, List.flatMap_nil, onB, if_true, if_false, Bool.or_false, Bool.false_eq_true, List.append_nil, List.nil_append]
  rfl
theorem bytes_doc (hf : FormMg (mgT x L)) : putB x.k.toNat 1 ++ putFs x L (lets (letters x.k)) = mgB (mgT x L) := by
  rcases kind_cases (show 1 ≤ x.k ∧ x.k ≤ 15 from hf.kind) with e | e | e | e | e | e | e | e | e | e | e | e | e | e | e
  · exact bytes_1 e hf
  · exact bytes_2 e hf
  · exact bytes_3 e hf
  · exact bytes_4 e hf
  · exact bytes_5 e hf
  · exact bytes_6 e hf
  · exact bytes_7 e hf
  · exact bytes_8 e hf
  · exact bytes_9 e hf
  · exact bytes_10 e hf
  · exact bytes_11 e hf
  · exact bytes_12 e hf
  · exact bytes_13 e hf
  · exact bytes_14 e hf
  · exact bytes_15 e hf
theorem gWrite_any (x : MgM) (L : MgL) (w : World) (h : MgAt w x L) (hf : MgF x) (hU : Tabs w) :
    Calls Tryd.prog 17 #[.agg (mgV x)] w (WrB w (formMg (mgT x L)) (mgB (mgT x L))) := by
  have h1 := gWrite_gen x L w h hf hU
  cases e : formMg (mgT x L)
  · rw [e] at h1; exact h1
  · rw [e, bytes_doc ((formMg_iff _).1 e)] at h1; exact h1
end

end Go.Proofs.YtcgfhjkdgpgheaaDoor
