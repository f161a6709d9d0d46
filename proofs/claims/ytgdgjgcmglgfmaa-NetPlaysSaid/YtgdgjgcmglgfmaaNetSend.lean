/- Contract of net's Send. Conditions: the net lies in memory, and what is sent. -/
import Derived.Test.YtgdgjgcmglgfmaaNetClose
import Derived.Test.YtgdgjgcmglgfmaaCodePut
import Derived.Test.YtgdgjgcmglgfmaaCodeNew
import Derived.Deep.RegionHeld3
namespace Go.Proofs.Ytgdgjgcmglgfmaa

open Go.RowKit

open Go.ChangeMaps (setBlock)

set_option linter.unusedVariables false
set_option linter.unusedSimpArgs false

set_option maxHeartbeats 1000000 in
theorem bclone_any (a : Option Addr) (m c : Nat) (l : List UInt8) (w : World) (hl : BAt w w.heap.size a m l) (hlen : m ≤ 1099511627776) :
    Calls Try.prog 34 #[.slice a m c] w (NewB w l) := by
  obtain ⟨i0, hi, hz0, hz1, hz2⟩ := info_parts Try.info5
  rcases a with _ | ad
  · have hm : m = 0 := by
      rcases hl with ⟨_, h | ⟨b, off, h, _⟩⟩
      · exact h
      · cases h
    obtain rfl : l = [] := List.eq_nil_of_length_eq_zero (by rw [hl.len, hm])
    have heq : ∀ W : World, (binOp .eql 32 (.slice none m c) (.slice none 0 0)).run Try.prog W = .ok (.bool true) W := fun W => Lib.run_eql_slice_nil W 32 5 _ _ _ _ _ Try.underlying32
    clear hm
    go_enter Try.func34, Try.ntmps34
    go_wp2
    go_ret
    exact ⟨none, 0, 0, rfl, World.ownsRow_nil _ _ _ _, Below.refl _ _⟩
  · have heq : ∀ W : World, (binOp .eql 32 (.slice (some ad) m c) (.slice none 0 0)).run Try.prog W = .ok (.bool false) W := fun W => Lib.run_eql_slice_nil W 32 5 _ _ _ _ _ Try.underlying32
    go_enter Try.func34, Try.ntmps34
    go_wp2_with (at_builtin; (refine wpList_append_bytes _ rfl _ _ 32 rfl w.heap.size 5 i0 Try.underlying32 hi hz0 hz1 hz2 _ 0 [] rfl (own_empty w) w.heap.size (some ad) m l c rfl (hl.alloc (Nat.le_refl _) _) (by omega) (by simp) ?_; intro v' w1 hown hg; have R : PutIn w w1 v' (0 + m) ([] ++ l) := ⟨hown, ((Below.refl _ _).alloc (Nat.le_refl _) _).grown hg (by simp) (own_block (own_empty w))⟩; clear hown hg))
    go_ret
    exact R.out

theorem pk_of_own {W : World} {B n c : Nat} {a : Option Addr} {l : Pk} (h : W.ownsRow B 5 1 (.slice a n c) n (bcells l)) : PkAt W (.slice a n c) l := by
  refine ⟨a, n, c, rfl, BAt.of_own h, fun b off ha hn => ?_⟩
  rcases h.2 with ⟨_, h0⟩ | ⟨g, cap, cur, hv, _, hh, _⟩
  · omega
  · injection hv with hv
    rw [ha] at hv; injection hv with hv; injection hv with hv
    subst hv
    exact ⟨cur, (0, 0), hh⟩
theorem not_own8 {W : World} {g : Nat} {m : Option Nat} {gs : List Bg} {k : Lk} {v : Value} {n : Nat} {xs : List Value} {ls : List Pk} (hn : NetIn W g m gs) (hR : RowOf W gs k v n xs ls) : v.ownBlock ≠ some g ∧ ∀ b, m = some b → v.ownBlock ≠ some b := by
  refine ⟨fun e => ?_, fun b hb e => ?_⟩
  · obtain ⟨x, hx, _, hj⟩ := hR.in_ g e
    obtain ⟨j, c, cu, e1, e2⟩ := (hn.rows x hx).block
    rw [e1] at hj; injection hj with hj
    rw [show j = g from hj, hn.hd.1] at e2
    injection e2 with e2; injection e2 with _ e3
    exact absurd e3 (by decide)
  · subst hb
    obtain ⟨x, hx, _, hj⟩ := hR.in_ b e
    obtain ⟨j, c, cu, e1, e2⟩ := (hn.rows x hx).block
    obtain ⟨_, es, c', h1, _⟩ := hn.hd.2
    rw [e1] at hj; injection hj with hj
    rw [show j = b from hj, h1] at e2
    cases e2
/-- What stands when a link's row alone has turned. -/
theorem heads_turned {W V : World} {g : Nat} {m : Option Nat} {gs : List Bg} {k : Lk} {v : Value} {n : Nat} {xs : List Value} {ls : List Pk} (hn : NetIn W g m gs) (hR : RowOf W gs k v n xs ls) (hF : Fr W V v.ownBlock.toList) : Heads V g m (hdOf gs) ∧ U8s W V := by
  have h1 := not_own8 hn hR
  refine ⟨hn.hd.moved fun i hi hm => hF.block i hi fun e => ?_, NetIn.u8s (W' := V) hn ⟨hF.os, hF.tape, hF.output, hF.size, fun i hi hno => hF.block i hi fun e => ?_⟩⟩
  · have e' : v.ownBlock = some i := by simpa using e
    rcases hm with rfl | rfl
    · exact h1.1 e'
    · exact h1.2 i rfl e'
  · obtain ⟨x, hx, _, hj⟩ := hR.in_ i (by simpa using e)
    exact hno (own_mem hx hj)
theorem send_row {W w3 w5 : World} {g : Nat} {m : Option Nat} {gs : List Bg} {k : Lk} {v v' u : Value} {n : Nat} {xs : List Value} {ls : List Pk} {l : Pk} {o : Obj} (hn : NetIn W g m gs) (hR : RowOf W gs k v n xs ls) (hB : Below W.heap.size W w3) (hp : PkAt w3 u l)
    (ho : w5.ownsRow 0 32 1 v' (n + 1) (xs ++ [u])) (hg : (w3.alloc o).grownBy w5 v.ownBlock) (hat : v'.ownBlock = v.ownBlock ∨ v'.ownBlock = some (w3.alloc o).heap.size) :
    Fr W w5 v.ownBlock.toList ∧ RowP w5 ⟨k, v', n + 1, xs ++ [u], ls ++ [l]⟩ ∧ (v'.ownBlock = v.ownBlock ∨ ∃ j, v'.ownBlock = some j ∧ W.heap.size ≤ j) := by
  have hB4 : Below W.heap.size W (w3.alloc o) := hB.alloc hB.size o
  have hF : Fr W w5 v.ownBlock.toList := ⟨hg.os.trans hB4.os, hg.tape.trans hB4.tape, hg.output.trans hB4.output, Nat.le_trans hB4.size hg.size, fun i hi hne => (hg.block i (Nat.lt_of_lt_of_le hi hB4.size) (fun e => hne (by rw [← e]; simp))).trans (hB4.block i hi)⟩
  have hu3 : U8s w3 w5 := fun b cur fr hb => by
    have hlt := lt_of_heap hb
    refine (hg.block b (by simp; omega) (fun e => ?_)).trans (heap_alloc_old w3 o hlt)
    obtain ⟨x, hx, _, hj⟩ := hR.in_ b e.symm
    obtain ⟨j, c, cu, e1, e2⟩ := (hn.rows x hx).block
    rw [e1] at hj; injection hj with hj
    have hb' : w3.heap[b]? = W.heap[b]? := hB.block b (hn.lt b (own_mem hx (by rw [e1]; exact congrArg some hj)))
    rw [hb', ← show j = b from hj, e2] at hb
    injection hb with hb; injection hb with _ e3
    exact absurd e3 (by decide)
  refine ⟨hF, ⟨ho, Nat.succ_pos _, (hR.pk.moved (heads_turned hn hR hF).2 hF.size).app (Pks.one (hp.moved hu3 (by have := hg.size; simp at this; omega)))⟩, ?_⟩
  rcases hat with h | h
  · exact .inl h
  · exact .inr ⟨_, h, hB4.size⟩

theorem box_fr {W V : World} {G : Nat} {cs : Array Value} {t : TypeId} {own : List Nat} (h : BoxC W G cs t) (hF : Fr W V own) (hn : G ∉ own) : BoxC V G cs t := (hF.block G (lt_of_heap h) hn).trans h
theorem row_lt {W : World} {g : Nat} {m : Option Nat} {gs : List Bg} {k : Lk} {v : Value} {n : Nat} {xs : List Value} {ls : List Pk} (hn : NetIn W g m gs) (hR : RowOf W gs k v n xs ls) {j : Nat} (hj : v.ownBlock = some j) : j < W.heap.size := by
  obtain ⟨x, hx, _, h1⟩ := hR.in_ j hj
  exact hn.lt j (own_mem hx h1)
theorem gm_lt {W : World} {g : Nat} {m : Option Nat} {gs : List Bg} (hn : NetIn W g m gs) : ∀ i ∈ g :: m.toList, i < W.heap.size := fun i hi => hn.lt i (by
  unfold ownN
  rcases List.mem_cons.1 hi with rfl | hi
  · exact List.mem_cons_self ..
  · exact List.mem_cons_of_mem _ (List.mem_append_left _ hi))
/-- Append onto a row of the call's own, at a step of a region that draws its order. -/
theorem step_append_row1 {P : Program} (w : World) {ops : Array Oper} {o : Oper} {a' : Act} {K : Act → World → Prop} {Q : Exit → Act → World → Prop} {E : Prop} (hgd : o.guard = none) (s x : Operand) (t : TypeId)
    (ho : o.op = .call { callee := .builtin .append, args := #[s, x], argTypes := #[t, t] })
    (base : Nat) (e : TypeId) (i : TypeInfo) (z : Value) (bytes : Nat) (ht : P.underlying t = some (.slice e)) (hi : P.info? e = some i) (hz : i.zero = some z)
    (hsize : i.size = 1) (hby : i.bytes = bytes) (hzs : z.cells.size = 1) (v : Value) (n : Nat) (xs : List Value) (hs : a'.eval s = v) (hown : w.ownsRow base e 1 v n xs)
    (a : Option Addr) (m c : Nat) (news : List Value) (hx : a'.eval x = .slice a m c) (hr : CellsAt w a m news) (h1 : ∀ u ∈ news, u.oneCell' = true)
    (h63 : n + m ≤ maxLen) (hlen : (n + m) * bytes ≤ 140737488355328) (hbase : base ≤ w.heap.size)
    (h : ∀ v' w', w'.ownsRow base e 1 v' (n + m) (xs ++ news) → w.grownBy w' v.ownBlock → (v'.ownBlock = v.ownBlock ∨ v'.ownBlock = some w.heap.size) → K (a'.put o.dst v') w') :
    if Region.wanted o (yielded ops a'.tmps) = true then Oper.wp P o a' w K Q else E := by
  have hw : Region.wanted o (yielded ops a'.tmps) = true := by simp [Region.wanted, hgd]
  rw [if_pos hw]
  obtain ⟨v', w', hrun, h2, h3, h4⟩ := run_append_row (P := P) w base t o.type e i z bytes ht hi hz hsize hby hzs v n xs hown a m c news hr h1 h63 hlen hbase
  unfold Oper.wp execOp
  simp only [ho, resolve, invoke, builtin, Sem.run_bind, Sem.run_pure, Result.andThen_ok, List.map_toArray, List.map_cons, List.map_nil, hs, hx, hrun]
  exact h v' w' h2 h3 h4

/-- What Send answers and leaves. -/
def SendR (W : World) (g : Nat) (own : List Nat) (bs : Bags) (k : Lk) (l : Pk) (e : Ending) (w' : World) : Prop :=
  e = .returned (.bool (decide ((getB bs k).length < 64))) ∧ Step W w' g own (if (getB bs k).length < 64 then keepB bs k (getB bs k ++ [l]) else bs)
theorem Step.same {W w' : World} {g : Nat} {own : List Nat} {bs : Bags} (h : NetC W g bs own) (hb : Below W.heap.size W w') : Step W w' g own bs := ⟨own, h.below hb, Fr.of_below hb, fun i hi => .inl hi⟩
theorem decT {a : Nat} (h : a < 64) : (decide ((a : Int) ≥ 64)) = false := decide_eq_false (by omega)
theorem decF {a : Nat} (h : ¬ a < 64) : (decide ((a : Int) ≥ 64)) = true := decide_eq_true (by omega)

set_option maxRecDepth 100000 in
set_option maxHeartbeats 4000000 in
theorem send_any (W : World) (g : Nat) (bs : Bags) (own : List Nat) (f t : Int) (a : Option Addr) (n c : Nat) (l : Pk) (h : NetC W g bs own) (hl : BAt W W.heap.size a n l) (hlen : n ≤ 1099511627776) :
    Calls Try.prog 18 #[.pointer (some ⟨g, 0, none⟩), .int .i64 f, .int .i64 t, .slice a n c] W (SendR W g own bs (f, t) l) := by
  have h0 := h
  obtain ⟨m, gs, hn, rfl, rfl⟩ := h
  obtain ⟨v, n0, xs, ls, hR⟩ := row_of hn (f, t)
  obtain ⟨a0, c0, rfl, _, _, _⟩ := own_form hR.own
  have HN := Lib.hid hn
  have HR := Lib.hid hR
  have HW := Lib.hid h0
  have H0 := Lib.hid ((Boxs.start W).more #[.int .i64 f, .int .i64 t] 42)
  have cB := bag_any g m (hdOf gs) f t _ (hn.hd.below H0.out.bel)
  rw [hR.is] at cB
  have hgl := hR.len
  have hget := hR.get
  unfold SendR
  rw [hget, hgl]
  have HL := Lib.hid hl
  have HM := Lib.hid hlen
  obtain ⟨iS, hi, hz0, hz1, hz2⟩ := info_parts Try.info32
  by_cases hlt : n0 < 64
  · rw [decide_eq_true hlt, if_pos hlt]
    have hd := decT hlt
    clear hn hR h0 hl hgl hget hlen
    go_enter Try.func18, Try.ntmps18
    go_upto_region 5 with (go_at_call 33; ((with_reducible refine cB.mono ?_); rintro e w2 ⟨rfl, hb2⟩; have X2 := Lib.hid (H0.out.below hb2); have s0 := (X2.out.get 0 _ _ _ rfl).two; clear hb2))
    have HD := Lib.hid X2.out.drew
    have LD : Hid (BAt w2.drew w2.drew.heap.size a n l) := (HL.out.below HD.out.bel (Nat.le_refl _)).more HD.out.bel.size
    clear H0 cB
    go_region_held3 (fun w' => w'.cell? ⟨W.heap.size, 0, none⟩ = some (.int .i64 f) ∧ w'.cell? ⟨W.heap.size, 1, none⟩ = some (.int .i64 t)) (first | exact s0 | exact s1 | exact s2 | exact s3 | exact s4)
      (first | (go_at_call 34; ((with_reducible refine (bclone_any a n c l _ LD.out HM.out).mono ?_); rintro e w3 ⟨a3, n3, c3, rfl, ho3, hb3⟩; have X3 := Lib.hid (HD.out.below hb3); have s1 := (X3.out.get 0 _ _ _ rfl).two; have P3 := Lib.hid (pk_of_own ho3); have s4 := ((X3.out.below ((Below.refl _ _).alloc (Nat.le_refl _) (.cells #[.slice a3 n3 c3] 32))).get 0 _ _ _ rfl).two; clear ho3 hb3)) | (refine step_append_row1 _ rfl _ _ 44 rfl 0 32 iS _ 24 Try.underlying44 hi hz0 hz1 hz2 rfl (.slice a0 n0 c0) n0 xs rfl (own_below HR.out.own (X3.out.bel.alloc X3.out.bel.size _)) (some ⟨w3.heap.size, 0, none⟩) 1 1 [.slice a3 n3 c3] rfl (CellsAt.one w3 _ _) (fun u hu => by simp at hu; subst hu; rfl) (by unfold maxLen; omega) (by omega) (Nat.zero_le _) ?_; intro v5 w5 ho5 hg5 hat5; obtain ⟨a5, c5, rfl, _, _, _⟩ := own_form ho5; have R5 := Lib.hid (send_row HN.out HR.out X3.out.bel P3.out ho5 hg5 hat5); have Y5 : Hid (BoxC w5 W.heap.size #[.int .i64 f, .int .i64 t] 42) := BoxC.grown ((X3.out.below ((Below.refl _ _).alloc (Nat.le_refl _) (.cells #[.slice a3 n3 c3] 32))).get 0 _ _ _ rfl) hg5 (fun e => by have := row_lt HN.out HR.out e.symm; omega); have s2 := Y5.out.two; clear ho5 hg5 hat5) | (go_at_call 35; ((with_reducible refine (keep_any g m (hdOf gs) f t a5 (n0 + 1) c5 w5 (heads_turned HN.out HR.out R5.out.1).1).mono ?_); rintro e w6 ⟨rfl, m6, hk6⟩; have K6 := Lib.hid hk6; have s3 := (box_fr Y5.out K6.out.fr (fun e => by have := gm_lt HN.out _ e; omega)).two; clear hk6)))
    go_wp2
    go_ret
    exact ⟨rfl, net_close (x := ⟨(f, t), .slice a5 (n0 + 1) c5, n0 + 1, xs ++ [.slice a3 n3 c3], ls ++ [l]⟩) HN.out HR.out R5.out.1 (fun _ => R5.out.2.1) R5.out.2.1.len (fun _ => R5.out.2.2) K6.out⟩
  · rw [decide_eq_false hlt, if_neg hlt]
    have hd := decF hlt
    clear hn hR h0 hl hgl hget hlen
    go_enter Try.func18, Try.ntmps18
    go_wp2_with (go_at_call 33; ((with_reducible refine cB.mono ?_); rintro e w2 ⟨rfl, hb2⟩; have X2 := Lib.hid (H0.out.below hb2); clear hb2))
    go_ret
    exact ⟨rfl, Step.same HW.out X2.out.bel⟩
end Go.Proofs.Ytgdgjgcmglgfmaa
