/- Boxes made after others; a transaction in memory while a box is written to. No condition. Contracts of txn.TakeId, takeReads, takeWrites. Conditions: the reader lies in memory; the tables of utf8 lie there. Contracts of txn.takeReads, takeWrites. Conditions: the reader lies in memory; the tables of utf8 lie there. Plain mathematics of keys that rise, and of formed transactions in memory. No condition. What came in, opened: an array of two integers; a slice of bytes. No condition. -/
import Derived.Test.YtcfmifongbapkaaGreatDoorQG
import Derived.Test.YtcfmifongbapkaaGreatDoorQO
import Derived.Test.YtcfmifongbapkaaGreatDoorQP
import Derived.Test.YtcfmifongbapkaaGreatDoorQL
import Derived.Test.YtcfmifongbapkaaGreatDoorQH
import Derived.Test.YtcfmifongbapkaaGreatDoorQE
import Derived.Test.YtcfmifongbapkaaGreatDoorQC
import Derived.OpenShut
import Derived.ChangeOld
import Derived.ProofKit
/- TxnLies -/
namespace Go.Proofs.YtcfmifongbapkaaGreatDoor

open Go.RowKit

theorem Tryz.rInfo153 : (Tryz.prog.info? 153).map (fun i => (i.zero, i.size, i.bytes)) = some (some (.agg #[.string ⟨#[]⟩, .int .u64 0]), 2, 24) := by kernel_rfl
theorem Tryz.rInfo157 : (Tryz.prog.info? 157).map (fun i => (i.zero, i.size, i.bytes)) = some (some (.agg #[.string ⟨#[]⟩, .int .i64 0, .int .u64 0, .string ⟨#[]⟩]), 4, 48) := by kernel_rfl
theorem RowAt.oneR (W : World) (x : RdM) (t : TypeId) : RowAt (W.alloc (.cells #[.string x.1, .int .u64 ((x.2 : Nat) : Int)] t)) (W.heap.size + 1) (some ⟨W.heap.size, 0, none⟩) 1 2 (readC x) := RowAt.one W #[.string x.1, .int .u64 ((x.2 : Nat) : Int)] t
theorem RowAt.oneW (W : World) (x : WrM) (t : TypeId) : RowAt (W.alloc (.cells #[.string x.key, .int .i64 x.k, .int .u64 ((x.b : Nat) : Int), .string x.t] t)) (W.heap.size + 1) (some ⟨W.heap.size, 0, none⟩) 1 4 (writeC x) := RowAt.one W #[.string x.key, .int .i64 x.k, .int .u64 ((x.b : Nat) : Int), .string x.t] t
/-- A box beside those that lie there, made after them. -/
def BoxG (w W : World) (G : Nat) (cs : Array Value) (t : TypeId) (L : List (Nat × Array Value × TypeId)) : Prop := Boxs w W ((G, cs, t) :: L) ∧ (∀ b ∈ L, b.1 < G) ∧ w.heap.size ≤ G
section

variable {w W W' : World} {G : Nat} {cs : Array Value} {t : TypeId} {L : List (Nat × Array Value × TypeId)}

theorem BoxG.new (h : Boxs w W L) (cs : Array Value) (t : TypeId) : BoxG w (W.alloc (.cells cs t)) W.heap.size cs t L := ⟨h.more cs t, fun b hb => (h.2 b hb).lt, h.1.size⟩
theorem BoxG.below (h : BoxG w W G cs t L) (hb : Below W.heap.size W W') : BoxG w W' G cs t L := ⟨h.1.below hb, h.2⟩
theorem BoxG.drew (h : BoxG w W G cs t L) : BoxG w W.drew G cs t L := ⟨h.1.drew, h.2⟩
theorem BoxG.boxs (h : BoxG w W G cs t L) : Boxs w W ((G, cs, t) :: L) := h.1
theorem BoxG.tail (h : BoxG w W G cs t L) : Boxs w W L := h.1.tail
theorem BoxG.bel (h : BoxG w W G cs t L) : Below w.heap.size w W := h.1.1
theorem BoxG.set (h : BoxG w W G cs t L) (i : Nat) (u : Value) : BoxG w (W.setCell ⟨G, i, none⟩ u) G (cs.setIfInBounds i u) t L := by
  refine ⟨⟨h.1.1.setCell h.2.2 _, fun b hb => ?_⟩, h.2⟩
  rcases List.mem_cons.1 hb with rfl | hb
  · exact (h.1.get 0 _ _ _ rfl).set i u
  · exact (h.1.2 b (List.mem_cons_of_mem _ hb)).far i u (Nat.ne_of_lt (h.2.1 b hb))
theorem BoxG.four {x y z u : Value} (h : BoxG w W G #[x, y, z, u] t L) : (W.cell? ⟨G, 0, none⟩ = some x ∧ W.cell? ⟨G, 1, none⟩ = some y ∧ W.cell? ⟨G, 2, none⟩ = some z ∧ W.cell? ⟨G, 3, none⟩ = some u) ∧ W.frozen? ⟨G, 0, none⟩ = false ∧ W.frozen? ⟨G, 1, none⟩ = false ∧ W.frozen? ⟨G, 2, none⟩ = false ∧ W.frozen? ⟨G, 3, none⟩ = false :=
  ⟨(h.1.get 0 _ _ _ rfl).four, (h.1.get 0 _ _ _ rfl).frozen 0, (h.1.get 0 _ _ _ rfl).frozen 1, (h.1.get 0 _ _ _ rfl).frozen 2, (h.1.get 0 _ _ _ rfl).frozen 3⟩
/-- No cell of it is a text. -/
def NoStr (cs : Array Value) : Prop := ∀ (i : Nat) (z : ByteArray), cs[i]? ≠ some (.string z)
theorem noStr_tx (s q : Int) (a : Option Addr) (n c : Nat) (b : Option Addr) (m d : Nat) : NoStr (txV s q a n c b m d) := by
  intro i z
  match i with
  | 0 => simp
  | 1 => simp
  | 2 => simp
  | 3 => simp
  | i + 4 => simp
theorem RowAt.set_far {B n k : Nat} {a : Option Addr} {xs : List Value} (h : RowAt W B a n k xs) (hs : n ≠ 0 → ∃ z, xs[0]? = some (.string z)) (hb : BoxC W G cs t) (hn : NoStr cs) (i : Nat) (u : Value) : RowAt (W.setCell ⟨G, i, none⟩ u) B a n k xs := by
  rcases h with ⟨hl, h | ⟨b, off, ha, hb', hc⟩⟩
  · exact ⟨hl, .inl h⟩
  · by_cases h0 : n = 0
    · exact ⟨hl, .inl h0⟩
    · obtain ⟨z, hz⟩ := hs h0
      have h1 := hc 0 _ hz
      have hne : b ≠ G := by
        rintro rfl
        rw [cell_of_row _ _ _ _ _ _ hb] at h1
        exact hn _ _ h1
      exact ⟨hl, .inr ⟨b, off, ha, hb', fun j v hv => (World.cell?_of_block (Below.heap_setCell _ _ _ _ hne)).trans (hc j v hv)⟩⟩
theorem TxAt.set1 {a1 a2 : Option Addr} {n1 n2 : Nat} {L1 : List RdM} {L2 : List WrM} (h : TxAt W a1 n1 a2 n2 L1 L2) (hb : BoxC W G cs t) (hn : NoStr cs) (i : Nat) (u : Value) : TxAt (W.setCell ⟨G, i, none⟩ u) a1 n1 a2 n2 L1 L2 := by
  have e : (W.setCell ⟨G, i, none⟩ u).heap.size = W.heap.size := by simp
  refine ⟨⟨⟨h.lenR, ?_⟩, ⟨h.lenW, ?_⟩⟩, h.okR, h.okW⟩
  · rw [e]
    refine h.rds.2.set_far (fun h0 => ?_) hb hn i u
    have := h.lenR
    match L1 with
    | [] => exact absurd this.symm h0
    | x :: r => exact ⟨x.1, rfl⟩
  · rw [e]
    refine h.wrs.2.set_far (fun h0 => ?_) hb hn i u
    have := h.lenW
    match L2 with
    | [] => exact absurd this.symm h0
    | x :: r => exact ⟨x.key, rfl⟩
theorem TxAt.set4 {a1 a2 : Option Addr} {n1 n2 : Nat} {L1 : List RdM} {L2 : List WrM} (h : TxAt W a1 n1 a2 n2 L1 L2) {s q : Int} {a : Option Addr} {n c : Nat} {b : Option Addr} {m d : Nat} (hb : BoxG w W G (txV s q a n c b m d) t L) (s' q' : Int) (a' : Option Addr) (n' c' : Nat) (b' : Option Addr) (m' d' : Nat) :
    TxAt ((((W.setCell ⟨G, 0, none⟩ (.int .i64 s')).setCell ⟨G, 1, none⟩ (.int .i64 q')).setCell ⟨G, 2, none⟩ (.slice a' n' c')).setCell ⟨G, 3, none⟩ (.slice b' m' d')) a1 n1 a2 n2 L1 L2 :=
  (((h.set1 (hb.1.get 0 _ _ _ rfl) (noStr_tx _ _ _ _ _ _ _ _) 0 _).set1 (t := t) (cs := txV s' q a n c b m d) ((hb.set 0 _).1.get 0 _ _ _ rfl) (noStr_tx _ _ _ _ _ _ _ _) 1 _).set1 (t := t) (cs := txV s' q' a n c b m d) (((hb.set 0 _).set 1 _).1.get 0 _ _ _ rfl) (noStr_tx _ _ _ _ _ _ _ _) 2 _).set1 (t := t) (cs := txV s' q' a' n' c' b m d) ((((hb.set 0 _).set 1 _).set 2 _).1.get 0 _ _ _ rfl) (noStr_tx _ _ _ _ _ _ _ _) 3 _
theorem TxAt.drew {a1 a2 : Option Addr} {n1 n2 : Nat} {L1 : List RdM} {L2 : List WrM} (h : TxAt W a1 n1 a2 n2 L1 L2) : TxAt W.drew a1 n1 a2 n2 L1 L2 := h.later (below_drewN 1 (Below.refl _ _))
theorem TxAt.rows {a1 a2 : Option Addr} {L1 : List RdM} {L2 : List WrM} (h1 : RowAt W W.heap.size a1 L1.length 2 (L1.flatMap readC)) (h2 : RowAt W W.heap.size a2 L2.length 4 (L2.flatMap writeC)) (o1 : ∀ x ∈ L1, RdOk x) (o2 : ∀ x ∈ L2, WrOk x) : TxAt W a1 L1.length a2 L2.length L1 L2 := ⟨⟨⟨rfl, h1⟩, ⟨rfl, h2⟩⟩, o1, o2⟩
theorem BoxG.set4 {x y z u : Value} (h : BoxG w W G #[x, y, z, u] t L) (x' y' z' u' : Value) : BoxG w ((((W.setCell ⟨G, 0, none⟩ x').setCell ⟨G, 1, none⟩ y').setCell ⟨G, 2, none⟩ z').setCell ⟨G, 3, none⟩ u') G #[x', y', z', u'] t L := (((h.set 0 x').set 1 y').set 2 z').set 3 u'
end

end Go.Proofs.YtcfmifongbapkaaGreatDoor

/- TxnTake -/
namespace Go.Proofs.YtcfmifongbapkaaGreatDoor

open Go.RowKit

set_option linter.unusedVariables false

theorem okS_any (g : Nat) (st : St) (W : World) (h : RS g st W) : Calls Tryz.prog 85 #[.pointer (some ⟨g, 0, none⟩)] W fun e w' => e = .returned (.bool st.isSome) ∧ W = w' := by
  cases st with
  | none => exact ok_any g [] false W h
  | some l => exact ok_any g l true W h
theorem RS.rd {g : Nat} {st : St} {W : World} (h : RS g st W) : ∃ l ok, RdAt W g l ok := by
  cases st with
  | none => exact ⟨_, _, h⟩
  | some l => exact ⟨_, _, h⟩
abbrev valV (v : Val) : Value := .agg #[.int .i64 v.k, .int .u64 ((v.b : Nat) : Int), .string ⟨v.t.toArray⟩]
abbrev idV (x : IdN) : Value := .agg #[.int .i64 x.1, .int .i64 x.2]
theorem takeVS_any (g : Nat) (st : St) (W : World) (h : RS g st W) (hT : Tabs W) :
    Calls Tryz.prog 152 #[.pointer (some ⟨g, 0, none⟩)] W (Took1 (RS g) g valV valP ⟨0, 0, []⟩ st W) := by
  cases st with
  | none => exact (takesV.2 g [] false W h (fun h => by cases h.1) hT).mono fun e w' ⟨h1, h2, h3⟩ => ⟨⟨0, 0, []⟩, none, h1, h2, h3, .no _ (fun l e => by cases e), fun _ => rfl⟩
  | some l =>
    by_cases hk : tkOk l
    · exact (takesV.1 g l W h hk hT).mono fun e w' ⟨h1, h2, h3⟩ => ⟨tkV l, some (l.drop (tkN l)), h1, h2, h3, .yes (valP_yes hk), fun e => by cases e⟩
    · exact (takesV.2 g l true W h (fun h => hk h.2) hT).mono fun e w' ⟨h1, h2, h3⟩ => ⟨⟨0, 0, []⟩, none, h1, h2, h3, .no _ (fun l' e => by injection e with e; subst e; exact valP_no hk), fun _ => rfl⟩
theorem refTakeVS_any (B g : Nat) (L : List UInt8) (st : St) (W : World) (h : FS B g L st W) :
    Calls Tryz.prog 116 #[.pointer (some ⟨g, 0, none⟩)] W (Took1 (FS B g L) g valV valP ⟨0, 0, []⟩ st W) := by
  obtain ⟨q, h, hq⟩ := h
  cases st with
  | none => exact (refTakeV_no B g L q false W h (fun h => by cases h.1)).mono fun e w' ⟨q', h1, h2, h3⟩ => ⟨⟨0, 0, []⟩, none, h1, ⟨q', h2, fun l e => by cases e⟩, h3, .no _ (fun l e => by cases e), fun _ => rfl⟩
  | some l =>
    obtain rfl := hq l rfl
    by_cases hk : tkOk (L.drop q)
    · exact (refTakeV_yes B g L q W h hk).mono fun e w' ⟨h1, h2, h3⟩ => ⟨tkV (L.drop q), some ((L.drop q).drop (tkN (L.drop q))), h1, ⟨_, h2, fun l e => by injection e with e; rw [← e, List.drop_drop]⟩, h3, .yes (valP_yes hk), fun e => by cases e⟩
    · exact (refTakeV_no B g L q true W h (fun h => hk h.2)).mono fun e w' ⟨q', h1, h2, h3⟩ => ⟨⟨0, 0, []⟩, none, h1, ⟨q', h2, fun l e => by cases e⟩, h3, .no _ (fun l' e => by injection e with e; subst e; exact valP_no hk), fun _ => rfl⟩
theorem val_lt {st st' : St} {v : Val} (h : Res valP st v st') (h0 : st' = none → v = ⟨0, 0, []⟩) : v.b < 18446744073709551616 ∧ v.t.length ≤ 65535 := by
  rcases h with ⟨l, r, rfl, h, rfl⟩ | ⟨_, e⟩
  · by_cases hk : tkOk l
    · rw [valP_yes hk] at h
      injection h with h; injection h with h _
      subst h
      unfold tkV
      split
      · refine ⟨?_, Nat.zero_le _⟩
        have h1 := numB_lt ((l.drop 1).take 8)
        have h2 : ((l.drop 1).take 8).length ≤ 8 := by rw [List.length_take]; omega
        exact Nat.lt_of_lt_of_le h1 (Nat.le_trans (Nat.pow_le_pow_right (by omega) h2) (by decide))
      · split
        · refine ⟨(by show 0 < 18446744073709551616; decide), ?_⟩
          have := textLen_lt (l.drop 1)
          show (((l.drop 1).drop 2).take (textLen (l.drop 1))).length ≤ 65535
          rw [List.length_take]; omega
        · exact ⟨(by show 0 < 18446744073709551616; decide), Nat.zero_le _⟩
    · rw [valP_no hk] at h; cases h
  · rw [h0 e]; exact ⟨by decide, Nat.zero_le _⟩

set_option maxHeartbeats 1000000 in
theorem tfail_any (g : Nat) (st : St) (W : World) (h : RS g st W) :
    Calls Tryz.prog 144 #[.pointer (some ⟨g, 0, none⟩)] W fun e w' => e = .returned (.tuple #[]) ∧ RS g none w' ∧ Only g W w' := by
  obtain ⟨l, ok, hr⟩ := h.rd
  have c := take_no g l ok (-1) W hr (.inr (.inl (by omega)))
  clear hr h
  go_enter Tryz.func144, Tryz.ntmps144
  go_wp2_with (go_at_call 80; ((with_reducible refine c.mono ?_); rintro e w1 ⟨rfl, hr1, ho1⟩))
  go_end0
  exact ⟨rfl, hr1, ho1⟩

theorem res_id {st st1 st2 : St} {x y : Nat} (h1 : Res (numP 1) st x st1) (h2 : Res (numP 4) st1 y st2) : Res idP st ((x : Int), (y : Int)) st2 := by
  unfold idP
  exact Res.bind (x := x) h1 (Res.bind (x := y) h2 (Res.pure _ _))
set_option maxRecDepth 100000 in
set_option maxHeartbeats 2000000 in
theorem tTakeId_any (g : Nat) (st : St) (w : World) (h : RS g st w) :
    Calls Tryz.prog 141 #[.pointer (some ⟨g, 0, none⟩)] w (Took1 (RS g) g idV idQ (0, 0) st w) := by
  have hlt := h.lt
  have H0 := Lib.hid ((RdO.start h hlt).more #[.int .i64 0, .int .i64 0] 26)
  have c1 : ∀ s W, RS g s W → Calls Tryz.prog 80 #[.pointer (some ⟨g, 0, none⟩), .int .i64 1] W (Took1 (RS g) g numV (numP 1) 0 s W) := fun s W h => takeS_any g 1 s W h (by omega)
  have c4 : ∀ s W, RS g s W → Calls Tryz.prog 80 #[.pointer (some ⟨g, 0, none⟩), .int .i64 4] W (Took1 (RS g) g numV (numP 4) 0 s W) := fun s W h => takeS_any g 4 s W h (by omega)
  clear h
  go_enter Tryz.func141, Tryz.ntmps141
  go_upto_region 2 with (go_at_call 80; ((with_reducible refine (c1 _ _ H0.out.rdr).mono ?_); rintro e w1 ⟨x, st1, rfl, hr1, ho1, hR1, hz1⟩; have H1 := Lib.hid (H0.out.only hr1 ho1); have R1 := Lib.hid hR1; have Z1 := Lib.hid hz1; have hx : x < 256 := num_lt hR1 hz1 (by decide); clear hr1 ho1 hR1 hz1))
  have H2 := Lib.hid (H1.out.more #[.int .i64 x, .int .i64 0] 26)
  have hG : w.heap.size < w1.heap.size := (H1.out.get 0 _ _ _ rfl).lt
  clear H0 H1
  generalize w1.alloc (.cells #[.int .i64 x, .int .i64 0] 26) = W2 at *
  generalize w1.heap.size = G at *
  have hgG : g ≠ G := by omega
  go_upto_region 3 with (go_at_call 80; ((with_reducible refine (c4 _ _ H2.out.rdr).mono ?_); rintro e w3 ⟨y, st2, rfl, hr3, ho3, hR3, hz3⟩; have H3 := Lib.hid (H2.out.only hr3 ho3); obtain ⟨x0, x1⟩ := (H3.out.get 0 _ _ _ rfl).two; have f1 := (H3.out.get 0 _ _ _ rfl).frozen 1; have R3 := Lib.hid hR3; have Z3 := Lib.hid hz3; have hy : y < 4294967296 := num_lt hR3 hz3 (by decide); clear hr3 ho3 hR3 hz3))
  have H4 : Hid (RdO (RS g st2) g w (w3.setCell ⟨G, 1, none⟩ (.int .i64 y)) [(G, #[.int .i64 x, .int .i64 y], 26), (w.heap.size, #[.int .i64 0, .int .i64 0], 26)] []) := H3.out.set (by simp; omega) 1 (.int .i64 y)
  have RR : Hid (Res idP st ((x : Int), (y : Int)) st2) := res_id R1.out R3.out
  clear H2 H3 x0 x1 f1 c1 c4 R1 R3 Z1
  generalize w3.setCell ⟨G, 1, none⟩ (.int .i64 y) = W4 at *
  obtain ⟨x0, x1⟩ := (H4.out.get 0 _ _ _ rfl).two
  have cI := tId_any (x : Int) (y : Int)
  cases hf : idB ((x : Int), (y : Int))
  · rw [hf] at cI
    have Q := Lib.hid (RR.out.guard_bad (c := idB) hf (0, 0))
    clear hf RR
    go_wp2_with (first | (go_at_call 117; ((with_reducible refine (cI _).mono ?_); rintro e w5 ⟨rfl, hb5⟩; have H5 := Lib.hid (H4.out.below hb5))) | (go_at_call 144; ((with_reducible refine (tfail_any g _ _ H5.out.rdr).mono ?_); rintro e w6 ⟨rfl, hr6, ho6⟩; have H6 := Lib.hid (H5.out.only hr6 ho6); (clear x0 x1); obtain ⟨x0, x1⟩ := (H6.out.get 0 _ _ _ rfl).two; obtain ⟨z0, z1⟩ := (H6.out.get 1 _ _ _ rfl).two; have f0 := (H6.out.get 1 _ _ _ rfl).frozen 0; have f1 := (H6.out.get 1 _ _ _ rfl).frozen 1)))
    have H7 := H6.out.tail.set (fun _ h => by cases h) 0 (.int .i64 0)
    have H8 := H7.set (fun _ h => by cases h) 1 (.int .i64 0)
    exact bodyPost_ret (v := .agg #[.int .i64 0, .int .i64 0]) (by simp [results, Tryz.results141, go_sem, z0, z1]) rfl ⟨(0, 0), none, rfl, H8.rdr, H8.onl, Q.out, fun _ => rfl⟩
  · rw [hf] at cI
    have hne : st2 ≠ none := fun e => by
      have := Z3.out e
      rw [idB_iff] at hf
      have := hf.2.1
      omega
    have Q := Lib.hid (RR.out.guard_yes (c := idB) hf)
    clear hf RR
    go_wp2_with (go_at_call 117; ((with_reducible refine (cI _).mono ?_); rintro e w5 ⟨rfl, hb5⟩; have H6 := Lib.hid (H4.out.below hb5); (clear x0 x1); obtain ⟨x0, x1⟩ := (H6.out.get 0 _ _ _ rfl).two; obtain ⟨z0, z1⟩ := (H6.out.get 1 _ _ _ rfl).two; have f0 := (H6.out.get 1 _ _ _ rfl).frozen 0; have f1 := (H6.out.get 1 _ _ _ rfl).frozen 1))
    have H7 := H6.out.tail.set (fun _ h => by cases h) 0 (.int .i64 x)
    have H8 := H7.set (fun _ h => by cases h) 1 (.int .i64 y)
    exact bodyPost_ret (v := .agg #[.int .i64 x, .int .i64 y]) (by simp [results, Tryz.results141, go_sem, z0, z1]) rfl ⟨((x : Int), (y : Int)), st2, rfl, H8.rdr, H8.onl, Q.out, fun e => absurd e hne⟩
end Go.Proofs.YtcfmifongbapkaaGreatDoor

/- TxnTakeL -/
namespace Go.Proofs.YtcfmifongbapkaaGreatDoor

open Go.RowKit

set_option linter.unusedVariables false

/-- Reads are taken, writes are: a new row of them is answered, the reader goes on. -/
def TookR (rd : St → World → Prop) (g : Nat) (st : St) (w : World) (e : Ending) (w' : World) : Prop :=
  ∃ (xs : List RdM) (v : Value) (st' : St), e = .returned v ∧ rd st' w' ∧ Only g w w' ∧ w'.ownsRow w.heap.size 153 2 v xs.length (xs.flatMap readC) ∧ (xs.length ≤ 255 ∧ ∀ x ∈ xs, RdOk x) ∧ Res (listP readP) st (txR xs) st'
def TookW (rd : St → World → Prop) (g : Nat) (st : St) (w : World) (e : Ending) (w' : World) : Prop :=
  ∃ (xs : List WrM) (v : Value) (st' : St), e = .returned v ∧ rd st' w' ∧ Only g w w' ∧ w'.ownsRow w.heap.size 157 4 v xs.length (xs.flatMap writeC) ∧ (xs.length ≤ 255 ∧ ∀ x ∈ xs, WrOk x) ∧ Res (listP (writeP valP)) st (txW xs) st'
theorem txR_app (xs : List RdM) (y : List UInt8) (z : Nat) : txR (xs ++ [(⟨y.toArray⟩, z)]) = txR xs ++ [(y, z)] := by simp [txR]
theorem txW_app (xs : List WrM) (y : List UInt8) (v : Val) : txW (xs ++ [⟨⟨y.toArray⟩, v.k, v.b, ⟨v.t.toArray⟩⟩]) = txW xs ++ [(y, v)] := by simp [txW, valM]

set_option maxRecDepth 100000 in
set_option maxHeartbeats 2000000 in
theorem takeReads_any (g : Nat) (st : St) (w : World) (h : RS g st w) :
    Calls Tryz.prog 142 #[.pointer (some ⟨g, 0, none⟩)] w (TookR (RS g) g st w) := by
  obtain ⟨iR, hi, hz0, hz1, hz2⟩ := info_parts Tryz.rInfo153
  have hlt := h.lt
  have H0 := Lib.hid (RdO.start h hlt)
  have c1 : ∀ s W, RS g s W → Calls Tryz.prog 80 #[.pointer (some ⟨g, 0, none⟩), .int .i64 1] W (Took1 (RS g) g numV (numP 1) 0 s W) := fun s W h => takeS_any g 1 s W h (by omega)
  have c8 : ∀ s W, RS g s W → Calls Tryz.prog 80 #[.pointer (some ⟨g, 0, none⟩), .int .i64 8] W (Took1 (RS g) g numV (numP 8) 0 s W) := fun s W h => takeS_any g 8 s W h (by omega)
  have ct : ∀ s W, RS g s W → Calls Tryz.prog 151 #[.pointer (some ⟨g, 0, none⟩), .int .i64 12] W (Took1 (RS g) g textV (textP 12) [] s W) := fun s W h => takeTextS_any g 12 s W h
  clear h
  go_enter Tryz.func142, Tryz.ntmps142
  go_wp2_with (go_at_call 80; ((with_reducible refine (c1 _ _ H0.out.rdr).mono ?_); rintro e w1 ⟨n, st1, rfl, hr1, ho1, hR1, hzz1⟩; have H1 := Lib.hid (H0.out.only hr1 ho1); have R1 := Lib.hid hR1; have hn : n < 256 := num_lt hR1 hzz1 (by decide); clear hr1 ho1 hR1 hzz1))
  clear c1 H0
  go_loopw [3, 7] (fun v i wr => ∃ (k : Nat) (xs : List RdM) (st2 : St), k ≤ n ∧ i = .int .u64 k ∧ RdO (RS g st2) g w wr [] [⟨153, 2, v, xs.length, xs.flatMap readC⟩] ∧ (∀ x ∈ xs, RdOk x) ∧ RunZ readP n st1 k (txR xs) st2) (fun _ i _ => n - (intOf i).toNat)
  case atStart => exact ⟨0, [], st1, Nat.zero_le _, rfl, H1.out.none _ _, (fun x hx => by cases hx), RunZ.start _ _ _⟩
  case round =>
    obtain ⟨k, xs, st2, hk, rfl, hO, hok, hrun⟩ := hrel
    have OO := Lib.hid hO
    have KK := Lib.hid hok
    have RU := Lib.hid hrun
    have hxl : xs.length ≤ 255 := by have := hrun.len; simp only [txR, List.length_map] at this; omega
    have hxn : xs.length ≤ n := by have := hrun.len; simp only [txR, List.length_map] at this; omega
    clear hO hok hrun H1
    by_cases hltk : k < n
    · go_upto_region 5 with (go_at_call 151; ((with_reducible refine (ct _ _ OO.out.rdr).mono ?_); rintro e w2 ⟨y, st3, rfl, hr2, ho2, hR2, hzz2⟩; have H2 := Lib.hid (OO.out.only hr2 ho2); have R2 := Lib.hid hR2; have hy : y.length ≤ 12 := text_le hR2 hzz2; clear hr2 ho2 hR2 hzz2))
      have H3 := Lib.hid (H2.out.more #[.string ⟨y.toArray⟩, .int .u64 0] 153)
      have hGw := H2.out.size
      clear H2 OO
      generalize w2.alloc (.cells #[.string ⟨y.toArray⟩, .int .u64 0] 153) = W3 at *
      generalize w2.heap.size = G at *
      have hgG : g ≠ G := by omega
      go_upto_region 6 with (go_at_call 80; ((with_reducible refine (c8 _ _ H3.out.rdr).mono ?_); rintro e w4 ⟨z, st4, rfl, hr4, ho4, hR4, hzz4⟩; have H4 := Lib.hid (H3.out.only hr4 ho4); obtain ⟨x0, x1⟩ := (H4.out.get 0 _ _ _ rfl).two; have f1 := (H4.out.get 0 _ _ _ rfl).frozen 1; have R4 := Lib.hid hR4; have hzl : z < 18446744073709551616 := num_lt hR4 hzz4 (by decide); clear hr4 ho4 hR4 hzz4))
      have H5 : Hid (RdO (RS g st4) g w (w4.setCell ⟨G, 1, none⟩ (.int .u64 z)) [(G, #[.string ⟨y.toArray⟩, .int .u64 z], 153)] [⟨153, 2, _, xs.length, xs.flatMap readC⟩]) := H4.out.set (fun _ h => by cases h) 1 (.int .u64 z)
      have RR : Hid (Res readP st2 (y, z) st4) := by unfold Hid readP; exact Res.bind (x := y) R2.out (Res.bind (x := z) R4.out (Res.pure _ _))
      have RN := Lib.hid (RU.out.next hltk RR.out)
      clear H3 H4 x0 x1 f1 R2 R4 RR RU
      generalize w4.setCell ⟨G, 1, none⟩ (.int .u64 z) = W5 at *
      obtain ⟨x0, x1⟩ := (H5.out.get 0 _ _ _ rfl).two
      have hsz := H5.out.size
      go_wp2_with (at_builtin; (refine wpList_append_rowk _ rfl _ _ 27 rfl w.heap.size 153 iR _ 2 24 Tryz.underlying27 hi hz0 hz1 hz2 rfl (by omega) _ xs.length (xs.flatMap readC) rfl (H5.out.alloc _).head (W5.heap.size + 1) (some ⟨W5.heap.size, 0, none⟩) 1 1 (readC (⟨y.toArray⟩, z)) rfl (RowAt.oneR W5 (⟨y.toArray⟩, z) _) (readC_cells _) (by unfold maxLen; omega) (by omega) (by simp; omega) ?_; intro v6 w6 ho6 hg6 hat6; have M6 := Lib.hid ((H5.out.alloc _).grow ho6 hg6 hat6).tail; clear ho6 hg6 hat6))
      go_roundw
      case rel => exact ⟨k + 1, xs ++ [(⟨y.toArray⟩, z)], st4, by omega, by go_num, by rw [List.length_append, List.flatMap_append]; simpa using M6.out, (fun x hx => by
          rcases List.mem_append.1 hx with hx | hx
          · exact KK.out x hx
          · simp only [List.mem_cons, List.not_mem_nil, or_false] at hx
            subst hx
            refine ⟨?_, hzl⟩
            show y.toArray.size ≤ maxLen
            unfold maxLen; simp; omega), by rw [txR_app]; exact RN.out⟩
      case measure => simp [intOf]; omega
    · have hkn : n = k := by omega
      subst hkn
      have QQ : Hid (Res (listP readP) st (txR xs) st2) := by unfold Hid listP; exact Res.bind (x := n) R1.out RU.out.done
      obtain ⟨a7, c7, e7, _, _⟩ := ownk_form OO.out.head
      have e7' : u3 = .slice a7 xs.length c7 := e7
      clear e7
      subst e7'
      go_wp2
      go_ret
      exact ⟨xs, _, st2, rfl, OO.out.rdr, OO.out.onl, OO.out.head, ⟨hxl, KK.out⟩, QQ.out⟩

set_option maxRecDepth 100000 in
set_option maxHeartbeats 2000000 in
theorem takeWrites_any (g : Nat) (st : St) (w : World) (h : RS g st w) (hU : Tabs w) :
    Calls Tryz.prog 143 #[.pointer (some ⟨g, 0, none⟩)] w (TookW (RS g) g st w) := by
  obtain ⟨iR, hi, hz0, hz1, hz2⟩ := info_parts Tryz.rInfo157
  have hlt := h.lt
  have H0 := Lib.hid (RdO.start h hlt)
  have c1 : ∀ s W, RS g s W → Calls Tryz.prog 80 #[.pointer (some ⟨g, 0, none⟩), .int .i64 1] W (Took1 (RS g) g numV (numP 1) 0 s W) := fun s W h => takeS_any g 1 s W h (by omega)
  obtain ⟨l0, ok0, hrd0⟩ := h.rd
  have cv : ∀ s W, RS g s W → Only g w W → Calls Tryz.prog 152 #[.pointer (some ⟨g, 0, none⟩)] W (Took1 (RS g) g valV valP ⟨0, 0, []⟩ s W) := fun s W h ho => takeVS_any g s W h (hU.only hrd0 ho)
  have ct : ∀ s W, RS g s W → Calls Tryz.prog 151 #[.pointer (some ⟨g, 0, none⟩), .int .i64 12] W (Took1 (RS g) g textV (textP 12) [] s W) := fun s W h => takeTextS_any g 12 s W h
  clear h hrd0 hU
  go_enter Tryz.func143, Tryz.ntmps143
  go_wp2_with (go_at_call 80; ((with_reducible refine (c1 _ _ H0.out.rdr).mono ?_); rintro e w1 ⟨n, st1, rfl, hr1, ho1, hR1, hzz1⟩; have H1 := Lib.hid (H0.out.only hr1 ho1); have R1 := Lib.hid hR1; have hn : n < 256 := num_lt hR1 hzz1 (by decide); clear hr1 ho1 hR1 hzz1))
  clear c1 H0
  go_loopw [3, 7] (fun v i wr => ∃ (k : Nat) (xs : List WrM) (st2 : St), k ≤ n ∧ i = .int .u64 k ∧ RdO (RS g st2) g w wr [] [⟨157, 4, v, xs.length, xs.flatMap writeC⟩] ∧ (∀ x ∈ xs, WrOk x) ∧ RunZ (writeP valP) n st1 k (txW xs) st2) (fun _ i _ => n - (intOf i).toNat)
  case atStart => exact ⟨0, [], st1, Nat.zero_le _, rfl, H1.out.none _ _, (fun x hx => by cases hx), RunZ.start _ _ _⟩
  case round =>
    obtain ⟨k, xs, st2, hk, rfl, hO, hok, hrun⟩ := hrel
    have OO := Lib.hid hO
    have KK := Lib.hid hok
    have RU := Lib.hid hrun
    have hxl : xs.length ≤ 255 := by have := hrun.len; simp only [txW, List.length_map] at this; omega
    have hxn : xs.length ≤ n := by have := hrun.len; simp only [txW, List.length_map] at this; omega
    clear hO hok hrun H1
    by_cases hltk : k < n
    · go_upto_region 5 with (go_at_call 151; ((with_reducible refine (ct _ _ OO.out.rdr).mono ?_); rintro e w2 ⟨y, st3, rfl, hr2, ho2, hR2, hzz2⟩; have H2 := Lib.hid (OO.out.only hr2 ho2); have R2 := Lib.hid hR2; have hy : y.length ≤ 12 := text_le hR2 hzz2; clear hr2 ho2 hR2 hzz2))
      have H3 := Lib.hid (H2.out.more #[.string ⟨y.toArray⟩, .int .i64 0, .int .u64 0, .string ⟨#[]⟩] 157)
      have hGw := H2.out.size
      clear H2 OO
      generalize w2.alloc (.cells #[.string ⟨y.toArray⟩, .int .i64 0, .int .u64 0, .string ⟨#[]⟩] 157) = W3 at *
      generalize w2.heap.size = G at *
      have hgG : g ≠ G := by omega
      go_upto_region 6 with (go_at_call 152; ((with_reducible refine (cv _ _ H3.out.rdr H3.out.onl).mono ?_); rintro e w4 ⟨z, st4, rfl, hr4, ho4, hR4, hzz4⟩; have H4 := Lib.hid (H3.out.only hr4 ho4); obtain ⟨x0, x1, x2, x3⟩ := (H4.out.get 0 _ _ _ rfl).four; have f1 := (H4.out.get 0 _ _ _ rfl).frozen 1; have f2 := (H4.out.get 0 _ _ _ rfl).frozen 2; have f3 := (H4.out.get 0 _ _ _ rfl).frozen 3; have R4 := Lib.hid hR4; have hzl := val_lt hR4 hzz4; clear hr4 ho4 hR4 hzz4))
      have H5 : Hid (RdO (RS g st4) g w (((w4.setCell ⟨G, 1, none⟩ (.int .i64 z.k)).setCell ⟨G, 2, none⟩ (.int .u64 ((z.b : Nat) : Int))).setCell ⟨G, 3, none⟩ (.string ⟨z.t.toArray⟩)) [(G, #[.string ⟨y.toArray⟩, .int .i64 z.k, .int .u64 ((z.b : Nat) : Int), .string ⟨z.t.toArray⟩], 157)] [⟨157, 4, _, xs.length, xs.flatMap writeC⟩]) := ((H4.out.set (fun _ h => by cases h) 1 (.int .i64 z.k)).set (fun _ h => by cases h) 2 (.int .u64 ((z.b : Nat) : Int))).set (fun _ h => by cases h) 3 (.string ⟨z.t.toArray⟩)
      have RR : Hid (Res (writeP valP) st2 (y, z) st4) := by unfold Hid writeP; exact Res.bind (x := y) R2.out (Res.bind (x := z) R4.out (Res.pure _ _))
      have RN := Lib.hid (RU.out.next hltk RR.out)
      clear H3 H4 x0 x1 x2 x3 f1 f2 f3 R2 R4 RR RU
      generalize ((w4.setCell ⟨G, 1, none⟩ (.int .i64 z.k)).setCell ⟨G, 2, none⟩ (.int .u64 ((z.b : Nat) : Int))).setCell ⟨G, 3, none⟩ (.string ⟨z.t.toArray⟩) = W5 at *
      obtain ⟨x0, x1, x2, x3⟩ := (H5.out.get 0 _ _ _ rfl).four
      have hsz := H5.out.size
      go_wp2_with (at_builtin; (refine wpList_append_rowk _ rfl _ _ 28 rfl w.heap.size 157 iR _ 4 48 Tryz.underlying28 hi hz0 hz1 hz2 rfl (by omega) _ xs.length (xs.flatMap writeC) rfl (H5.out.alloc _).head (W5.heap.size + 1) (some ⟨W5.heap.size, 0, none⟩) 1 1 (writeC ⟨⟨y.toArray⟩, z.k, z.b, ⟨z.t.toArray⟩⟩) rfl (RowAt.oneW W5 ⟨⟨y.toArray⟩, z.k, z.b, ⟨z.t.toArray⟩⟩ _) (writeC_cells _) (by unfold maxLen; omega) (by omega) (by simp; omega) ?_; intro v6 w6 ho6 hg6 hat6; have M6 := Lib.hid ((H5.out.alloc _).grow ho6 hg6 hat6).tail; clear ho6 hg6 hat6))
      go_roundw
      case rel => exact ⟨k + 1, xs ++ [⟨⟨y.toArray⟩, z.k, z.b, ⟨z.t.toArray⟩⟩], st4, by omega, by go_num, by rw [List.length_append, List.flatMap_append]; simpa using M6.out, (fun x hx => by
          rcases List.mem_append.1 hx with hx | hx
          · exact KK.out x hx
          · simp only [List.mem_cons, List.not_mem_nil, or_false] at hx
            subst hx
            refine ⟨?_, hzl.1, ?_⟩
            · show y.toArray.size ≤ maxLen
              unfold maxLen; simp; omega
            · show z.t.toArray.size ≤ maxLen
              have := hzl.2
              unfold maxLen; simp; omega), by rw [txW_app]; exact RN.out⟩
      case measure => simp [intOf]; omega
    · have hkn : n = k := by omega
      subst hkn
      have QQ : Hid (Res (listP (writeP valP)) st (txW xs) st2) := by unfold Hid listP; exact Res.bind (x := n) R1.out RU.out.done
      obtain ⟨a7, c7, e7, _, _⟩ := ownk_form OO.out.head
      have e7' : u3 = .slice a7 xs.length c7 := e7
      clear e7
      subst e7'
      go_wp2
      go_ret
      exact ⟨xs, _, st2, rfl, OO.out.rdr, OO.out.onl, OO.out.head, ⟨hxl, KK.out⟩, QQ.out⟩
end Go.Proofs.YtcfmifongbapkaaGreatDoor

/- TxnRise -/
namespace Go.Proofs.YtcfmifongbapkaaGreatDoor

open Go.RowKit

theorem keysM_len (rs : List RdM) : (keysM rs).length = rs.length := by simp [keysM]
theorem keysV_len (ws : List WrM) : (keysV ws).length = ws.length := by simp [keysV]
/-- All texts are keys, strictly rising. -/
def riseB (L : List (List UInt8)) : Bool := L.all keyB && adjB L
theorem rise_key (L : List (List UInt8)) (k : Nat) (h : k < L.length) (hp : keyB L[k] = false) : riseB L = false := by unfold riseB; rw [all_bad keyB L k h hp]; rfl
theorem rise_adj (L : List (List UInt8)) (k : Nat) (h : k + 1 < L.length) (hp : leB L[k + 1] L[k] = true) : riseB L = false := by unfold riseB; rw [adj_bad L k h hp, Bool.and_false]
/-- The first k of them are. -/
def RiseP (L : List (List UInt8)) (k : Nat) : Prop := (L.take k).all keyB = true ∧ ∀ j (hj : j + 1 < L.length), j + 1 < k → leB L[j + 1] L[j] = false
theorem RiseP.start (L : List (List UInt8)) : RiseP L 0 := ⟨rfl, fun j _ h => by omega⟩
theorem RiseP.first (L : List (List UInt8)) (h : 0 < L.length) (hk : keyB L[0] = true) : RiseP L 1 := ⟨all_next keyB L 0 h rfl hk, fun j _ h => by omega⟩
theorem RiseP.next {L : List (List UInt8)} {k : Nat} (h : RiseP L (k + 1)) (hl : k + 1 < L.length) (hk : keyB L[k + 1] = true) (ha : leB L[k + 1] L[k] = false) : RiseP L (k + 1 + 1) := by
  refine ⟨all_next keyB L (k + 1) hl h.1 hk, fun j hj hlt => ?_⟩
  by_cases e : j = k
  · subst e; exact ha
  · exact h.2 j hj (by omega)
theorem RiseP.done {L : List (List UInt8)} {k : Nat} (h : RiseP L k) (hl : L.length ≤ k) : riseB L = true := by
  unfold riseB
  rw [all_done keyB L k hl h.1, adj_all L fun j hj => h.2 j hj (by omega)]; rfl
def valsB (ws : List WrM) : Bool := ws.all fun x => formedB (valM x)
theorem vals_all (i : IdN) (rs : List RdM) (ws : List WrM) : ((txT i rs ws).ws.all fun x => formedB x.2) = valsB ws := by
  unfold txT txW valsB
  rw [List.all_map]; rfl
theorem form_len (i : IdN) (rs : List RdM) (ws : List WrM) (h : idB i = false ∨ 6 < rs.length ∨ 6 < ws.length ∨ (rs.length = 0 ∧ ws.length = 0)) : formT formedB (txT i rs ws) = false := by
  cases e : formT formedB (txT i rs ws)
  · rfl
  · have hf := (formT_iff _ _).1 e
    have h1 := hf.id
    have h2 := hf.rlen
    have h3 := hf.wlen
    have h4 := hf.some
    simp only [txT, txR, txW, List.length_map] at h1 h2 h3 h4
    rcases h with h | h | h | h
    · rw [h] at h1; cases h1
    · omega
    · omega
    · omega
theorem form_parts (i : IdN) (rs : List RdM) (ws : List WrM) (hi : idB i = true) (h1 : rs.length ≤ 6) (h2 : ws.length ≤ 6) (h3 : ¬ (rs.length = 0 ∧ ws.length = 0)) :
    formT formedB (txT i rs ws) = (riseB (txt (keysM rs)) && (riseB (txt (keysV ws)) && valsB ws)) := by
  have e1 : idB (txT i rs ws).id = true := hi
  have e2 : (txT i rs ws).rs.length = rs.length := by simp [txT, txR]
  have e3 : (txT i rs ws).ws.length = ws.length := by simp [txT, txW]
  have e4 : (decide (rs.length = 0) && decide (ws.length = 0)) = false := by
    rw [Bool.and_eq_false_iff, decide_eq_false_iff_not, decide_eq_false_iff_not]; omega
  unfold formT
  rw [e1, e2, e3, decide_eq_true h1, decide_eq_true h2, e4, keysM_txt, keysV_txt, vals_all]
  unfold riseB
  cases (txt (keysM rs)).all keyB <;> cases adjB (txt (keysM rs)) <;> cases (txt (keysV ws)).all keyB <;> cases adjB (txt (keysV ws)) <;> cases valsB ws <;> rfl
theorem keysM_ok {rs : List RdM} (h : ∀ x ∈ rs, RdOk x) : ∀ z ∈ keysM rs, z.size ≤ maxLen := by
  intro z hz
  obtain ⟨x, hx, rfl⟩ := List.mem_map.1 hz
  exact (h x hx).1
theorem keysV_ok {ws : List WrM} (h : ∀ x ∈ ws, WrOk x) : ∀ z ∈ keysV ws, z.size ≤ maxLen := by
  intro z hz
  obtain ⟨x, hx, rfl⟩ := List.mem_map.1 hz
  exact (h x hx).1

end Go.Proofs.YtcfmifongbapkaaGreatDoor

/- CodeOpen -/
namespace Go.Proofs.YtcfmifongbapkaaGreatDoor

open Go.ChangeShapes Go.WideShapes Go.ChangeAt Go.RowKit

section

variable {H : Type} {enc : TypeId × Value → H} {P : Program} {w : World} {base : Nat} {spare : Nat → Bool} {held : Bool}

/-- An array of two integers. -/
theorem open_pair {r : Reach} {b0 : Nat} {t e : TypeId} {k : IntKind} {v : Value} {d : DataW H} {p : List MemPlace} (ht : P.underlying t = some (.array 2 e)) (he : P.underlying e = some (.int k)) (hc : P.cellsOf t = 2) (hce : P.cellsOf e = 1)
    (hv : Value.okWide P w r b0 t v) (h : DataW.Trod enc P w base spare held t v d p) :
    ∃ x y : Int, v = .agg #[.int k x, .int k y] ∧ (Lit.int k x).wf = true ∧ (Lit.int k y).wf = true := by
  simp only [Value.okWide, ht] at hv
  obtain ⟨cs, rfl, hsz, _⟩ := hv
  obtain ⟨fuel, hf⟩ := h
  obtain ⟨xs, m, _, _, hl, hn, hi⟩ := DataW.trod_array ht hf
  obtain ⟨l⟩ := cs
  match l, hsz.trans hc with
  | [c0, c1], _ =>
    match xs, hn with
    | [y0, y1], _ =>
      have h0 := hi 0 (by omega)
      have h1 := hi 1 (by omega)
      simp [hce, Value.cells] at h0 h1
      obtain ⟨x, ex, _, wx⟩ := DataW.trod_int he h0
      obtain ⟨y, ey, _, wy⟩ := DataW.trod_int he h1
      simp at ex ey
      subst ex; subst ey
      exact ⟨x, y, rfl, wx, wy⟩
/-- A slice of bytes. -/
theorem open_bytes {r : Reach} {b0 : Nat} {t e : TypeId} {v : Value} {d : DataW H} {p : List MemPlace} (ht : P.underlying t = some (.slice e)) (he : P.underlying e = some (.int .u8)) (hce : P.cellsOf e = 1)
    (hv : Value.okWide P w r b0 t v) (h : DataW.Trod enc P w base spare held t v d p) :
    ∃ a n c l, v = .slice a n c ∧ BAt w w.heap.size a n l ∧ n ≤ c ∧ c ≤ maxLen := by
  obtain ⟨a, n, c, rfl⟩ := okWide_slice ht hv
  obtain ⟨fuel, hf⟩ := h
  rcases open_ints ht he hce hf with ⟨hcs, _⟩ | ⟨x, l, c', zs, hcs, _, hl, hm, hz, _, hcell, hwz⟩
  · simp [Value.cells] at hcs
    obtain ⟨rfl, rfl, rfl⟩ := hcs
    exact ⟨_, _, _, [], rfl, BAt.nil, Nat.le_refl _, by unfold maxLen; omega⟩
  · simp [Value.cells] at hcs
    obtain ⟨rfl, rfl, rfl⟩ := hcs
    obtain ⟨bs, hb⟩ := bat_in (len := n) (zs := zs) (by rw [hz]; split <;> omega) hcell hwz
    exact ⟨_, _, _, bs, rfl, hb, hl, hm⟩
end

end Go.Proofs.YtcfmifongbapkaaGreatDoor
