/- The walk of the statement TxnBytes. Conditions: the transaction's lists and the bytes lie in memory; the tables of utf8 lie there. -/
import Derived.Test.YtpkbjbhmghdnoaaDoorGM
import Derived.Test.YtpkbjbhmghdnoaaDoorGO
import Derived.Test.YtpkbjbhmghdnoaaDoorGS
import Derived.Laws.StructEq
namespace Go.Proofs.YtpkbjbhmghdnoaaDoor

open Go.RowKit

set_option linter.unusedVariables false

/-- How many bytes are left. -/
def lenS : St → Nat
  | some l => l.length
  | none => 0
theorem leftS_any (g : Nat) (st : St) (W : World) (h : RS g st W) : Calls Tryd.prog 22 #[.pointer (some ⟨g, 0, none⟩)] W fun e w' => e = .returned (.int .i64 (lenS st : Nat)) ∧ W = w' := by
  cases st with
  | none => exact left_any g [] false W h
  | some l => exact left_any g l true W h
theorem refLeftS_any (B g : Nat) (L : List UInt8) (st : St) (W : World) (h : FS B g L st W) : Calls Tryd.prog 23 #[.pointer (some ⟨g, 0, none⟩)] W (Reads1 W (.int .i64 (lenS st : Nat))) := by
  obtain ⟨k, h, hk⟩ := h
  cases st with
  | none => exact refLeft_any B g L k false W h
  | some l =>
    obtain rfl := hk l rfl
    have h1 := refLeft_any B g L k true W h
    rw [if_pos rfl] at h1
    show Calls _ _ _ _ (Reads1 W (.int .i64 ((L.drop k).length : Nat)))
    rw [List.length_drop]; exact h1
theorem RS.far {g G : Nat} {st : St} {W W' : World} (h : RS g st W) (ho : Only G W W') (hg : g < G) : RS g st W' := by
  cases st with
  | none => exact RdAt.far h ho hg
  | some l => exact RdAt.far h ho hg
theorem FS.far {B g G : Nat} {L : List UInt8} {st : St} {W W' : World} (h : FS B G L st W) (ho : Only g W W') (hg : B ≤ g) (hne : G ≠ g) : FS B G L st W' := by
  obtain ⟨k, h, hk⟩ := h
  exact ⟨k, h.far ho hg hne, hk⟩
theorem RS.below {g : Nat} {st : St} {W W' : World} (h : RS g st W) (hb : Below W.heap.size W W') : RS g st W' := Keep.keep (g := g) W W' h fun b hb' => hb.block b (by have := h.lt; omega)
theorem FS.below {B g : Nat} {L : List UInt8} {st : St} {W W' : World} (h : FS B g L st W) (hb : Below W.heap.size W W') : FS B g L st W' := Keep.keep (g := g) W W' h fun b hb' => hb.block b (by have := h.lt; omega)
/-- A block without texts. -/
def NoTxt (W : World) (g : Nat) : Prop := ∃ cs t, BoxC W g cs t ∧ NoStr cs
theorem FS.noTxt {B g : Nat} {L : List UInt8} {st : St} {W : World} (h : FS B g L st W) : NoTxt W g := by
  obtain ⟨k, ⟨a, n, c, hh, _⟩, _⟩ := h
  refine ⟨_, _, hh, fun i z => ?_⟩
  match i with
  | 0 => simp
  | 1 => simp
  | 2 => simp
  | i + 3 => simp
theorem RowAt.only_far {W W' : World} {g n k : Nat} {a : Option Addr} {xs : List Value} (h : RowAt W W.heap.size a n k xs) (hs : n ≠ 0 → ∃ z, xs[0]? = some (.string z)) (hn : NoTxt W g) (ho : Only g W W') : RowAt W' W'.heap.size a n k xs := by
  obtain ⟨cs, t, hb, hcs⟩ := hn
  rcases h with ⟨hl, h | ⟨b, off, ha, hb', hc⟩⟩
  · exact ⟨hl, .inl h⟩
  · by_cases h0 : n = 0
    · exact ⟨hl, .inl h0⟩
    · obtain ⟨z, hz⟩ := hs h0
      have h1 := hc 0 _ hz
      have hne : b ≠ g := by
        rintro rfl
        rw [cell_of_row _ _ _ _ _ _ hb] at h1
        exact hcs _ _ h1
      exact ⟨hl, .inr ⟨b, off, ha, Nat.lt_of_lt_of_le hb' ho.size, fun j v hv => (World.cell?_of_block (ho.block b hb' (fun e => hne (by injection e)))).trans (hc j v hv)⟩⟩
theorem TxAt.only {W W' : World} {g : Nat} {a1 a2 : Option Addr} {n1 n2 : Nat} {L1 : List RdM} {L2 : List WrM} (h : TxAt W a1 n1 a2 n2 L1 L2) (hn : NoTxt W g) (ho : Only g W W') : TxAt W' a1 n1 a2 n2 L1 L2 := by
  refine ⟨⟨⟨h.lenR, h.rds.2.only_far (fun h0 => ?_) hn ho⟩, ⟨h.lenW, h.wrs.2.only_far (fun h0 => ?_) hn ho⟩⟩, h.okR, h.okW⟩
  · have := h.lenR
    match L1 with
    | [] => exact absurd this.symm h0
    | x :: r => exact ⟨x.1, rfl⟩
  · have := h.lenW
    match L2 with
    | [] => exact absurd this.symm h0
    | x :: r => exact ⟨x.key, rfl⟩
theorem RS.noTxt {g : Nat} {st : St} {W : World} (h : RS g st W) : NoTxt W g := by
  obtain ⟨l, ok, a, n, c, hh, _⟩ := h.rd
  refine ⟨_, _, hh, fun i z => ?_⟩
  match i with
  | 0 => simp
  | 1 => simp
  | i + 2 => simp
/-- Two that were taken of the same bytes are the same. -/
theorem got_same {st st1 st2 : St} {s q s' q' : Int} {rs rs' : List RdM} {ws ws' : List WrM} (h : Res txnF st (txT (s, q) rs ws) st1) (hz : st1 = none → (s = 0 ∧ q = 0) ∧ rs = [] ∧ ws = []) (h' : Res txnF st (txT (s', q') rs' ws') st2) (hz' : st2 = none → (s' = 0 ∧ q' = 0) ∧ rs' = [] ∧ ws' = []) : st2 = st1 ∧ s' = s ∧ q' = q ∧ rs' = rs ∧ ws' = ws := by
  obtain ⟨rfl, h2⟩ := h'.same h
  cases st2 with
  | none =>
    obtain ⟨⟨rfl, rfl⟩, rfl, rfl⟩ := hz rfl
    obtain ⟨⟨rfl, rfl⟩, rfl, rfl⟩ := hz' rfl
    exact ⟨rfl, rfl, rfl, rfl, rfl⟩
  | some r =>
    obtain ⟨i1, i2, i3⟩ := txT_inj (h2 (by simp))
    injection i1 with i1 i4
    exact ⟨rfl, i1, i4, i2, i3⟩
theorem id_same {st st1 st2 : St} {x x' : IdN} (h : Res idQ st x st1) (hz : st1 = none → x = (0, 0)) (h' : Res idQ st x' st2) (hz' : st2 = none → x' = (0, 0)) : st2 = st1 ∧ x' = x := by
  obtain ⟨rfl, h2⟩ := h'.same h
  cases st2 with
  | none => exact ⟨rfl, by rw [hz rfl, hz' rfl]⟩
  | some r => exact ⟨rfl, h2 (by simp)⟩
theorem putT_max (l : List UInt8) (t : Tx Val) (h : l.length ≤ 2000) : (putT l t).length ≤ maxLen := by
  unfold putT maxLen
  split
  · rename_i hf
    have := txnB_max t hf
    rw [List.length_append]; omega
  · omega
theorem putId_max (l : List UInt8) (x : IdN) (h : l.length ≤ 2000) : (putId l x).length ≤ maxLen := by
  unfold putId maxLen
  split
  · rw [List.length_append, idBytes_len]; omega
  · omega

/-- What holds before the comparisons: boxes, readers, and two transactions. -/
def BytB (w W : World) (bs : List (Nat × Array Value × TypeId)) (g1 g2 g4 : Nat) (l : List UInt8) (st st4 : St) (a1 : Option Addr) (n1 : Nat) (b1 : Option Addr) (m1 : Nat) (a2 : Option Addr) (n2 : Nat) (b2 : Option Addr) (m2 : Nat) (rs : List RdM) (ws : List WrM) : Prop :=
  Boxs w W bs ∧ RS g1 st W ∧ FS w.heap.size g2 l st W ∧ FS w.heap.size g4 l st4 W ∧ TxAt W a1 n1 b1 m1 rs ws ∧ TxAt W a2 n2 b2 m2 rs ws
section

variable {w W W' : World} {bs : List (Nat × Array Value × TypeId)} {g1 g2 g4 : Nat} {l : List UInt8} {st st4 : St} {a1 : Option Addr} {n1 : Nat} {b1 : Option Addr} {m1 : Nat} {a2 : Option Addr} {n2 : Nat} {b2 : Option Addr} {m2 : Nat} {rs : List RdM} {ws : List WrM}

theorem BytB.below (h : BytB w W bs g1 g2 g4 l st st4 a1 n1 b1 m1 a2 n2 b2 m2 rs ws) (hb : Below W.heap.size W W') : BytB w W' bs g1 g2 g4 l st st4 a1 n1 b1 m1 a2 n2 b2 m2 rs ws := ⟨h.1.below hb, h.2.1.below hb, h.2.2.1.below hb, h.2.2.2.1.below hb, h.2.2.2.2.1.later hb, h.2.2.2.2.2.later hb⟩
theorem BytB.drewN (h : BytB w W bs g1 g2 g4 l st st4 a1 n1 b1 m1 a2 n2 b2 m2 rs ws) (z : Nat) : BytB w (W.drewN z) bs g1 g2 g4 l st st4 a1 n1 b1 m1 a2 n2 b2 m2 rs ws := h.below (below_drewN z (Below.refl _ _))
theorem BytB.drew (h : BytB w W bs g1 g2 g4 l st st4 a1 n1 b1 m1 a2 n2 b2 m2 rs ws) : BytB w W.drew bs g1 g2 g4 l st st4 a1 n1 b1 m1 a2 n2 b2 m2 rs ws := h.drewN 1
theorem BytB.boxs (h : BytB w W bs g1 g2 g4 l st st4 a1 n1 b1 m1 a2 n2 b2 m2 rs ws) : Boxs w W bs := h.1
theorem BytB.bel (h : BytB w W bs g1 g2 g4 l st st4 a1 n1 b1 m1 a2 n2 b2 m2 rs ws) : Below w.heap.size w W := h.1.1
theorem BytB.p1 (h : BytB w W bs g1 g2 g4 l st st4 a1 n1 b1 m1 a2 n2 b2 m2 rs ws) : RS g1 st W := h.2.1
theorem BytB.p2 (h : BytB w W bs g1 g2 g4 l st st4 a1 n1 b1 m1 a2 n2 b2 m2 rs ws) : FS w.heap.size g2 l st W := h.2.2.1
theorem BytB.p4 (h : BytB w W bs g1 g2 g4 l st st4 a1 n1 b1 m1 a2 n2 b2 m2 rs ws) : FS w.heap.size g4 l st4 W := h.2.2.2.1
theorem BytB.t1 (h : BytB w W bs g1 g2 g4 l st st4 a1 n1 b1 m1 a2 n2 b2 m2 rs ws) : TxAt W a1 n1 b1 m1 rs ws := h.2.2.2.2.1
theorem BytB.t2 (h : BytB w W bs g1 g2 g4 l st st4 a1 n1 b1 m1 a2 n2 b2 m2 rs ws) : TxAt W a2 n2 b2 m2 rs ws := h.2.2.2.2.2
end
end Go.Proofs.YtpkbjbhmghdnoaaDoor
