/- Words for the document's net in memory: a row of packets; contract of its place. Condition: the net lies in memory. -/
import Derived.Test.YtgdgjgcmglgfmaaNetSend
namespace Go.Proofs.Ytgdgjgcmglgfmaa

open Go.RowKit

set_option linter.unusedVariables false
set_option linter.unusedSimpArgs false

/-- A packet: its link, its slice, its bytes. -/
structure Pc where
  k : Lk
  a : Option Addr
  n : Nat
  c : Nat
  l : Pk
def pcC (p : Pc) : List Value := [.int .i64 p.k.1, .int .i64 p.k.2, .slice p.a p.n p.c]
theorem pcC_len (p : Pc) : (pcC p).length = 3 := rfl
/-- Block h holds a row of these packets, whose bytes lie where they lay at W0. -/
structure RefIn (W0 V : World) (h : Nat) (v : Value) (ps : List Pc) : Prop where
  box : BoxC V h #[v] 30
  row : V.ownsRow W0.heap.size 70 3 v ps.length (ps.flatMap pcC)
  pk : ∀ p ∈ ps, BAt V W0.heap.size p.a p.n p.l
  lo : W0.heap.size ≤ h
def ownR (h : Nat) (v : Value) : List Nat := h :: v.ownBlock.toList
def RefC (W0 V : World) (h : Nat) (ps : List Pc) (own : List Nat) : Prop := ∃ v, RefIn W0 V h v ps ∧ own = ownR h v
def cnt (ps : List Pc) (k : Lk) : Nat := (ps.filter fun p => decide (p.k = k)).length
theorem cnt_app (A B : List Pc) (k : Lk) : cnt (A ++ B) k = cnt A k + cnt B k := by simp [cnt]
theorem cnt_cons (p : Pc) (B : List Pc) (k : Lk) : cnt (p :: B) k = (if p.k = k then 1 else 0) + cnt B k := by
  unfold cnt
  rw [List.filter_cons]
  by_cases h : p.k = k
  · simp [h]; omega
  · simp [h]
theorem cnt_le (ps : List Pc) (k : Lk) : cnt ps k ≤ ps.length := List.length_filter_le _ _
section

variable {W0 V V' : World} {h : Nat} {v : Value} {ps : List Pc} {own : List Nat}

theorem RefIn.size (H : RefIn W0 V h v ps) : W0.heap.size ≤ V.heap.size := Nat.le_trans H.lo (Nat.le_of_lt H.box.lt)
theorem RefIn.form (H : RefIn W0 V h v ps) : ∃ a c, v = .slice a ps.length c ∧ ps.length ≤ c ∧ c ≤ maxLen := ownk_form H.row
theorem RefIn.ne (H : RefIn W0 V h v ps) : v.ownBlock ≠ some h := by
  intro e
  rcases H.row.2 with ⟨rfl, _⟩ | ⟨g, cap, cur, rfl, _, hh, _⟩
  · cases e
  · injection e with e
    have e' : g = h := e
    subst e'
    have := H.box
    unfold BoxC at this
    rw [hh] at this
    injection this with this; injection this with _ h2
    exact absurd h2 (by decide)
theorem RefIn.lt (H : RefIn W0 V h v ps) : ∀ i ∈ ownR h v, W0.heap.size ≤ i ∧ i < V.heap.size := by
  intro i hi
  rcases List.mem_cons.1 hi with rfl | hi
  · exact ⟨H.lo, H.box.lt⟩
  · exact H.row.lt i (by simpa using hi)
theorem RefIn.moved (H : RefIn W0 V h v ps) (hb : Below W0.heap.size V V') (hk : ∀ i ∈ ownR h v, V'.heap[i]? = V.heap[i]?) : RefIn W0 V' h v ps := by
  refine ⟨(hk h (List.mem_cons_self ..)).trans H.box, ⟨H.row.1, ?_⟩, fun p hp => (H.pk p hp).below hb (Nat.le_refl _), H.lo⟩
  rcases H.row.2 with h1 | ⟨g, cap, cur, rfl, h1, hh, hr⟩
  · exact .inl h1
  · exact .inr ⟨g, cap, cur, rfl, h1, (hk g (by simp [ownR, Value.ownBlock])).trans hh, hr⟩
theorem RefIn.below (H : RefIn W0 V h v ps) (hb : Below V.heap.size V V') : RefIn W0 V' h v ps :=
  H.moved (hb.mono H.size) fun i hi => hb.block i (H.lt i hi).2
/-- The document's net's own blocks hold no bytes. -/
theorem RefIn.u8s (H : RefIn W0 V h v ps) (hf : Fr V V' (ownR h v)) : U8s V V' := by
  intro b cur fr hb
  refine hf.block b (lt_of_heap hb) (fun hm => ?_)
  rcases List.mem_cons.1 hm with rfl | hm
  · have := H.box
    unfold BoxC at this
    rw [hb] at this
    injection this with this; injection this with _ h2
    exact absurd h2 (by decide)
  · rcases H.row.2 with ⟨rfl, _⟩ | ⟨g, cap, cur', rfl, _, hh, _⟩
    · cases hm
    · have e : b = g := by simpa [Value.ownBlock] using hm
      subst e
      rw [hh] at hb
      injection hb with hb; injection hb with _ h2
      exact absurd h2 (by decide)
/-- The cells of one packet. -/
theorem RefIn.at_ (H : RefIn W0 V h v ps) {i : Nat} (hi : i < ps.length) : ∃ g c, v = .slice (some ⟨g, 0, none⟩) ps.length c ∧ V.cell? ⟨g, i * 3, none⟩ = some (.int .i64 ps[i].k.1) ∧ V.cell? ⟨g, i * 3 + 1, none⟩ = some (.int .i64 ps[i].k.2) ∧ V.cell? ⟨g, i * 3 + 2, none⟩ = some (.slice ps[i].a ps[i].n ps[i].c) := by
  obtain ⟨g, c, hv, _⟩ := H.row.form (by omega)
  have hc : ∀ j u, j < 3 → (pcC ps[i])[j]? = some u → V.cell? ⟨g, i * 3 + j, none⟩ = some u := fun j u hj hu => by
    have h1 := H.row.cells (g := g) (by rw [hv]; rfl) (i * 3 + j) u (by rw [flat_get pcC 3 pcC_len ps i j hi hj]; exact hu)
    rw [add_plain] at h1
    simpa using h1
  exact ⟨g, c, hv, hc 0 _ (by omega) rfl, hc 1 _ (by omega) rfl, hc 2 _ (by omega) rfl⟩
theorem RefIn.cell (H : RefIn W0 V h v ps) : V.cell? ⟨h, 0, none⟩ = some v ∧ V.frozen? ⟨h, 0, none⟩ = false := ⟨H.box.cell 0 _ rfl, H.box.frozen 0⟩
end

/-- What place answers: where the packet number at of a link lies, or -1. -/
def PlaceR (ps : List Pc) (k : Lk) (at_ : Int) (e : Ending) : Prop :=
  (∃ i : Nat, ∃ hi : i < ps.length, e = .returned (.int .i64 (i : Int)) ∧ ps[i].k = k ∧ at_ = (cnt (ps.take i) k : Int)) ∨ (e = .returned (.int .i64 (-1)) ∧ ¬ (0 ≤ at_ ∧ at_ < (cnt ps k : Int)))
/-- What is left to count down. -/
def downI (at_ : Int) (m : Nat) : Int := wrap64 (at_ - m)
theorem down_zero {at_ : Int} (h : -9223372036854775808 ≤ at_ ∧ at_ < 9223372036854775808) : downI at_ 0 = at_ := by unfold downI wrap64; simp; omega
theorem down_succ {at_ : Int} (m : Nat) : wrap64 (downI at_ m - 1) = downI at_ (m + 1) := by unfold downI wrap64; omega
theorem down_is {at_ : Int} {m : Nat} (h : -9223372036854775808 ≤ at_ ∧ at_ < 9223372036854775808) (hm : m ≤ 1099511627776) (h0 : downI at_ m = 0) : at_ = m := by unfold downI wrap64 at h0; omega
theorem cnt_take (ps : List Pc) (k : Lk) (j : Nat) (hj : j < ps.length) : cnt (ps.take (j + 1)) k = cnt (ps.take j) k + if ps[j].k = k then 1 else 0 := by
  rw [List.take_succ_eq_append_getElem hj, cnt_app, cnt_cons]
  show _ = _
  simp [cnt]

theorem mea_ps {α : Type} (ps : List α) (i : Nat) (h1 : wrap64 ((i : Int) + 1) = ((i + 1 : Nat) : Int)) (h2 : i < ps.length) : ps.length - (intOf (Value.int .i64 (wrap64 ((i : Int) + 1)))).toNat < ps.length - (intOf (Value.int .i64 ((i : Nat) : Int))).toNat := by
  rw [h1]
  show ps.length - (i + 1) < ps.length - i
  omega

set_option maxRecDepth 100000 in
set_option maxHeartbeats 4000000 in
theorem place_any (W0 V : World) (h : Nat) (v : Value) (ps : List Pc) (H : RefIn W0 V h v ps) (hl : ps.length ≤ 1099511627776) (f t at_ : Int) (hat : -9223372036854775808 ≤ at_ ∧ at_ < 9223372036854775808) :
    Calls Try.prog 39 #[.pointer (some ⟨h, 0, none⟩), .int .i64 f, .int .i64 t, .int .i64 at_] V fun e w' => V = w' ∧ PlaceR ps (f, t) at_ e := by
  obtain ⟨a, c, rfl, hnc, hcm⟩ := H.form
  have HH := Lib.hid H
  have HAT := Lib.hid hat
  have HL := Lib.hid hl
  have c0 := H.cell.1
  have e0 : at_ = downI at_ 0 := (down_zero hat).symm
  clear H hat hl hnc hcm
  go_enter Try.func39, Try.ntmps39
  go_wp2
  go_loopw [3, 9] (fun x i wr => ∃ (j : Nat), i = .int .i64 j ∧ j ≤ ps.length ∧ x = .int .i64 (downI at_ (cnt (ps.take j) (f, t))) ∧ (0 ≤ at_ → (cnt (ps.take j) (f, t) : Int) ≤ at_) ∧ V = wr) (fun _ i _ => ps.length - (intOf i).toNat)
  case atStart => exact ⟨0, rfl, Nat.zero_le _, by rw [show cnt (List.take 0 ps) (f, t) = 0 from rfl, ← e0], fun h => by simpa [cnt] using h, rfl⟩
  case round =>
    obtain ⟨j, rfl, hj, rfl, hle, rfl⟩ := hrel
    clear e0
    have LE := Lib.hid hle
    clear hle
    by_cases hlt : j < ps.length
    · obtain ⟨g, c', hv, y0, y1, y2⟩ := HH.out.at_ hlt
      have hd : decide ((j : Int) < (ps.length : Int)) = true := decide_eq_true (by omega)
      have hin : (j : Int) < (ps.length : Int) := by omega
      injection hv with hv1 hv2 hv3
      subst hv1
      clear hv2 hv3 y2
      have hlen := HL.out
      have CT := Lib.hid (cnt_take ps (f, t) j hlt)
      have hcl := cnt_le (ps.take j) (f, t)
      have hct : cnt (ps.take j) (f, t) ≤ 1099511627776 := by rw [List.length_take] at hcl; omega
      have EW : Hid (wrap64 ((j : Int) + 1) = ((j + 1 : Nat) : Int)) := by unfold Hid wrap64; omega
      have HC := Lib.hid hct
      clear hcl hct hlen
      obtain ⟨p, hp⟩ : ∃ p, ps[j] = p := ⟨_, rfl⟩
      rw [hp] at y0 y1 CT
      by_cases hk : p.k = (f, t)
      · have h1 : p.k.1 = f := by rw [hk]
        have h2 : p.k.2 = t := by rw [hk]
        have CT2 : Hid (cnt (ps.take (j + 1)) (f, t) = cnt (ps.take j) (f, t) + 1) := by have := CT.out; rw [if_pos hk] at this; exact this
        rw [h1] at y0
        rw [h2] at y1
        clear CT
        generalize hm : cnt (ps.take j) (f, t) = m at *
        by_cases hz : downI at_ m = 0
        · have HZ := Lib.hid (down_is HAT.out HC.out hz)
          have hzb : (downI at_ m == 0) = true := by simp [hz]
          clear hz
          generalize downI at_ m = z at *
          go_wp2
          go_ret
          exact ⟨rfl, .inl ⟨j, hlt, rfl, by rw [hp]; exact hk, by rw [hm]; exact HZ.out⟩⟩
        · have hzb : (downI at_ m == 0) = false := by simp [hz]
          have HS := Lib.hid (down_succ (at_ := at_) m)
          have HZ : Hid (0 ≤ at_ → ((m + 1 : Nat) : Int) ≤ at_) := fun h0 => by
            have h3 := LE.out h0
            have h4 := HAT.out
            have h5 := HC.out
            have h6 : at_ ≠ m := fun e => hz (by unfold downI wrap64; omega)
            omega
          clear hz
          have HX : Hid (downI at_ (m + 1) = wrap64 (downI at_ m - 1)) := HS.out.symm
          generalize downI at_ m = z at *
          go_wp2
          go_roundw
          case rel => exact ⟨j + 1, by rw [EW.out], hlt, by rw [CT2.out, HX.out], by rw [CT2.out]; exact HZ.out, trivial⟩
          case measure => exact mea_ps ps j EW.out hlt
      · have CT2 : Hid (cnt (ps.take (j + 1)) (f, t) = cnt (ps.take j) (f, t)) := by have := CT.out; rw [if_neg hk] at this; exact this
        clear CT
        by_cases h1 : p.k.1 = f
        · have h2 : ¬ p.k.2 = t := fun h2 => hk (Prod.ext h1 h2)
          have h2b : (p.k.2 == t) = false := by simp [h2]
          rw [h1] at y0
          clear h1 hk
          generalize p.k.2 = z at *
          go_wp2
          go_roundw
          case rel => exact ⟨j + 1, by rw [EW.out], hlt, by rw [CT2.out], by rw [CT2.out]; exact LE.out, trivial⟩
          case measure => exact mea_ps ps j EW.out hlt
        · have h1b : (p.k.1 == f) = false := by simp [h1]
          generalize p.k.1 = z at *
          go_wp2
          go_roundw
          case rel => exact ⟨j + 1, by rw [EW.out], hlt, by rw [CT2.out], by rw [CT2.out]; exact LE.out, trivial⟩
          case measure => exact mea_ps ps j EW.out hlt
    · obtain rfl : j = ps.length := by omega
      have LE2 := LE.out
      rw [List.take_length] at LE2
      clear hj
      go_wp2
      go_ret
      exact ⟨rfl, .inr ⟨rfl, fun ⟨h1, h2⟩ => by have := LE2 h1; omega⟩⟩
end Go.Proofs.Ytgdgjgcmglgfmaa
