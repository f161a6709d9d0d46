/- Contract of net's Bag. Condition: the net lies in memory. -/
import Derived.Test.YtgdgjgcmglgfmaaNetSend
namespace Go.Proofs.Ytgdgjgcmglgfmaa

open Go.RowKit

set_option linter.unusedVariables false
set_option linter.unusedSimpArgs false

/-- Slices that read as these packets, in blocks of bytes. -/
theorem pks_snoc {W : World} {xs : List Value} {ls : List Pk} {v : Value} {l : Pk} (h : Pks W xs ls) (hp : PkAt W v l) : Pks W (xs ++ [v]) (ls ++ [l]) := h.app (Pks.one hp)
theorem pks_take (ls : List Pk) (j : Nat) (hj : j < ls.length) : ls.take (j + 1) = ls.take j ++ [ls[j]] := List.take_succ_eq_append_getElem hj
theorem mea_b (m i : Nat) (h1 : wrap64 ((i : Int) + 1) = ((i + 1 : Nat) : Int)) (h2 : i < m) : m - (intOf (Value.int .i64 (wrap64 ((i : Int) + 1)))).toNat < m - (intOf (Value.int .i64 ((i : Nat) : Int))).toNat := by
  rw [h1]
  show m - (i + 1) < m - i
  omega
theorem bag_pks {wr w3 w5 : World} {base n : Nat} {xs ys : List Value} {ls : List Pk} {u v : Value} {l : Pk} {o : Obj} (P : Pks wr xs ls) (K : PkAt w3 u l) (B3 : Below wr.heap.size wr w3) (hg : (w3.alloc o).grownBy w5 v.ownBlock) (RO : wr.ownsRow base 32 1 v n ys) : Pks w5 (xs ++ [u]) (ls ++ [l]) := by
  have hu : U8s w3 w5 := fun b cur fr hb => by
    have hlt := lt_of_heap hb
    refine (hg.block b (by simp; omega) (fun e => ?_)).trans (heap_alloc_old _ _ hlt)
    rcases RO.2 with ⟨rfl, _⟩ | ⟨j, c, cur', rfl, _, hh, _⟩
    · cases e
    · injection e with e
      have e' : b = j := e
      subst e'
      rw [B3.block b (lt_of_heap hh), hh] at hb
      injection hb with hb; injection hb with _ h2
      exact absurd h2 (by decide)
  have hs : w3.heap.size ≤ w5.heap.size := by have := hg.size; simp at this; omega
  exact pks_snoc ((P.moved (u8s_below B3) B3.size).moved hu hs) (K.moved hu hs)
/-- What has been gathered when j rounds are over. -/
def BagRel (W : World) (ls : List Pk) (wr : World) (o : Value) (j : Nat) : Prop := ∃ (a1 : Option Addr) (c1 : Nat) (xs : List Value), o = .slice a1 j c1 ∧ wr.ownsRow W.heap.size 32 1 (.slice a1 j c1) j xs ∧ Pks wr xs (ls.take j) ∧ Below W.heap.size W wr
set_option maxRecDepth 100000 in
set_option maxHeartbeats 4000000 in
theorem bagAll_any (W : World) (g : Nat) (bs : Bags) (own : List Nat) (f t : Int) (h : NetC W g bs own) (hm : (getB bs (f, t)).length ≤ 1099511627776) (hl : ∀ l ∈ getB bs (f, t), l.length ≤ 1099511627776) :
    Calls Try.prog 16 #[.pointer (some ⟨g, 0, none⟩), .int .i64 f, .int .i64 t] W fun e w' => ∃ a c xs, e = .returned (.slice a (getB bs (f, t)).length c) ∧ w'.ownsRow W.heap.size 32 1 (.slice a (getB bs (f, t)).length c) (getB bs (f, t)).length xs ∧ Pks w' xs (getB bs (f, t)) ∧ Below W.heap.size W w' := by
  obtain ⟨m, gs, hn, rfl, rfl⟩ := h
  obtain ⟨v, n0, xs0, ls, hR⟩ := row_of hn (f, t)
  obtain ⟨a0, c0, rfl, hcap, hmax, _⟩ := own_form hR.own
  have hgl := hR.len
  have hget := hR.get
  rw [hget] at hm hl ⊢
  have cB := bag_any g m (hdOf gs) f t _ hn.hd
  rw [hR.is] at cB
  obtain ⟨iS, hi, hz0, hz1, hz2⟩ := info_parts Try.info32
  have HR := Lib.hid hR
  have HL := Lib.hid hl
  have HM := Lib.hid hm
  have HG := Lib.hid hgl
  clear hR hn hl hget
  rw [hgl] at hm ⊢
  clear hgl
  go_enter Try.func16, Try.ntmps16
  go_wp2_with (go_at_call 33; ((with_reducible refine cB.mono ?_); rintro e w1 ⟨rfl, hb1⟩; have B1 := Lib.hid hb1; clear hb1))
  go_loopw [7, 16] (fun o i wr => ∃ (j : Nat), i = .int .i64 j ∧ j ≤ n0 ∧ BagRel W ls wr o j) (fun _ i _ => n0 - (intOf i).toNat)
  case atStart => exact ⟨0, rfl, Nat.zero_le _, none, 0, [], rfl, World.ownsRow_nil _ _ _ _, Pks.nil, B1.out⟩
  case round =>
    obtain ⟨j, rfl, hj, a1, c1, xs, rfl, hrow, hP, hB⟩ := hrel
    have RO := Lib.hid hrow
    have B := Lib.hid hB
    have P := Lib.hid hP
    clear hrow hB hP
    by_cases hlt : j < n0
    · have hd : decide ((j : Int) < (n0 : Int)) = true := decide_eq_true (by omega)
      have hin : (j : Int) < (n0 : Int) := by omega
      have EW : Hid (wrap64 ((j : Int) + 1) = ((j + 1 : Nat) : Int)) := by unfold Hid wrap64; omega
      have hjl : j < ls.length := by have := HG.out; omega
      obtain ⟨u, hu, au, mu, cu, rfl, hbu, _⟩ := HR.out.pk.2 j hjl
      obtain ⟨jr, cr, er, _⟩ := HR.out.own.form (by omega)
      injection er with er1 er2 er3
      subst er1
      clear er2 er3
      have y0 := HR.out.own.cells (g := jr) rfl j _ hu
      rw [add_plain, Nat.zero_add] at y0
      have hjr := (HR.out.own.lt jr rfl).2
      have y1 : wr.cell? ⟨jr, j, none⟩ = some (.slice au mu cu) := (B.out.cell (p := ⟨jr, j, none⟩) hjr).trans y0
      have hmu : mu ≤ 1099511627776 := by rw [← hbu.len]; exact HL.out _ (List.getElem_mem _)
      have cC := fun w (hb : Below W.heap.size W w) => bclone_any au mu cu ls[j] w ((hbu.below hb (Nat.le_refl _)).more hb.size) hmu
      have TK := Lib.hid (pks_take ls j hjl)
      generalize ls[j] = l at *
      have hs1 := B.out.size
      clear hbu hu y0 hmu
      go_wp2_with (first | (go_at_call 34; ((with_reducible refine (cC _ B.out).mono ?_); rintro e w3 ⟨a3, n3, c3, rfl, ho3, hb3⟩; have K3 := Lib.hid (pk_of_own ho3); have B3 := Lib.hid hb3; clear ho3 hb3)) | (at_builtin; (refine wpList_append_row _ rfl _ _ 44 rfl W.heap.size 32 iS (.slice none 0 0) 24 Try.underlying44 hi hz0 hz1 hz2 rfl _ j xs rfl ((own_below RO.out B3.out).alloc _) (some ⟨w3.heap.size, 0, none⟩) 1 1 [.slice a3 n3 c3] rfl (CellsAt.one w3 _ _) (by intro x hx; simp at hx; subst hx; rfl) (by unfold maxLen; omega) (by omega) (by have := B3.out.size; simp; omega) ?_; intro v5 w5 ho5 hg5 hat5; have B5 : Hid (Below W.heap.size W w5) := ((B.out.trans (B3.out.mono hs1)).alloc (by have := B3.out.size; omega) _).grown hg5 (by have := B3.out.size; simp; omega) (fun k e => (RO.out.lt k e).1); have P5 := Lib.hid (bag_pks P.out K3.out B3.out hg5 RO.out); obtain ⟨a5, c5, rfl, _⟩ := own_form ho5; have R5 := Lib.hid ho5; clear ho5 hg5 hat5)))
      go_roundw
      case rel => exact ⟨j + 1, by go_num, hlt, a5, c5, xs ++ [.slice a3 n3 c3], rfl, R5.out, by rw [TK.out]; exact P5.out, B5.out⟩
      case measure => simp [intOf]; omega
    · obtain rfl : j = n0 := by omega
      have P2 := P.out
      rw [List.take_of_length_le (by have := HG.out; omega)] at P2
      have PP := Lib.hid P2
      clear hj P2
      go_wp2
      go_ret
      exact ⟨a1, c1, xs, rfl, RO.out, PP.out, B.out⟩
end Go.Proofs.Ytgdgjgcmglgfmaa
