/- Contract of net's Count. Conditions: the net lies in memory, and holds less than 2^63 packets. -/
import Derived.Test.YtgdgjgcmglgfmaaNetSend
import Derived.Test.YtgdgjgcmglgfmaaNetRange
namespace Go.Proofs.Ytgdgjgcmglgfmaa

open Go.RowKit

open Go.ChangeMaps (setBlock)

set_option linter.unusedVariables false
set_option linter.unusedSimpArgs false

def lenV : Value → Nat
  | .slice _ n _ => n
  | _ => 0
def lenS (hs : Hd) : Nat := (hs.map fun h => lenV h.2).sum
theorem lenS_app (A B : Hd) : lenS (A ++ B) = lenS A + lenS B := by simp [lenS]
theorem lenS_cons (x : Lk × Value) (B : Hd) : lenS (x :: B) = lenV x.2 + lenS B := by simp [lenS]
theorem NetIn.total {W : World} {g : Nat} {m : Option Nat} {gs : List Bg} (h : NetIn W g m gs) : tot (bsOf gs) = lenS (hdOf gs) := by
  have hr := h.rows
  clear h
  induction gs with
  | nil => rfl
  | cons x gs ih =>
    have h1 := hr x (List.mem_cons_self ..)
    have h2 := ih fun y hy => hr y (List.mem_cons_of_mem _ hy)
    obtain ⟨j, c, cu, e1, _⟩ := h1.block
    show tot ((x.k, x.ls) :: bsOf gs) = lenS ((x.k, x.v) :: hdOf gs)
    rw [tot_cons, lenS_cons, h2]
    show x.ls.length + _ = lenV x.v + _
    rw [e1, h1.len]; rfl
theorem NetIn.val {W : World} {g : Nat} {m : Option Nat} {gs : List Bg} (h : NetIn W g m gs) : ∀ x ∈ hdOf gs, ∃ a n c, x.2 = .slice a n c := by
  intro x hx
  obtain ⟨y, hy, rfl⟩ := List.mem_map.1 hx
  obtain ⟨j, c, cu, e1, _⟩ := (h.rows y hy).block
  exact ⟨_, _, _, e1⟩
theorem tot_len {W : World} {g : Nat} {bs : Bags} {own : List Nat} (h : NetC W g bs own) : bs = [] ∨ True := .inr trivial

theorem Rng.left_eq {W : World} {b r : Nat} {hs left : Hd} (h : Rng W b r hs left) : W.rangeLeft b r = left.length := by
  obtain ⟨es, clock, since, seen, c0, hb, _, _, hr, _, _, _, hl⟩ := h
  simp only [World.rangeLeft, hb, hr]
  have := congrArg List.length hl
  simpa [kvs, hvs] using this

set_option maxRecDepth 100000 in
set_option maxHeartbeats 4000000 in
theorem count_any (W : World) (g : Nat) (bs : Bags) (own : List Nat) (h : NetC W g bs own) (ht : tot bs < 9223372036854775808) :
    Calls Try.prog 12 #[.pointer (some ⟨g, 0, none⟩)] W fun e w' => e = .returned (.int .i64 (tot bs : Nat)) ∧ Below W.heap.size W w' := by
  obtain ⟨m, gs, hn, rfl, rfl⟩ := h
  have hc0 : W.cell? ⟨g, 0, none⟩ = some (.map m) := BoxC.cell (cs := #[.map m]) hn.hd.1 0 _ rfl
  have hg0 := lt_of_heap hn.hd.1
  have ev := Lib.hid hn.val
  rw [hn.total] at ht ⊢
  cases m with
  | none =>
    have e0 : hdOf gs = [] := hn.hd.2
    rw [e0]
    have hrg := run_range_nilMap (P := Try.prog) W 60 _ _ Try.underlying60
    have hnx : ∀ ty, (Instr.next (.pointer (some ⟨W.heap.size, 0, none⟩)) false ty).run Try.prog (W.alloc (.mapIter none 0 #[] 0)) = _ := fun ty => run_next_nilMap W ty 0 0 #[]
    clear hn ev
    go_enter Try.func12, Try.ntmps12
    go_wp2
    refine wp_loop_rounds 1 ?_
    rw [rounds_succ]
    go_wp2
    go_ret
    exact ⟨rfl, (Below.refl _ _).alloc (Nat.le_refl _) _⟩
  | some b =>
    have hM := hn.hd.2.2
    have HT := Lib.hid ht
    have hbl : b < W.heap.size := by obtain ⟨es, c, h1, _⟩ := hM; exact lt_of_heap h1
    clear hn ht
    generalize hdOf gs = hs at *
    go_enter Try.func12, Try.ntmps12
    go_wp2_with (first
      | (at_range; refine wpList_rangeL rfl _ rfl rfl hM ?_; intro w0 hrg0 hb0 hs0; have R0 := Lib.hid hrg0; have B0 := Lib.hid hb0; clear hrg0 hb0)
      | go_in)
    go_frame
    go_loopw [3] (fun v wr => ∃ (k : Nat) (left : Hd), v = .int .i64 k ∧ Rng wr b W.heap.size hs left ∧ Below W.heap.size W wr ∧ k + lenS left = lenS hs ∧ (∀ x ∈ left, x ∈ hs))
      (fun _ wr => wr.rangeLeft b W.heap.size)
    case atStart => exact ⟨0, hs, rfl, R0.out, B0.out, by omega, fun x hx => hx⟩
    case round =>
      obtain ⟨k, left, rfl, hrg, hB, hk, hin⟩ := hrel
      have RR := Lib.hid hrg
      have BB := Lib.hid hB
      have KK := Lib.hid hk
      have II := Lib.hid hin
      clear hB hk hin
      go_wp2_with (first
        | (at_next; refine wpList_nextL rfl _ rfl rfl hrg ?_ ?_)
        | go_in)
      · intro h0
        subst h0
        go_wp2
        go_ret
        have h1 : k = lenS hs := KK.out
        refine ⟨?_, BB.out⟩
        show Ending.returned (.int .i64 ((k : Nat) : Int)) = _
        rw [h1]
      · intro f1 t1 v A B w1 hl hrg1 hg1 hs1 hen
        subst hl
        obtain ⟨a, n, c, rfl⟩ : ∃ a n c, v = .slice a n c := ev.out ((f1, t1), v) (II.out _ (List.mem_append_right _ (List.mem_cons_self ..)))
        have hk2 := KK.out
        rw [lenS_app, lenS_cons] at hk2
        have hk3 : k + (lenS A + (n + lenS B)) = lenS hs := hk2
        have RR1 := Lib.hid hrg1
        have BB1 : Hid (Below W.heap.size W w1) := BB.out.grown hg1 (by have := BB.out.size; exact this) (fun j hj => by injection hj with hj; omega)
        have hkn : k + n < 9223372036854775808 := by have hT := HT.out; omega
        clear KK hk2
        go_wp2
        go_roundw
        case rel => exact ⟨k + n, A ++ B, by go_num, RR1.out, BB1.out, by rw [lenS_app]; omega, fun x hx => II.out x (by rcases List.mem_append.1 hx with h | h; exact List.mem_append_left _ h; exact List.mem_append_right _ (List.mem_cons_of_mem _ h))⟩
        case measure => rw [RR1.out.left_eq, RR.out.left_eq]; simp
end Go.Proofs.Ytgdgjgcmglgfmaa
