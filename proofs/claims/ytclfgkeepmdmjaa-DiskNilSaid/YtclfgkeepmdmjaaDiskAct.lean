/- Contracts of disk's Bytes, Sync, Append. Conditions: the disk lies in memory. -/
import Derived.Test.YtclfgkeepmdmjaaDiskProg

namespace Go.Proofs.Ytclfgkeepmdmjaa

open Go.RowKit

set_option linter.unusedVariables false
set_option linter.unusedSimpArgs false

theorem BAt.cells {w : World} {B m : Nat} {a : Option Addr} {l : List UInt8} (h : BAt w B a m l) : CellsAt w a m (bcells l) := by
  refine ⟨by rw [bcells_len, h.len], ?_⟩
  rcases h with ⟨hn, h | ⟨b, off, ha, hb, hc⟩⟩
  · exact .inl h
  · refine .inr ⟨b, off, ha, fun j u hu => ?_⟩
    obtain ⟨hj, rfl⟩ := bcells_get hu
    exact hc j hj
theorem OwnB.parts {W : World} {v : Value} {l : List UInt8} (h : OwnB W v l) : ∃ a n c, v = .slice a n c ∧ n = l.length ∧ W.ownsRow 0 5 1 (.slice a n c) n (bcells l) ∧ BAt W W.heap.size a n l ∧ n ≤ c ∧ c ≤ maxLen := by
  obtain ⟨a, c, rfl, h2, h3⟩ := h.form
  exact ⟨a, _, c, rfl, rfl, h, BAt.of_own h, h2, h3⟩
theorem Fr.grown {W W' : World} {v : Value} (hg : W.grownBy W' v.ownBlock) : Fr W W' (bk v) :=
  ⟨hg.os, hg.tape, hg.output, hg.size, fun i hi hn => hg.block i hi fun e => hn (bk_mem.2 e.symm)⟩
theorem Far.grown {W : World} {v v1 nx : Value} {l : List UInt8} (h : Far v nx) (hn : OwnB W nx l) (hat : v1.ownBlock = v.ownBlock ∨ v1.ownBlock = some W.heap.size) : Far v1 nx := by
  intro j hj e
  rcases hat with h1 | h1
  · exact h j (h1 ▸ hj) e
  · rw [hj] at h1; injection h1 with h1
    have := hn.lt j e; omega

section

variable {W w1 : World} {g : Nat} {d : Dk} {v nx v1 : Value} {left : Int} {l : List UInt8}

theorem DkP.box_grown (h : DkP W g d v nx left) (hg : W.grownBy w1 v.ownBlock) : BoxC w1 g #[.int .i64 d.size, v, .int .i64 d.la.length, .bool (decide (0 ≤ d.fuse)), .int .i64 left, .bool d.down, .bool d.torn, nx] 53 := h.box.grown hg (fun e => h.far_box.1 e.symm)
theorem DkP.appended {k n : Nat} (h : DkP W g d v nx left) (ho : w1.ownsRow 0 5 1 v1 (k + n) (bcells (d.la ++ d.re) ++ bcells l)) (hg : W.grownBy w1 v.ownBlock) (hat : v1.ownBlock = v.ownBlock ∨ v1.ownBlock = some W.heap.size) :
    DkP (w1.setCell ⟨g, 1, none⟩ v1) g { d with re := d.re ++ l } v1 nx left ∧ Fr W (w1.setCell ⟨g, 1, none⟩ v1) (g :: (bk v ++ bk nx)) := by
  have hb := h.box_grown hg
  have ho1 : OwnB w1 v1 (d.la ++ (d.re ++ l)) := by
    rw [← List.append_assoc]
    rw [← bcells_app] at ho
    exact OwnB.of_own ho
  have hne : v1.ownBlock ≠ some g := ho1.not_box hb (by decide)
  have hnx : OwnB w1 nx d.half := h.nxt.fr (Fr.grown hg) fun j hj e => h.far j (bk_mem.1 e) hj
  refine ⟨⟨hb.set 1 v1, ho1.set hne _ _, hnx.set h.far_box.2 _ _, h.left, h.sz, h.far.grown h.nxt hat⟩, ?_⟩
  exact ((Fr.grown hg).wide (fun i hi => List.mem_cons_of_mem _ (List.mem_append_left _ hi))).trans (Fr.set w1 g 1 v1) (fun i hi => .inl (by simp at hi; simp [hi]))

theorem bytes_any (h : DkP W g d v nx left) (hM : d.la.length + d.re.length ≤ 1099511627776) : Calls Try.prog 16 #[.pointer (some ⟨g, 0, none⟩)] W (NewB W (d.la ++ d.re)) := by
  obtain ⟨a, n, c, rfl, hn, ho, hb, hnc, hcm⟩ := h.row.parts
  obtain ⟨y0, y1, y2, y3, y4, y5, y6, y7⟩ := h.box.eight
  have cC := bclone_any a n c _ W hb (by rw [hn, List.length_append]; exact hM)
  clear h hn ho hb hM
  go_enter Try.func16, Try.ntmps16
  go_wp2_with (go_at_call 28; ((with_reducible refine cC.mono ?_); rintro e w1 ⟨a1, n1, c1, rfl, ho, hb⟩; have H1 := Lib.hid (And.intro ho hb); clear ho hb))
  go_ret
  exact ⟨a1, n1, c1, rfl, H1.out.1, H1.out.2⟩
theorem bytes_nil (W : World) : Calls Try.prog 16 #[.pointer none] W fun e w' => e = .returned (.slice none 0 0) ∧ W = w' := by
  go_enter Try.func16, Try.ntmps16
  go_wp2
  go_ret
  exact ⟨rfl, rfl⟩

theorem sync_any (h : DkP W g d v nx left) (hl : d.fuse < 9223372036854775808) : Calls Try.prog 19 #[.pointer (some ⟨g, 0, none⟩)] W fun e w' => e = .returned (.int .i64 (synE d)) ∧ (∃ left', DkP w' g (synD d) v nx left') ∧ Fr W w' [g] := by
  have cD := down_any h.box
  by_cases hd : d.down = true
  · rw [hd] at cD
    have e1 : synE d = 8 := by unfold synE; rw [if_pos hd]
    have e2 : synD d = d := by unfold synD; rw [if_pos hd]
    rw [e1, e2]
    have HH := Lib.hid h
    clear h e1 e2 hd hl
    go_enter Try.func19, Try.ntmps19
    go_wp2_with (go_at_call 13; ((with_reducible refine cD.mono ?_); rintro e w1 ⟨rfl, rfl⟩))
    go_ret
    exact ⟨rfl, ⟨left, HH.out⟩, Fr.refl _ _⟩
  · have hd0 : d.down = false := by simpa using hd
    rw [hd0] at cD
    have cB := blows_any h hl
    by_cases hz : goesB d = true
    · rw [hz] at cB
      have e1 : synE d = 8 := by unfold synE; rw [if_neg hd, if_pos hz]
      have e2 : synD d = goesD d := by unfold synD; rw [if_neg hd, if_pos hz]
      rw [e1, e2]
      clear h e1 e2 hd hd0 hz
      go_enter Try.func19, Try.ntmps19
      go_wp2_with (first | (go_at_call 13; ((with_reducible refine cD.mono ?_); rintro e w1 ⟨rfl, rfl⟩)) | (go_at_call 29; ((with_reducible refine cB.mono ?_); rintro e w1 ⟨rfl, h2⟩; have H2 := Lib.hid h2; clear h2)))
      go_ret
      exact ⟨rfl, H2.out⟩
    · have hz0 : goesB d = false := by simpa using hz
      rw [hz0] at cB
      have e1 : synE d = 0 := by unfold synE; rw [if_neg hd, if_neg hz]
      have e2 : synD d = { goesD d with la := (goesD d).la ++ (goesD d).re, re := [] } := by unfold synD; rw [if_neg hd, if_neg hz, goes_la, goes_re]
      rw [e1, e2]
      clear h e1 e2 hd hd0 hz hz0
      go_enter Try.func19, Try.ntmps19
      go_upto_region 3 with (first | (go_at_call 13; ((with_reducible refine cD.mono ?_); rintro e w1 ⟨rfl, rfl⟩)) | (go_at_call 29; ((with_reducible refine cB.mono ?_); rintro e w1 ⟨rfl, ⟨left', h2⟩, hf⟩; have H2 := Lib.hid h2; have F2 := Lib.hid hf; obtain ⟨z0, z1, z2, z3, z4, z5, z6, z7⟩ := h2.box.eight; have z8 := h2.box.frozen 2; clear h2 hf)))
      obtain ⟨a, n, c, rfl, hn, ho, hb, hnc, hcm⟩ := H2.out.row.parts
      have HR : Hid ((∃ left', DkP (w1.setCell ⟨g, 2, none⟩ (.int .i64 n)) g { goesD d with la := (goesD d).la ++ (goesD d).re, re := [] } (.slice a n c) nx left') ∧ Fr W (w1.setCell ⟨g, 2, none⟩ (.int .i64 n)) [g]) := ⟨⟨left', by have := H2.out.setLast; rw [← hn] at this; exact this⟩, F2.out.trans (Fr.set _ g 2 _) (fun i hi => .inl hi)⟩
      clear hn ho hb
      go_wp2
      go_ret
      exact ⟨rfl, HR.out⟩
end

end Go.Proofs.Ytclfgkeepmdmjaa
