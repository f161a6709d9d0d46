/- What the listed variables of the library hold, as the walks ask for it. No condition but that they read as they are listed. -/
import Derived.Test.YtmaohddmhdhkkaaDoorRows
import Derived.Test.YtmaohddmhdhkkaaDoorValueTxt
import Derived.Lib.LaidU8T
import Derived.PinnedBridge
namespace Go.Proofs.YtmaohddmhdhkkaaDoor
open Go.RowKit Go.Lib

theorem iface_of {H : Type} {enc : TypeId × Value → H} {P : Program} {w : World} {base : Nat} {sp : Nat → Bool} {fuel : Nat} {t : TypeId} {ms : Array (String × TypeId)} {cs : List Value} {nm : String} {d : DataW H} {p : List MemPlace}
    (ht : P.underlying t = some (.interface ms)) (h : DataW.trod enc P w base sp false fuel t cs = some (.iface nm d, p)) : ∃ u v, cs = [.iface u v] := by
  cases fuel with
  | zero => simp [DataW.trod] at h
  | succ fuel =>
    match cs, h with
    | [], h => simp [DataW.trod, ht] at h
    | [c], h =>
      cases c with
      | iface u v => exact ⟨u, v, rfl⟩
      | _ => simp [DataW.trod, ht] at h
    | _ :: _ :: _, h => simp [DataW.trod, ht] at h
theorem err_cell {w : World} {n : String} {g : Nat} {nm : String} {d : DataW Unit} (hn : Tryd.prog.globalNamed n = some g) (hy : (Tryd.prog.globals[g]?).map (·.type) = some 82) (h : VarReads Tryd.prog w n (.iface nm d)) :
    ∃ t p, w.cell? ⟨g, 0, none⟩ = some (.iface t p) := by
  obtain ⟨g', t, cs, fuel, p, hg, hty, hvar, hd⟩ := h
  obtain rfl := Option.some.inj (hn.symm.trans hg)
  obtain rfl := Option.some.inj (hy.symm.trans hty)
  obtain ⟨u, v, e⟩ := iface_of Tryd.underlying82 hd
  refine ⟨u, v, ?_⟩
  rw [World.var?_cell hg hvar 0, ← Array.getElem?_toList, e]
  rfl
set_option maxRecDepth 100000 in
theorem zed_cell {w : World} (h : VarReads Tryd.prog w "math/bits.deBruijn64tab" Rows.laid_math_bits_deBruijn64tab) : TabZ w := by
  obtain ⟨g', t, cs, fuel, p, hg, hty, hvar, hd⟩ := h
  obtain rfl := Option.some.inj ((show Tryd.prog.globalNamed "math/bits.deBruijn64tab" = some 8 by kernel_rfl).symm.trans hg)
  obtain rfl := Option.some.inj ((show (Tryd.prog.globals[8]?).map (·.type) = some 131 by kernel_rfl).symm.trans hty)
  obtain ⟨fuel', d, q, hdi, he⟩ := array_elem Tryd.underlying131 hd 15 (by omega)
  obtain rfl : (DataW.lit (.int .u8 4) : DataW Unit) = d := Option.some.inj hdi
  have hc : Tryd.prog.cellsOf 5 = 1 := by kernel_rfl
  rw [hc] at he
  obtain ⟨z, hcz, e, _⟩ := DataW.trod_int Tryd.underlying5 he
  have e2 : z = 4 := by
    have e1 := congrArg Prod.fst e
    simp only [DataW.lit.injEq, Lit.int.injEq, true_and] at e1
    omega
  subst e2
  show w.cell? ⟨8, 15, none⟩ = _
  rw [World.var?_cell hg hvar 15, ← Array.getElem?_toList]
  have := congrArg (·[0]?) hcz
  simpa [List.getElem?_take, List.getElem?_drop] using this
theorem utf8_cells {w : World} (h3 : VarReads Tryd.prog w "unicode/utf8.first" Rows.laid_unicode_utf8_first) (h4 : VarReads Tryd.prog w "unicode/utf8.acceptRanges" Rows.laid_unicode_utf8_acceptRanges) : Tabs w :=
  utf8Tabs_of_readsT (U8Types.of196 Tryd.laysValid) ⟨by kernel_rfl, by kernel_rfl, by kernel_rfl, by kernel_rfl, by kernel_rfl, by kernel_rfl, by kernel_rfl⟩ (Go.Pinned.utf8First_eq ▸ h3) h4
theorem all_cells {w : World} (h3 : VarReads Tryd.prog w "unicode/utf8.first" Rows.laid_unicode_utf8_first) (h4 : VarReads Tryd.prog w "unicode/utf8.acceptRanges" Rows.laid_unicode_utf8_acceptRanges)
    (h : VarReads Tryd.prog w "math/bits.deBruijn64tab" Rows.laid_math_bits_deBruijn64tab) (hs : VarReads Tryd.prog w "strconv.ErrSyntax" Rows.laid_strconv_ErrSyntax) (hr : VarReads Tryd.prog w "strconv.ErrRange" Rows.laid_strconv_ErrRange) : TabsT w :=
  ⟨utf8_cells h3 h4, zed_cell h, err_cell (g := 5) (by kernel_rfl) (by kernel_rfl) hs, err_cell (g := 6) (by kernel_rfl) (by kernel_rfl) hr⟩
end Go.Proofs.YtmaohddmhdhkkaaDoor
