/-
  No cell of these rows narrows 'for every input' (looked for: loops, veiled, ifaces, maps, wideKeys, modest, calm, conditions, laid).
  DERIVED. THE GIVEN ROWS OF THIS SEAT. 5 by the template 'for every input the law returns true; each argument reads behind the call as it read before'; 0 by the template 'total and deterministic' (their statements: YtnplheagemglnaaTotals.lean).
  GIVEN WITH THE SEED: the statements are not yours to turn. If you find one false, say at which input.
  Laid BY PROGRAM, IN A SANDBOX (cutbox-rows.mjs): the forced cells as the released guide's own fill.sh prints them over the translation 2e62be6727994e97… (all of the seat's roots in one cut). By AI agents, Wed Nov 11 2026. No macro, syntax, notation, axiom, sorry.
-/
import Derived.Test.YtnplheagemglnaaChecked
import GoSem.Claim
import GoSem.ClaimJoined
import GoSem.ClaimMapViews
import Derived.JoinedTies
import Derived.KernelRfl
namespace Go.Proofs.Ytnplheagemglnaa
/- THE CELL 'sum', in the pinned program and in every row, IS THE sha256 OF THE DUMP (.gsa) THAT YtnplheagemglnaaProg.lean LOADS. Nothing in Lean hashes anything: it is a label: what it is worth is what the hold of that sum in a sandbox is worth. -/
noncomputable def Try.pinned : Pinned := { name := "ytnplheagemglnaa", sum := "2e62be6727994e97098dce23e9932e6bfb1489d2e5297e7c1246e81e22c26521", checked := Try.checked }
namespace Rows
def none {H : Type} : Left H := { results := [], args := [] }

/-- 'parishlaw07.ConfigKeys': WHATEVER THE INPUT: true; the input reads as it did. -/
def configKeysSpec : ChangeSpec := { name := "configKeys", fn := fun _ => fun
  | [d1, d2] => { results := [.lit (.bool true)], args := [d1, d2] }
  | _ => none }
def configKeysRow : OpenClaim := { program := "ytnplheagemglnaa", sum := "2e62be6727994e97098dce23e9932e6bfb1489d2e5297e7c1246e81e22c26521", func := "parish/parishlaw07.ConfigKeys", spec := "configKeys", apart := false }
def ConfigKeysSaid : Prop := configKeysRow.holds Try.pinned (OpenSpec.ofChange configKeysSpec)

/-- ITS FALSE NEIGHBOUR: 'it returns false'. Refute it at one input. -/
def configKeysWrong : ChangeSpec := { name := "configKeys", fn := fun _ => fun
  | [d1, d2] => { results := [.lit (.bool false)], args := [d1, d2] }
  | _ => none }
def ConfigKeysWrongFalsely : Prop := configKeysRow.holds Try.pinned (OpenSpec.ofChange configKeysWrong)

/-- 'parishlaw07.ConfigPlaces': WHATEVER THE INPUT: true; the input reads as it did. -/
def configPlacesSpec : ChangeSpec := { name := "configPlaces", fn := fun _ => fun
  | [d1, d2, d3] => { results := [.lit (.bool true)], args := [d1, d2, d3] }
  | _ => none }
def configPlacesRow : OpenClaim := { program := "ytnplheagemglnaa", sum := "2e62be6727994e97098dce23e9932e6bfb1489d2e5297e7c1246e81e22c26521", func := "parish/parishlaw07.ConfigPlaces", spec := "configPlaces", apart := false }
def ConfigPlacesSaid : Prop := configPlacesRow.holds Try.pinned (OpenSpec.ofChange configPlacesSpec)

/-- ITS FALSE NEIGHBOUR: 'it returns false'. Refute it at one input. -/
def configPlacesWrong : ChangeSpec := { name := "configPlaces", fn := fun _ => fun
  | [d1, d2, d3] => { results := [.lit (.bool false)], args := [d1, d2, d3] }
  | _ => none }
def ConfigPlacesWrongFalsely : Prop := configPlacesRow.holds Try.pinned (OpenSpec.ofChange configPlacesWrong)

/-- 'parishlaw07.ConfigBack': WHATEVER THE INPUT: true; the input reads as it did. -/
def configBackSpec : ChangeSpec := { name := "configBack", fn := fun _ => fun
  | [d1, d2] => { results := [.lit (.bool true)], args := [d1, d2] }
  | _ => none }
def configBackRow : OpenClaim := { program := "ytnplheagemglnaa", sum := "2e62be6727994e97098dce23e9932e6bfb1489d2e5297e7c1246e81e22c26521", func := "parish/parishlaw07.ConfigBack", spec := "configBack", apart := false }
def ConfigBackSaid : Prop := configBackRow.holds Try.pinned (OpenSpec.ofChange configBackSpec)

/-- ITS FALSE NEIGHBOUR: 'it returns false'. Refute it at one input. -/
def configBackWrong : ChangeSpec := { name := "configBack", fn := fun _ => fun
  | [d1, d2] => { results := [.lit (.bool false)], args := [d1, d2] }
  | _ => none }
def ConfigBackWrongFalsely : Prop := configBackRow.holds Try.pinned (OpenSpec.ofChange configBackWrong)

/-- 'parishlaw07.ConfigRises': WHATEVER THE INPUT: true; the input reads as it did. -/
def configRisesSpec : ChangeSpec := { name := "configRises", fn := fun _ => fun
  | [d1, d2, d3] => { results := [.lit (.bool true)], args := [d1, d2, d3] }
  | _ => none }
def configRisesRow : OpenClaim := { program := "ytnplheagemglnaa", sum := "2e62be6727994e97098dce23e9932e6bfb1489d2e5297e7c1246e81e22c26521", func := "parish/parishlaw07.ConfigRises", spec := "configRises", apart := false }
def ConfigRisesSaid : Prop := configRisesRow.holds Try.pinned (OpenSpec.ofChange configRisesSpec)

/-- ITS FALSE NEIGHBOUR: 'it returns false'. Refute it at one input. -/
def configRisesWrong : ChangeSpec := { name := "configRises", fn := fun _ => fun
  | [d1, d2, d3] => { results := [.lit (.bool false)], args := [d1, d2, d3] }
  | _ => none }
def ConfigRisesWrongFalsely : Prop := configRisesRow.holds Try.pinned (OpenSpec.ofChange configRisesWrong)

/-- 'parishlaw07.ConfigGroups': WHATEVER THE INPUT: true; the input reads as it did. -/
def configGroupsSpec : ChangeSpec := { name := "configGroups", fn := fun _ => fun
  | [d1, d2, d3] => { results := [.lit (.bool true)], args := [d1, d2, d3] }
  | _ => none }
def configGroupsRow : OpenClaim := { program := "ytnplheagemglnaa", sum := "2e62be6727994e97098dce23e9932e6bfb1489d2e5297e7c1246e81e22c26521", func := "parish/parishlaw07.ConfigGroups", spec := "configGroups", apart := false }
def ConfigGroupsSaid : Prop := configGroupsRow.holds Try.pinned (OpenSpec.ofChange configGroupsSpec)

/-- ITS FALSE NEIGHBOUR: 'it returns false'. Refute it at one input. -/
def configGroupsWrong : ChangeSpec := { name := "configGroups", fn := fun _ => fun
  | [d1, d2, d3] => { results := [.lit (.bool false)], args := [d1, d2, d3] }
  | _ => none }
def ConfigGroupsWrongFalsely : Prop := configGroupsRow.holds Try.pinned (OpenSpec.ofChange configGroupsWrong)

/- THE SECOND FORM. 'bulk': how many values and letters a reading holds, each counted each time it is reached (what is shared counts as often as it is met; a slice's spare places count too). A statement '..UptoSaid' is the law's where the arguments, and the package variables that the reading takes, are together of bulk at most 1048576: NARROWER than '..Said'. Prove '..Said' where nothing that the law and all that it calls make is longer than what came in: it says more and counts as full. Else prove '..UptoSaid'. A law counts once. -/
mutual
def uptoBulk {H : Type} : DataW H → Nat
  | .lit (.string bytes) => bytes.length + 1
  | .lit _ => 1
  | .nil => 1
  | .ptr d => uptoBulk d + 1
  | .slice elems spare => uptoBulkAll elems + uptoBulkAll spare + 1
  | .agg parts => uptoBulkAll parts + 1
  | .iface _ d => uptoBulk d + 1
  | .map entries => uptoBulkEntries entries + 1
  | .held _ => 1
def uptoBulkAll {H : Type} : List (DataW H) → Nat
  | [] => 0
  | d :: r => uptoBulk d + uptoBulkAll r
def uptoBulkEntries {H : Type} : List (Lit × DataW H) → Nat
  | [] => 0
  | x :: r => uptoBulkEntry x + uptoBulkEntries r
def uptoBulkEntry {H : Type} : Lit × DataW H → Nat
  | (.string bytes, d) => bytes.length + uptoBulk d + 1
  | (_, d) => uptoBulk d + 1
 end
def uptoSmall : (H : Type) → List (DataW H) → Bool := fun _ ds => decide (uptoBulkAll ds ≤ 1048576)
def OpenSpec.upto (s : _root_.Go.ChangeSpec) : _root_.Go.OpenSpec := { _root_.Go.OpenSpec.ofChange s with cond := some uptoSmall }

/-- 'parishlaw07.ConfigKeys', WHERE WHAT IT READS IS OF BULK AT MOST 1048576: true; the input reads as it did. -/
def configKeysUptoRow : OpenClaim := { program := "ytnplheagemglnaa", sum := "2e62be6727994e97098dce23e9932e6bfb1489d2e5297e7c1246e81e22c26521", func := "parish/parishlaw07.ConfigKeys", spec := "configKeys", apart := false, narrowed := true }
def ConfigKeysUptoSaid : Prop := configKeysUptoRow.holds Try.pinned (OpenSpec.upto configKeysSpec)

/-- 'parishlaw07.ConfigPlaces', WHERE WHAT IT READS IS OF BULK AT MOST 1048576: true; the input reads as it did. -/
def configPlacesUptoRow : OpenClaim := { program := "ytnplheagemglnaa", sum := "2e62be6727994e97098dce23e9932e6bfb1489d2e5297e7c1246e81e22c26521", func := "parish/parishlaw07.ConfigPlaces", spec := "configPlaces", apart := false, narrowed := true }
def ConfigPlacesUptoSaid : Prop := configPlacesUptoRow.holds Try.pinned (OpenSpec.upto configPlacesSpec)

/-- 'parishlaw07.ConfigBack', WHERE WHAT IT READS IS OF BULK AT MOST 1048576: true; the input reads as it did. -/
def configBackUptoRow : OpenClaim := { program := "ytnplheagemglnaa", sum := "2e62be6727994e97098dce23e9932e6bfb1489d2e5297e7c1246e81e22c26521", func := "parish/parishlaw07.ConfigBack", spec := "configBack", apart := false, narrowed := true }
def ConfigBackUptoSaid : Prop := configBackUptoRow.holds Try.pinned (OpenSpec.upto configBackSpec)

/-- 'parishlaw07.ConfigRises', WHERE WHAT IT READS IS OF BULK AT MOST 1048576: true; the input reads as it did. -/
def configRisesUptoRow : OpenClaim := { program := "ytnplheagemglnaa", sum := "2e62be6727994e97098dce23e9932e6bfb1489d2e5297e7c1246e81e22c26521", func := "parish/parishlaw07.ConfigRises", spec := "configRises", apart := false, narrowed := true }
def ConfigRisesUptoSaid : Prop := configRisesUptoRow.holds Try.pinned (OpenSpec.upto configRisesSpec)

/-- 'parishlaw07.ConfigGroups', WHERE WHAT IT READS IS OF BULK AT MOST 1048576: true; the input reads as it did. -/
def configGroupsUptoRow : OpenClaim := { program := "ytnplheagemglnaa", sum := "2e62be6727994e97098dce23e9932e6bfb1489d2e5297e7c1246e81e22c26521", func := "parish/parishlaw07.ConfigGroups", spec := "configGroups", apart := false, narrowed := true }
def ConfigGroupsUptoSaid : Prop := configGroupsUptoRow.holds Try.pinned (OpenSpec.upto configGroupsSpec)

end Rows
end Go.Proofs.Ytnplheagemglnaa
