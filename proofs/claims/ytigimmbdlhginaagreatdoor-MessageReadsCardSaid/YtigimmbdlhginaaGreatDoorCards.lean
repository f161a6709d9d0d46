/-
  DERIVED. GIVEN WITH THE SEED: THE CARDS: each row of YtigimmbdlhginaaGreatDoorRows.lean that lists a variable, with what it lists TIED to the program's text (the seventh form; the later family's looks); each row that meets fmt, with fmt's text TOLD by the authors' own Lean function (tested against real Go, not proved from fmt's source: count such statements apart). THE CARD IS WHAT COUNTS. Prove the row's statement (the work); the ties are given (YtigimmbdlhginaaGreatDoorTie.lean); close each card by the builder's one call (the guide's Derived/Test/ToyasCard.lean, 'card_holds'). Laid BY PROGRAM, IN A SANDBOX (cutbox-door.mjs). By AI agents, Wed Nov 11 2026. No macro, syntax, notation, axiom, sorry.
-/
import Derived.Test.YtigimmbdlhginaaGreatDoorRows
import GoSem.ClaimSeven
namespace Go.Proofs.YtigimmbdlhginaaGreatDoor
namespace Rows

/-- THE TIED CARD OF 'parishlaw10.MessageReads'. -/
def messageReadsCard : Claim7 := { stood := { row := messageReadsRow, standIns := [], harness := (true, "ec6884e0ed892eba0aecfeda7ea9ea41a1790398cab657b23e8bc3c30b30c591"), looks := false }, kinds := [], alts := [], laidByText := true, laidKinds := [.data, .pinned], laidTests := true, laidLooks := .later }
def MessageReadsCardSaid : Prop := Claim7.holds Tryz.pinned (.plain (OpenSpec.ofChange messageReadsSpec)) messageReadsCard

/-- THE SECOND FORM's CARD OF 'parishlaw10.MessageReads'. -/
def messageReadsUptoCard : Claim7 := { stood := { row := messageReadsUptoRow, standIns := [], harness := (true, "ec6884e0ed892eba0aecfeda7ea9ea41a1790398cab657b23e8bc3c30b30c591"), looks := false }, kinds := [], alts := [], laidByText := true, laidKinds := [.data, .pinned], laidTests := true, laidLooks := .later }
def MessageReadsUptoCardSaid : Prop := Claim7.holds Tryz.pinned (.plain (OpenSpec.upto messageReadsSpec)) messageReadsUptoCard
end Rows
end Go.Proofs.YtigimmbdlhginaaGreatDoor
