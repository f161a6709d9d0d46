/-
  DERIVED. GIVEN WITH THE SEED: THE CARDS: each row of YtpkbjbhmghdnoaaDoorRows.lean that lists a variable, with what it lists TIED to the program's text (the seventh form; the later family's looks); each row that meets fmt, with fmt's text TOLD by the authors' own Lean function (tested against real Go, not proved from fmt's source: count such statements apart). THE CARD IS WHAT COUNTS. Prove the row's statement (the work); the ties are given (YtpkbjbhmghdnoaaDoorTie.lean); close each card by the builder's one call (the guide's Derived/Test/ToyasCard.lean, 'card_holds'). Laid BY PROGRAM, IN A SANDBOX (cutbox-door.mjs). By AI agents, Wed Nov 11 2026. No macro, syntax, notation, axiom, sorry.
-/
import Derived.Test.YtpkbjbhmghdnoaaDoorRows
import GoSem.ClaimSeven
namespace Go.Proofs.YtpkbjbhmghdnoaaDoor
namespace Rows

/-- THE TIED CARD OF 'parishlaw09.CommandForms'. -/
def commandFormsCard : Claim7 := { stood := { row := commandFormsRow, standIns := [], harness := (true, "7b4f0d2dd33ece881c0647e857d4c8133d740e4c8c5c1ecc4c44a8cd899b4d3c"), looks := false }, kinds := [], alts := [], laidByText := true, laidKinds := [.data, .pinned], laidTests := true, laidLooks := .later }
def CommandFormsCardSaid : Prop := Claim7.holds Tryd.pinned (.plain (OpenSpec.ofChange commandFormsSpec)) commandFormsCard

/-- THE TIED CARD OF 'parishlaw09.CommandBytes'. -/
def commandBytesCard : Claim7 := { stood := { row := commandBytesRow, standIns := [], harness := (true, "7b4f0d2dd33ece881c0647e857d4c8133d740e4c8c5c1ecc4c44a8cd899b4d3c"), looks := false }, kinds := [], alts := [], laidByText := true, laidKinds := [.data, .pinned], laidTests := true, laidLooks := .later }
def CommandBytesCardSaid : Prop := Claim7.holds Tryd.pinned (.plain (OpenSpec.ofChange commandBytesSpec)) commandBytesCard

/-- THE TIED CARD OF 'parishlaw09.CommandBack'. -/
def commandBackCard : Claim7 := { stood := { row := commandBackRow, standIns := [], harness := (true, "7b4f0d2dd33ece881c0647e857d4c8133d740e4c8c5c1ecc4c44a8cd899b4d3c"), looks := false }, kinds := [], alts := [], laidByText := true, laidKinds := [.data, .pinned], laidTests := true, laidLooks := .later }
def CommandBackCardSaid : Prop := Claim7.holds Tryd.pinned (.plain (OpenSpec.ofChange commandBackSpec)) commandBackCard

/-- THE TIED CARD OF 'parishlaw09.CommandOne'. -/
def commandOneCard : Claim7 := { stood := { row := commandOneRow, standIns := [], harness := (true, "7b4f0d2dd33ece881c0647e857d4c8133d740e4c8c5c1ecc4c44a8cd899b4d3c"), looks := false }, kinds := [], alts := [], laidByText := true, laidKinds := [.data, .pinned], laidTests := true, laidLooks := .later }
def CommandOneCardSaid : Prop := Claim7.holds Tryd.pinned (.plain (OpenSpec.ofChange commandOneSpec)) commandOneCard

/-- THE SECOND FORM's CARD OF 'parishlaw09.CommandForms'. -/
def commandFormsUptoCard : Claim7 := { stood := { row := commandFormsUptoRow, standIns := [], harness := (true, "7b4f0d2dd33ece881c0647e857d4c8133d740e4c8c5c1ecc4c44a8cd899b4d3c"), looks := false }, kinds := [], alts := [], laidByText := true, laidKinds := [.data, .pinned], laidTests := true, laidLooks := .later }
def CommandFormsUptoCardSaid : Prop := Claim7.holds Tryd.pinned (.plain (OpenSpec.upto commandFormsSpec)) commandFormsUptoCard

/-- THE SECOND FORM's CARD OF 'parishlaw09.CommandBytes'. -/
def commandBytesUptoCard : Claim7 := { stood := { row := commandBytesUptoRow, standIns := [], harness := (true, "7b4f0d2dd33ece881c0647e857d4c8133d740e4c8c5c1ecc4c44a8cd899b4d3c"), looks := false }, kinds := [], alts := [], laidByText := true, laidKinds := [.data, .pinned], laidTests := true, laidLooks := .later }
def CommandBytesUptoCardSaid : Prop := Claim7.holds Tryd.pinned (.plain (OpenSpec.upto commandBytesSpec)) commandBytesUptoCard

/-- THE SECOND FORM's CARD OF 'parishlaw09.CommandBack'. -/
def commandBackUptoCard : Claim7 := { stood := { row := commandBackUptoRow, standIns := [], harness := (true, "7b4f0d2dd33ece881c0647e857d4c8133d740e4c8c5c1ecc4c44a8cd899b4d3c"), looks := false }, kinds := [], alts := [], laidByText := true, laidKinds := [.data, .pinned], laidTests := true, laidLooks := .later }
def CommandBackUptoCardSaid : Prop := Claim7.holds Tryd.pinned (.plain (OpenSpec.upto commandBackSpec)) commandBackUptoCard

/-- THE SECOND FORM's CARD OF 'parishlaw09.CommandOne'. -/
def commandOneUptoCard : Claim7 := { stood := { row := commandOneUptoRow, standIns := [], harness := (true, "7b4f0d2dd33ece881c0647e857d4c8133d740e4c8c5c1ecc4c44a8cd899b4d3c"), looks := false }, kinds := [], alts := [], laidByText := true, laidKinds := [.data, .pinned], laidTests := true, laidLooks := .later }
def CommandOneUptoCardSaid : Prop := Claim7.holds Tryd.pinned (.plain (OpenSpec.upto commandOneSpec)) commandOneUptoCard
end Rows
end Go.Proofs.YtpkbjbhmghdnoaaDoor
