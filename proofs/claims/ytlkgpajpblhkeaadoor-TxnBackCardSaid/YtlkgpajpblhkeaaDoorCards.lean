/-
  DERIVED. GIVEN WITH THE SEED: THE CARDS: each row of YtlkgpajpblhkeaaDoorRows.lean that lists a variable, with what it lists TIED to the program's text (the seventh form; the later family's looks); each row that meets fmt, with fmt's text TOLD by the authors' own Lean function (tested against real Go, not proved from fmt's source: count such statements apart). THE CARD IS WHAT COUNTS. Prove the row's statement (the work); the ties are given (YtlkgpajpblhkeaaDoorTie.lean); close each card by the builder's one call (the guide's Derived/Test/ToyasCard.lean, 'card_holds'). Laid BY PROGRAM, IN A SANDBOX (cutbox-door.mjs). By AI agents, Wed Nov 11 2026. No macro, syntax, notation, axiom, sorry.
-/
import Derived.Test.YtlkgpajpblhkeaaDoorRows
import GoSem.ClaimSeven
namespace Go.Proofs.YtlkgpajpblhkeaaDoor
namespace Rows

/-- THE TIED CARD OF 'parishlaw08.TxnForms'. -/
def txnFormsCard : Claim7 := { stood := { row := txnFormsRow, standIns := [], harness := (true, "a6b0c0dc02fd52c72ad60c22a6370a315a10d921f90994d6d77d54b76e6d5a04"), looks := false }, kinds := [], alts := [], laidByText := true, laidKinds := [.data, .pinned], laidTests := true, laidLooks := .later }
def TxnFormsCardSaid : Prop := Claim7.holds Tryd.pinned (.plain (OpenSpec.ofChange txnFormsSpec)) txnFormsCard

/-- THE TIED CARD OF 'parishlaw08.TxnCuts'. -/
def txnCutsCard : Claim7 := { stood := { row := txnCutsRow, standIns := [], harness := (true, "a6b0c0dc02fd52c72ad60c22a6370a315a10d921f90994d6d77d54b76e6d5a04"), looks := false }, kinds := [], alts := [], laidByText := true, laidKinds := [.data, .pinned], laidTests := true, laidLooks := .later }
def TxnCutsCardSaid : Prop := Claim7.holds Tryd.pinned (.plain (OpenSpec.ofChange txnCutsSpec)) txnCutsCard

/-- THE TIED CARD OF 'parishlaw08.TxnBytes'. -/
def txnBytesCard : Claim7 := { stood := { row := txnBytesRow, standIns := [], harness := (true, "a6b0c0dc02fd52c72ad60c22a6370a315a10d921f90994d6d77d54b76e6d5a04"), looks := false }, kinds := [], alts := [], laidByText := true, laidKinds := [.data, .pinned], laidTests := true, laidLooks := .later }
def TxnBytesCardSaid : Prop := Claim7.holds Tryd.pinned (.plain (OpenSpec.ofChange txnBytesSpec)) txnBytesCard

/-- THE TIED CARD OF 'parishlaw08.TxnBack'. -/
def txnBackCard : Claim7 := { stood := { row := txnBackRow, standIns := [], harness := (true, "a6b0c0dc02fd52c72ad60c22a6370a315a10d921f90994d6d77d54b76e6d5a04"), looks := false }, kinds := [], alts := [], laidByText := true, laidKinds := [.data, .pinned], laidTests := true, laidLooks := .later }
def TxnBackCardSaid : Prop := Claim7.holds Tryd.pinned (.plain (OpenSpec.ofChange txnBackSpec)) txnBackCard

/-- THE TIED CARD OF 'parishlaw08.TxnParts'. -/
def txnPartsCard : Claim7 := { stood := { row := txnPartsRow, standIns := [], harness := (true, "a6b0c0dc02fd52c72ad60c22a6370a315a10d921f90994d6d77d54b76e6d5a04"), looks := false }, kinds := [], alts := [], laidByText := true, laidKinds := [.data, .pinned], laidTests := true, laidLooks := .later }
def TxnPartsCardSaid : Prop := Claim7.holds Tryd.pinned (.plain (OpenSpec.ofChange txnPartsSpec)) txnPartsCard

/-- THE SECOND FORM's CARD OF 'parishlaw08.TxnForms'. -/
def txnFormsUptoCard : Claim7 := { stood := { row := txnFormsUptoRow, standIns := [], harness := (true, "a6b0c0dc02fd52c72ad60c22a6370a315a10d921f90994d6d77d54b76e6d5a04"), looks := false }, kinds := [], alts := [], laidByText := true, laidKinds := [.data, .pinned], laidTests := true, laidLooks := .later }
def TxnFormsUptoCardSaid : Prop := Claim7.holds Tryd.pinned (.plain (OpenSpec.upto txnFormsSpec)) txnFormsUptoCard

/-- THE SECOND FORM's CARD OF 'parishlaw08.TxnCuts'. -/
def txnCutsUptoCard : Claim7 := { stood := { row := txnCutsUptoRow, standIns := [], harness := (true, "a6b0c0dc02fd52c72ad60c22a6370a315a10d921f90994d6d77d54b76e6d5a04"), looks := false }, kinds := [], alts := [], laidByText := true, laidKinds := [.data, .pinned], laidTests := true, laidLooks := .later }
def TxnCutsUptoCardSaid : Prop := Claim7.holds Tryd.pinned (.plain (OpenSpec.upto txnCutsSpec)) txnCutsUptoCard

/-- THE SECOND FORM's CARD OF 'parishlaw08.TxnBytes'. -/
def txnBytesUptoCard : Claim7 := { stood := { row := txnBytesUptoRow, standIns := [], harness := (true, "a6b0c0dc02fd52c72ad60c22a6370a315a10d921f90994d6d77d54b76e6d5a04"), looks := false }, kinds := [], alts := [], laidByText := true, laidKinds := [.data, .pinned], laidTests := true, laidLooks := .later }
def TxnBytesUptoCardSaid : Prop := Claim7.holds Tryd.pinned (.plain (OpenSpec.upto txnBytesSpec)) txnBytesUptoCard

/-- THE SECOND FORM's CARD OF 'parishlaw08.TxnBack'. -/
def txnBackUptoCard : Claim7 := { stood := { row := txnBackUptoRow, standIns := [], harness := (true, "a6b0c0dc02fd52c72ad60c22a6370a315a10d921f90994d6d77d54b76e6d5a04"), looks := false }, kinds := [], alts := [], laidByText := true, laidKinds := [.data, .pinned], laidTests := true, laidLooks := .later }
def TxnBackUptoCardSaid : Prop := Claim7.holds Tryd.pinned (.plain (OpenSpec.upto txnBackSpec)) txnBackUptoCard

/-- THE SECOND FORM's CARD OF 'parishlaw08.TxnParts'. -/
def txnPartsUptoCard : Claim7 := { stood := { row := txnPartsUptoRow, standIns := [], harness := (true, "a6b0c0dc02fd52c72ad60c22a6370a315a10d921f90994d6d77d54b76e6d5a04"), looks := false }, kinds := [], alts := [], laidByText := true, laidKinds := [.data, .pinned], laidTests := true, laidLooks := .later }
def TxnPartsUptoCardSaid : Prop := Claim7.holds Tryd.pinned (.plain (OpenSpec.upto txnPartsSpec)) txnPartsUptoCard
end Rows
end Go.Proofs.YtlkgpajpblhkeaaDoor
