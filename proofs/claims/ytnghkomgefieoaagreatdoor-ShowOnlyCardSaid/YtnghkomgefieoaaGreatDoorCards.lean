/-
  DERIVED. GIVEN WITH THE SEED: THE CARDS: each row of YtnghkomgefieoaaGreatDoorRows.lean that lists a variable, with what it lists TIED to the program's text (the seventh form; the later family's looks); each row that meets fmt, with fmt's text TOLD by the authors' own Lean function (tested against real Go, not proved from fmt's source: count such statements apart). THE CARD IS WHAT COUNTS. Prove the row's statement (the work); the ties are given (YtnghkomgefieoaaGreatDoorTie.lean); close each card by the builder's one call (the guide's Derived/Test/ToyasCard.lean, 'card_holds'). Laid BY PROGRAM, IN A SANDBOX (cutbox-door.mjs). By AI agents, Wed Nov 11 2026. No macro, syntax, notation, axiom, sorry.
-/
import Derived.Test.YtnghkomgefieoaaGreatDoorRows
import GoSem.ClaimSeven
namespace Go.Proofs.YtnghkomgefieoaaGreatDoor
namespace Rows

/-- THE TIED CARD OF 'cryptexlaw10.ShowBack'. -/
def showBackCard : Claim7 := { stood := { row := showBackRow, standIns := [], harness := (true, "a3dd494e808d49d4b8e230f30c33fa44e8cc2597f4bdb3d7d4097b0dd252b319"), looks := true }, kinds := [], alts := [], laidByText := true, laidKinds := [.data, .data, .data, .handle, .sentinel, .sentinel], laidTests := true, laidLooks := .later }
def ShowBackCardSaid : Prop := Claim7.holds Tryz.pinned (.plain (OpenSpec.ofChange showBackSpec)) showBackCard

/-- THE TIED CARD OF 'cryptexlaw10.ShowOnly'. -/
def showOnlyCard : Claim7 := { stood := { row := showOnlyRow, standIns := [], harness := (true, "a3dd494e808d49d4b8e230f30c33fa44e8cc2597f4bdb3d7d4097b0dd252b319"), looks := true }, kinds := [], alts := [], laidByText := true, laidKinds := [.data, .data, .data, .handle, .sentinel, .sentinel], laidTests := true, laidLooks := .later }
def ShowOnlyCardSaid : Prop := Claim7.holds Tryz.pinned (.plain (OpenSpec.ofChange showOnlySpec)) showOnlyCard

/-- THE TIED CARD OF 'cryptexlaw10.ShowDigits'. -/
def showDigitsCard : Claim7 := { stood := { row := showDigitsRow, standIns := [], harness := (true, "a3dd494e808d49d4b8e230f30c33fa44e8cc2597f4bdb3d7d4097b0dd252b319"), looks := true }, kinds := [], alts := [], laidByText := true, laidKinds := [.data, .data, .data, .sentinel, .sentinel], laidTests := true, laidLooks := .later }
def ShowDigitsCardSaid : Prop := Claim7.holds Tryz.pinned (.plain (OpenSpec.ofChange showDigitsSpec)) showDigitsCard

/-- THE SECOND FORM's CARD OF 'cryptexlaw10.ShowBack'. -/
def showBackUptoCard : Claim7 := { stood := { row := showBackUptoRow, standIns := [], harness := (true, "a3dd494e808d49d4b8e230f30c33fa44e8cc2597f4bdb3d7d4097b0dd252b319"), looks := true }, kinds := [], alts := [], laidByText := true, laidKinds := [.data, .data, .data, .handle, .sentinel, .sentinel], laidTests := true, laidLooks := .later }
def ShowBackUptoCardSaid : Prop := Claim7.holds Tryz.pinned (.plain (OpenSpec.upto showBackSpec)) showBackUptoCard

/-- THE SECOND FORM's CARD OF 'cryptexlaw10.ShowOnly'. -/
def showOnlyUptoCard : Claim7 := { stood := { row := showOnlyUptoRow, standIns := [], harness := (true, "a3dd494e808d49d4b8e230f30c33fa44e8cc2597f4bdb3d7d4097b0dd252b319"), looks := true }, kinds := [], alts := [], laidByText := true, laidKinds := [.data, .data, .data, .handle, .sentinel, .sentinel], laidTests := true, laidLooks := .later }
def ShowOnlyUptoCardSaid : Prop := Claim7.holds Tryz.pinned (.plain (OpenSpec.upto showOnlySpec)) showOnlyUptoCard

/-- THE SECOND FORM's CARD OF 'cryptexlaw10.ShowDigits'. -/
def showDigitsUptoCard : Claim7 := { stood := { row := showDigitsUptoRow, standIns := [], harness := (true, "a3dd494e808d49d4b8e230f30c33fa44e8cc2597f4bdb3d7d4097b0dd252b319"), looks := true }, kinds := [], alts := [], laidByText := true, laidKinds := [.data, .data, .data, .sentinel, .sentinel], laidTests := true, laidLooks := .later }
def ShowDigitsUptoCardSaid : Prop := Claim7.holds Tryz.pinned (.plain (OpenSpec.upto showDigitsSpec)) showDigitsUptoCard
end Rows
end Go.Proofs.YtnghkomgefieoaaGreatDoor
