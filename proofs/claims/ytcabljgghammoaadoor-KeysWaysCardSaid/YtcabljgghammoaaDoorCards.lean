/-
  DERIVED. GIVEN WITH THE SEED: THE CARDS: each row of YtcabljgghammoaaDoorRows.lean that lists a variable, with what it lists TIED to the program's text (the seventh form; the later family's looks); each row that meets fmt, with fmt's text TOLD by the authors' own Lean function (tested against real Go, not proved from fmt's source: count such statements apart). THE CARD IS WHAT COUNTS. Prove the row's statement (the work); the ties are given (YtcabljgghammoaaDoorTie.lean); close each card by the builder's one call (the guide's Derived/Test/ToyasCard.lean, 'card_holds'). Laid BY PROGRAM, IN A SANDBOX (cutbox-door.mjs). By AI agents, Wed Nov 11 2026. No macro, syntax, notation, axiom, sorry.
-/
import Derived.Test.YtcabljgghammoaaDoorRows
import GoSem.ClaimSeven
namespace Go.Proofs.YtcabljgghammoaaDoor
namespace Rows

/-- THE TIED CARD OF 'cryptexlaw14.KeysWays'. -/
def keysWaysCard : Claim7 := { stood := { row := keysWaysRow, standIns := [], harness := (true, "e2c642711274b00f2b74c2b40f6afb78a94c36e30374c166668b39cb8a29aac8"), looks := false }, kinds := [], alts := [], laidByText := true, laidKinds := [.data, .data, .data, .pinned], laidTests := true, laidLooks := .later }
def KeysWaysCardSaid : Prop := Claim7.holds Tryd.pinned (.plain (OpenSpec.ofChange keysWaysSpec)) keysWaysCard

/-- THE TIED CARD OF 'cryptexlaw14.KeysNonces'. -/
def keysNoncesCard : Claim7 := { stood := { row := keysNoncesRow, standIns := [], harness := (true, "e2c642711274b00f2b74c2b40f6afb78a94c36e30374c166668b39cb8a29aac8"), looks := false }, kinds := [], alts := [], laidByText := true, laidKinds := [.data, .data, .data, .pinned], laidTests := true, laidLooks := .later }
def KeysNoncesCardSaid : Prop := Claim7.holds Tryd.pinned (.plain (OpenSpec.ofChange keysNoncesSpec)) keysNoncesCard

/-- THE SECOND FORM's CARD OF 'cryptexlaw14.KeysWays'. -/
def keysWaysUptoCard : Claim7 := { stood := { row := keysWaysUptoRow, standIns := [], harness := (true, "e2c642711274b00f2b74c2b40f6afb78a94c36e30374c166668b39cb8a29aac8"), looks := false }, kinds := [], alts := [], laidByText := true, laidKinds := [.data, .data, .data, .pinned], laidTests := true, laidLooks := .later }
def KeysWaysUptoCardSaid : Prop := Claim7.holds Tryd.pinned (.plain (OpenSpec.upto keysWaysSpec)) keysWaysUptoCard

/-- THE SECOND FORM's CARD OF 'cryptexlaw14.KeysNonces'. -/
def keysNoncesUptoCard : Claim7 := { stood := { row := keysNoncesUptoRow, standIns := [], harness := (true, "e2c642711274b00f2b74c2b40f6afb78a94c36e30374c166668b39cb8a29aac8"), looks := false }, kinds := [], alts := [], laidByText := true, laidKinds := [.data, .data, .data, .pinned], laidTests := true, laidLooks := .later }
def KeysNoncesUptoCardSaid : Prop := Claim7.holds Tryd.pinned (.plain (OpenSpec.upto keysNoncesSpec)) keysNoncesUptoCard
end Rows
end Go.Proofs.YtcabljgghammoaaDoor
