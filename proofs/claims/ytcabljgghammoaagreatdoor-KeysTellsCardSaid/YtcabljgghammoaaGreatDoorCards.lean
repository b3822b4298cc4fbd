/-
  DERIVED. GIVEN WITH THE SEED: THE CARDS: each row of YtcabljgghammoaaGreatDoorRows.lean that lists a variable, with what it lists TIED to the program's text (the seventh form; the later family's looks); each row that meets fmt, with fmt's text TOLD by the authors' own Lean function (tested against real Go, not proved from fmt's source: count such statements apart). THE CARD IS WHAT COUNTS. Prove the row's statement (the work); the ties are given (YtcabljgghammoaaGreatDoorTie.lean); close each card by the builder's one call (the guide's Derived/Test/ToyasCard.lean, 'card_holds'). Laid BY PROGRAM, IN A SANDBOX (cutbox-door.mjs). By AI agents, Wed Nov 11 2026. No macro, syntax, notation, axiom, sorry.
-/
import Derived.Test.YtcabljgghammoaaGreatDoorRows
import GoSem.ClaimSeven
namespace Go.Proofs.YtcabljgghammoaaGreatDoor
namespace Rows

/-- THE TIED CARD OF 'cryptexlaw14.KeysTells'. -/
def keysTellsCard : Claim7 := { stood := { row := keysTellsRow, standIns := [], harness := (true, "a26fda5ed3eb28914c322377851e4baf7a408f9527d91dd54793b31089b0a227"), looks := false }, kinds := [], alts := [], laidByText := true, laidKinds := [.data, .data, .data, .pinned], laidTests := true, laidLooks := .later }
def KeysTellsCardSaid : Prop := Claim7.holds Tryz.pinned (.plain (OpenSpec.ofChange keysTellsSpec)) keysTellsCard

/-- THE TIED CARD OF 'cryptexlaw14.KeysLabels'. -/
def keysLabelsCard : Claim7 := { stood := { row := keysLabelsRow, standIns := [], harness := (true, "a26fda5ed3eb28914c322377851e4baf7a408f9527d91dd54793b31089b0a227"), looks := false }, kinds := [], alts := [], laidByText := true, laidKinds := [.data, .data, .data, .pinned], laidTests := true, laidLooks := .later }
def KeysLabelsCardSaid : Prop := Claim7.holds Tryz.pinned (.plain (OpenSpec.ofChange keysLabelsSpec)) keysLabelsCard

/-- THE SECOND FORM's CARD OF 'cryptexlaw14.KeysTells'. -/
def keysTellsUptoCard : Claim7 := { stood := { row := keysTellsUptoRow, standIns := [], harness := (true, "a26fda5ed3eb28914c322377851e4baf7a408f9527d91dd54793b31089b0a227"), looks := false }, kinds := [], alts := [], laidByText := true, laidKinds := [.data, .data, .data, .pinned], laidTests := true, laidLooks := .later }
def KeysTellsUptoCardSaid : Prop := Claim7.holds Tryz.pinned (.plain (OpenSpec.upto keysTellsSpec)) keysTellsUptoCard

/-- THE SECOND FORM's CARD OF 'cryptexlaw14.KeysLabels'. -/
def keysLabelsUptoCard : Claim7 := { stood := { row := keysLabelsUptoRow, standIns := [], harness := (true, "a26fda5ed3eb28914c322377851e4baf7a408f9527d91dd54793b31089b0a227"), looks := false }, kinds := [], alts := [], laidByText := true, laidKinds := [.data, .data, .data, .pinned], laidTests := true, laidLooks := .later }
def KeysLabelsUptoCardSaid : Prop := Claim7.holds Tryz.pinned (.plain (OpenSpec.upto keysLabelsSpec)) keysLabelsUptoCard
end Rows
end Go.Proofs.YtcabljgghammoaaGreatDoor
