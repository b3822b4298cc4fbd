/-
  DERIVED. GIVEN WITH THE SEED: THE CARDS: each row of YtdigkoejfgmecaaGreatDoorRows.lean that lists a variable, with what it lists TIED to the program's text (the seventh form; the later family's looks); each row that meets fmt, with fmt's text TOLD by the authors' own Lean function (tested against real Go, not proved from fmt's source: count such statements apart). THE CARD IS WHAT COUNTS. Prove the row's statement (the work); the ties are given (YtdigkoejfgmecaaGreatDoorTie.lean); close each card by the builder's one call (the guide's Derived/Test/ToyasCard.lean, 'card_holds'). Laid BY PROGRAM, IN A SANDBOX (cutbox-door.mjs). By AI agents, Wed Nov 11 2026. No macro, syntax, notation, axiom, sorry.
-/
import Derived.Test.YtdigkoejfgmecaaGreatDoorRows
import GoSem.ClaimSeven
namespace Go.Proofs.YtdigkoejfgmecaaGreatDoor
namespace Rows

/-- THE TIED CARD OF 'cryptexlaw22.QueryAsks'. -/
def queryAsksCard : Claim7 := { stood := { row := queryAsksRow, standIns := [], harness := (true, "5cd0b4f4779effd4036ac1ba0e85dd37929d587b6c9951b38dafba7df69ae7ee"), looks := true }, kinds := [], alts := [], laidByText := true, laidKinds := [.data, .data, .data, .handle, .sentinel, .sentinel], laidTests := true, laidLooks := .later }
def QueryAsksCardSaid : Prop := Claim7.holds Tryz.pinned (.plain (OpenSpec.ofChange queryAsksSpec)) queryAsksCard

/-- THE TIED CARD OF 'cryptexlaw22.QueryLogic'. -/
def queryLogicCard : Claim7 := { stood := { row := queryLogicRow, standIns := [], harness := (true, "5cd0b4f4779effd4036ac1ba0e85dd37929d587b6c9951b38dafba7df69ae7ee"), looks := true }, kinds := [], alts := [], laidByText := true, laidKinds := [.data, .data, .data, .handle, .sentinel, .sentinel], laidTests := true, laidLooks := .later }
def QueryLogicCardSaid : Prop := Claim7.holds Tryz.pinned (.plain (OpenSpec.ofChange queryLogicSpec)) queryLogicCard

/-- THE TIED CARD OF 'cryptexlaw22.QueryOrders'. -/
def queryOrdersCard : Claim7 := { stood := { row := queryOrdersRow, standIns := [], harness := (true, "5cd0b4f4779effd4036ac1ba0e85dd37929d587b6c9951b38dafba7df69ae7ee"), looks := true }, kinds := [], alts := [], laidByText := true, laidKinds := [.data, .data, .data, .handle, .sentinel, .sentinel], laidTests := true, laidLooks := .later }
def QueryOrdersCardSaid : Prop := Claim7.holds Tryz.pinned (.plain (OpenSpec.ofChange queryOrdersSpec)) queryOrdersCard

/-- THE TIED CARD OF 'cryptexlaw22.QueryFields'. -/
def queryFieldsCard : Claim7 := { stood := { row := queryFieldsRow, standIns := [], harness := (true, "5cd0b4f4779effd4036ac1ba0e85dd37929d587b6c9951b38dafba7df69ae7ee"), looks := true }, kinds := [], alts := [], laidByText := true, laidKinds := [.data, .data, .data, .handle, .sentinel, .sentinel], laidTests := true, laidLooks := .later }
def QueryFieldsCardSaid : Prop := Claim7.holds Tryz.pinned (.plain (OpenSpec.ofChange queryFieldsSpec)) queryFieldsCard

/-- THE SECOND FORM's CARD OF 'cryptexlaw22.QueryAsks'. -/
def queryAsksUptoCard : Claim7 := { stood := { row := queryAsksUptoRow, standIns := [], harness := (true, "5cd0b4f4779effd4036ac1ba0e85dd37929d587b6c9951b38dafba7df69ae7ee"), looks := true }, kinds := [], alts := [], laidByText := true, laidKinds := [.data, .data, .data, .handle, .sentinel, .sentinel], laidTests := true, laidLooks := .later }
def QueryAsksUptoCardSaid : Prop := Claim7.holds Tryz.pinned (.plain (OpenSpec.upto queryAsksSpec)) queryAsksUptoCard

/-- THE SECOND FORM's CARD OF 'cryptexlaw22.QueryLogic'. -/
def queryLogicUptoCard : Claim7 := { stood := { row := queryLogicUptoRow, standIns := [], harness := (true, "5cd0b4f4779effd4036ac1ba0e85dd37929d587b6c9951b38dafba7df69ae7ee"), looks := true }, kinds := [], alts := [], laidByText := true, laidKinds := [.data, .data, .data, .handle, .sentinel, .sentinel], laidTests := true, laidLooks := .later }
def QueryLogicUptoCardSaid : Prop := Claim7.holds Tryz.pinned (.plain (OpenSpec.upto queryLogicSpec)) queryLogicUptoCard

/-- THE SECOND FORM's CARD OF 'cryptexlaw22.QueryOrders'. -/
def queryOrdersUptoCard : Claim7 := { stood := { row := queryOrdersUptoRow, standIns := [], harness := (true, "5cd0b4f4779effd4036ac1ba0e85dd37929d587b6c9951b38dafba7df69ae7ee"), looks := true }, kinds := [], alts := [], laidByText := true, laidKinds := [.data, .data, .data, .handle, .sentinel, .sentinel], laidTests := true, laidLooks := .later }
def QueryOrdersUptoCardSaid : Prop := Claim7.holds Tryz.pinned (.plain (OpenSpec.upto queryOrdersSpec)) queryOrdersUptoCard

/-- THE SECOND FORM's CARD OF 'cryptexlaw22.QueryFields'. -/
def queryFieldsUptoCard : Claim7 := { stood := { row := queryFieldsUptoRow, standIns := [], harness := (true, "5cd0b4f4779effd4036ac1ba0e85dd37929d587b6c9951b38dafba7df69ae7ee"), looks := true }, kinds := [], alts := [], laidByText := true, laidKinds := [.data, .data, .data, .handle, .sentinel, .sentinel], laidTests := true, laidLooks := .later }
def QueryFieldsUptoCardSaid : Prop := Claim7.holds Tryz.pinned (.plain (OpenSpec.upto queryFieldsSpec)) queryFieldsUptoCard
end Rows
end Go.Proofs.YtdigkoejfgmecaaGreatDoor
