/-
  DERIVED. GIVEN WITH THE SEED: THE CARDS: each row of YtdmiflfhaobngaaGreatDoorRows.lean that lists a variable, with what it lists TIED to the program's text (the seventh form; the later family's looks); each row that meets fmt, with fmt's text TOLD by the authors' own Lean function (tested against real Go, not proved from fmt's source: count such statements apart). THE CARD IS WHAT COUNTS. Prove the row's statement (the work); the ties are given (YtdmiflfhaobngaaGreatDoorTie.lean); close each card by the builder's one call (the guide's Derived/Test/ToyasCard.lean, 'card_holds'). Laid BY PROGRAM, IN A SANDBOX (cutbox-door.mjs). By AI agents, Wed Nov 11 2026. No macro, syntax, notation, axiom, sorry.
-/
import Derived.Test.YtdmiflfhaobngaaGreatDoorRows
import GoSem.ClaimSeven
namespace Go.Proofs.YtdmiflfhaobngaaGreatDoor
namespace Rows

/-- THE TIED CARD OF 'cryptexlaw18.VaultApplies'. -/
def vaultAppliesCard : Claim7 := { stood := { row := vaultAppliesRow, standIns := [], harness := (true, "6c6969e00ffc8d2955acbf09852cb5cb1efdef8a4c7b2700d96c4046b1e85668"), looks := true }, kinds := [], alts := [], laidByText := true, laidKinds := [.data, .data, .data, .pinned], laidTests := true, laidLooks := .later }
def VaultAppliesCardSaid : Prop := Claim7.holds Tryz.pinned (.plain (OpenSpec.ofChange vaultAppliesSpec)) vaultAppliesCard

/-- THE TIED CARD OF 'cryptexlaw18.VaultBytes'. -/
def vaultBytesCard : Claim7 := { stood := { row := vaultBytesRow, standIns := [], harness := (true, "6c6969e00ffc8d2955acbf09852cb5cb1efdef8a4c7b2700d96c4046b1e85668"), looks := true }, kinds := [], alts := [], laidByText := true, laidKinds := [.data, .data, .data, .pinned], laidTests := true, laidLooks := .later }
def VaultBytesCardSaid : Prop := Claim7.holds Tryz.pinned (.plain (OpenSpec.ofChange vaultBytesSpec)) vaultBytesCard

/-- THE TIED CARD OF 'cryptexlaw18.VaultBack'. -/
def vaultBackCard : Claim7 := { stood := { row := vaultBackRow, standIns := [], harness := (true, "6c6969e00ffc8d2955acbf09852cb5cb1efdef8a4c7b2700d96c4046b1e85668"), looks := true }, kinds := [], alts := [], laidByText := true, laidKinds := [.data, .data, .data, .pinned], laidTests := true, laidLooks := .later }
def VaultBackCardSaid : Prop := Claim7.holds Tryz.pinned (.plain (OpenSpec.ofChange vaultBackSpec)) vaultBackCard

/-- THE TIED CARD OF 'cryptexlaw18.VaultStays'. -/
def vaultStaysCard : Claim7 := { stood := { row := vaultStaysRow, standIns := [], harness := (true, "6c6969e00ffc8d2955acbf09852cb5cb1efdef8a4c7b2700d96c4046b1e85668"), looks := true }, kinds := [], alts := [], laidByText := true, laidKinds := [.data, .data, .data, .pinned], laidTests := true, laidLooks := .later }
def VaultStaysCardSaid : Prop := Claim7.holds Tryz.pinned (.plain (OpenSpec.ofChange vaultStaysSpec)) vaultStaysCard

/-- THE TIED CARD OF 'cryptexlaw18.VaultChain'. -/
def vaultChainCard : Claim7 := { stood := { row := vaultChainRow, standIns := [], harness := (true, "6c6969e00ffc8d2955acbf09852cb5cb1efdef8a4c7b2700d96c4046b1e85668"), looks := true }, kinds := [], alts := [], laidByText := true, laidKinds := [.data, .data, .data, .pinned], laidTests := true, laidLooks := .later }
def VaultChainCardSaid : Prop := Claim7.holds Tryz.pinned (.plain (OpenSpec.ofChange vaultChainSpec)) vaultChainCard

/-- THE SECOND FORM's CARD OF 'cryptexlaw18.VaultApplies'. -/
def vaultAppliesUptoCard : Claim7 := { stood := { row := vaultAppliesUptoRow, standIns := [], harness := (true, "6c6969e00ffc8d2955acbf09852cb5cb1efdef8a4c7b2700d96c4046b1e85668"), looks := true }, kinds := [], alts := [], laidByText := true, laidKinds := [.data, .data, .data, .pinned], laidTests := true, laidLooks := .later }
def VaultAppliesUptoCardSaid : Prop := Claim7.holds Tryz.pinned (.plain (OpenSpec.upto vaultAppliesSpec)) vaultAppliesUptoCard

/-- THE SECOND FORM's CARD OF 'cryptexlaw18.VaultBytes'. -/
def vaultBytesUptoCard : Claim7 := { stood := { row := vaultBytesUptoRow, standIns := [], harness := (true, "6c6969e00ffc8d2955acbf09852cb5cb1efdef8a4c7b2700d96c4046b1e85668"), looks := true }, kinds := [], alts := [], laidByText := true, laidKinds := [.data, .data, .data, .pinned], laidTests := true, laidLooks := .later }
def VaultBytesUptoCardSaid : Prop := Claim7.holds Tryz.pinned (.plain (OpenSpec.upto vaultBytesSpec)) vaultBytesUptoCard

/-- THE SECOND FORM's CARD OF 'cryptexlaw18.VaultBack'. -/
def vaultBackUptoCard : Claim7 := { stood := { row := vaultBackUptoRow, standIns := [], harness := (true, "6c6969e00ffc8d2955acbf09852cb5cb1efdef8a4c7b2700d96c4046b1e85668"), looks := true }, kinds := [], alts := [], laidByText := true, laidKinds := [.data, .data, .data, .pinned], laidTests := true, laidLooks := .later }
def VaultBackUptoCardSaid : Prop := Claim7.holds Tryz.pinned (.plain (OpenSpec.upto vaultBackSpec)) vaultBackUptoCard

/-- THE SECOND FORM's CARD OF 'cryptexlaw18.VaultStays'. -/
def vaultStaysUptoCard : Claim7 := { stood := { row := vaultStaysUptoRow, standIns := [], harness := (true, "6c6969e00ffc8d2955acbf09852cb5cb1efdef8a4c7b2700d96c4046b1e85668"), looks := true }, kinds := [], alts := [], laidByText := true, laidKinds := [.data, .data, .data, .pinned], laidTests := true, laidLooks := .later }
def VaultStaysUptoCardSaid : Prop := Claim7.holds Tryz.pinned (.plain (OpenSpec.upto vaultStaysSpec)) vaultStaysUptoCard

/-- THE SECOND FORM's CARD OF 'cryptexlaw18.VaultChain'. -/
def vaultChainUptoCard : Claim7 := { stood := { row := vaultChainUptoRow, standIns := [], harness := (true, "6c6969e00ffc8d2955acbf09852cb5cb1efdef8a4c7b2700d96c4046b1e85668"), looks := true }, kinds := [], alts := [], laidByText := true, laidKinds := [.data, .data, .data, .pinned], laidTests := true, laidLooks := .later }
def VaultChainUptoCardSaid : Prop := Claim7.holds Tryz.pinned (.plain (OpenSpec.upto vaultChainSpec)) vaultChainUptoCard
end Rows
end Go.Proofs.YtdmiflfhaobngaaGreatDoor
