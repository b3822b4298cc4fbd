/-
  DERIVED. GIVEN WITH THE SEED: THE CARDS: each row of YtcahoelfogjljaaGreatDoorRows.lean that lists a variable, with what it lists TIED to the program's text (the seventh form; the later family's looks); each row that meets fmt, with fmt's text TOLD by the authors' own Lean function (tested against real Go, not proved from fmt's source: count such statements apart). THE CARD IS WHAT COUNTS. Prove the row's statement (the work); the ties are given (YtcahoelfogjljaaGreatDoorTie.lean); close each card by the builder's one call (the guide's Derived/Test/ToyasCard.lean, 'card_holds'). Laid BY PROGRAM, IN A SANDBOX (cutbox-door.mjs). By AI agents, Wed Nov 11 2026. No macro, syntax, notation, axiom, sorry.
-/
import Derived.Test.YtcahoelfogjljaaGreatDoorRows
import GoSem.ClaimSeven
namespace Go.Proofs.YtcahoelfogjljaaGreatDoor
namespace Rows

/-- THE TIED CARD OF 'cryptexlaw16.TermWords'. -/
def termWordsCard : Claim7 := { stood := { row := termWordsRow, standIns := [], harness := (true, "7191602e56c35ec360972f3298daa11bbcb557ac724a1642179805597c981834"), looks := true }, kinds := [], alts := [], laidByText := true, laidKinds := [.data, .data, .data, .data, .handle, .sentinel, .sentinel, .pinned], laidTests := true, laidLooks := .later }
def TermWordsCardSaid : Prop := Claim7.holds Tryz.pinned (.plain (OpenSpec.ofChange termWordsSpec)) termWordsCard

/-- THE TIED CARD OF 'cryptexlaw16.TermTells'. -/
def termTellsCard : Claim7 := { stood := { row := termTellsRow, standIns := [], harness := (true, "7191602e56c35ec360972f3298daa11bbcb557ac724a1642179805597c981834"), looks := true }, kinds := [], alts := [], laidByText := true, laidKinds := [.data, .data, .data, .data, .handle, .sentinel, .sentinel, .pinned], laidTests := true, laidLooks := .later }
def TermTellsCardSaid : Prop := Claim7.holds Tryz.pinned (.plain (OpenSpec.ofChange termTellsSpec)) termTellsCard

/-- THE TIED CARD OF 'cryptexlaw16.TermDiffs'. -/
def termDiffsCard : Claim7 := { stood := { row := termDiffsRow, standIns := [], harness := (true, "7191602e56c35ec360972f3298daa11bbcb557ac724a1642179805597c981834"), looks := true }, kinds := [], alts := [], laidByText := true, laidKinds := [.data, .data, .data, .data, .handle, .sentinel, .sentinel, .pinned], laidTests := true, laidLooks := .later }
def TermDiffsCardSaid : Prop := Claim7.holds Tryz.pinned (.plain (OpenSpec.ofChange termDiffsSpec)) termDiffsCard

/-- THE TIED CARD OF 'cryptexlaw16.TermBack'. -/
def termBackCard : Claim7 := { stood := { row := termBackRow, standIns := [], harness := (true, "7191602e56c35ec360972f3298daa11bbcb557ac724a1642179805597c981834"), looks := true }, kinds := [], alts := [], laidByText := true, laidKinds := [.data, .data, .data, .data, .handle, .sentinel, .sentinel, .pinned], laidTests := true, laidLooks := .later }
def TermBackCardSaid : Prop := Claim7.holds Tryz.pinned (.plain (OpenSpec.ofChange termBackSpec)) termBackCard

/-- THE TIED CARD OF 'cryptexlaw16.TermFinds'. -/
def termFindsCard : Claim7 := { stood := { row := termFindsRow, standIns := [], harness := (true, "7191602e56c35ec360972f3298daa11bbcb557ac724a1642179805597c981834"), looks := true }, kinds := [], alts := [], laidByText := true, laidKinds := [.data, .data, .data, .data, .handle, .sentinel, .sentinel, .pinned], laidTests := true, laidLooks := .later }
def TermFindsCardSaid : Prop := Claim7.holds Tryz.pinned (.plain (OpenSpec.ofChange termFindsSpec)) termFindsCard

/-- THE SECOND FORM's CARD OF 'cryptexlaw16.TermWords'. -/
def termWordsUptoCard : Claim7 := { stood := { row := termWordsUptoRow, standIns := [], harness := (true, "7191602e56c35ec360972f3298daa11bbcb557ac724a1642179805597c981834"), looks := true }, kinds := [], alts := [], laidByText := true, laidKinds := [.data, .data, .data, .data, .handle, .sentinel, .sentinel, .pinned], laidTests := true, laidLooks := .later }
def TermWordsUptoCardSaid : Prop := Claim7.holds Tryz.pinned (.plain (OpenSpec.upto termWordsSpec)) termWordsUptoCard

/-- THE SECOND FORM's CARD OF 'cryptexlaw16.TermTells'. -/
def termTellsUptoCard : Claim7 := { stood := { row := termTellsUptoRow, standIns := [], harness := (true, "7191602e56c35ec360972f3298daa11bbcb557ac724a1642179805597c981834"), looks := true }, kinds := [], alts := [], laidByText := true, laidKinds := [.data, .data, .data, .data, .handle, .sentinel, .sentinel, .pinned], laidTests := true, laidLooks := .later }
def TermTellsUptoCardSaid : Prop := Claim7.holds Tryz.pinned (.plain (OpenSpec.upto termTellsSpec)) termTellsUptoCard

/-- THE SECOND FORM's CARD OF 'cryptexlaw16.TermDiffs'. -/
def termDiffsUptoCard : Claim7 := { stood := { row := termDiffsUptoRow, standIns := [], harness := (true, "7191602e56c35ec360972f3298daa11bbcb557ac724a1642179805597c981834"), looks := true }, kinds := [], alts := [], laidByText := true, laidKinds := [.data, .data, .data, .data, .handle, .sentinel, .sentinel, .pinned], laidTests := true, laidLooks := .later }
def TermDiffsUptoCardSaid : Prop := Claim7.holds Tryz.pinned (.plain (OpenSpec.upto termDiffsSpec)) termDiffsUptoCard

/-- THE SECOND FORM's CARD OF 'cryptexlaw16.TermBack'. -/
def termBackUptoCard : Claim7 := { stood := { row := termBackUptoRow, standIns := [], harness := (true, "7191602e56c35ec360972f3298daa11bbcb557ac724a1642179805597c981834"), looks := true }, kinds := [], alts := [], laidByText := true, laidKinds := [.data, .data, .data, .data, .handle, .sentinel, .sentinel, .pinned], laidTests := true, laidLooks := .later }
def TermBackUptoCardSaid : Prop := Claim7.holds Tryz.pinned (.plain (OpenSpec.upto termBackSpec)) termBackUptoCard

/-- THE SECOND FORM's CARD OF 'cryptexlaw16.TermFinds'. -/
def termFindsUptoCard : Claim7 := { stood := { row := termFindsUptoRow, standIns := [], harness := (true, "7191602e56c35ec360972f3298daa11bbcb557ac724a1642179805597c981834"), looks := true }, kinds := [], alts := [], laidByText := true, laidKinds := [.data, .data, .data, .data, .handle, .sentinel, .sentinel, .pinned], laidTests := true, laidLooks := .later }
def TermFindsUptoCardSaid : Prop := Claim7.holds Tryz.pinned (.plain (OpenSpec.upto termFindsSpec)) termFindsUptoCard
end Rows
end Go.Proofs.YtcahoelfogjljaaGreatDoor
