/-
  DERIVED. GIVEN WITH THE SEED: THE CARDS: each row of YtefhmjnoljjabaaDoorRows.lean that lists a variable, with what it lists TIED to the program's text (the seventh form; the later family's looks); each row that meets fmt, with fmt's text TOLD by the authors' own Lean function (tested against real Go, not proved from fmt's source: count such statements apart). THE CARD IS WHAT COUNTS. Prove the row's statement (the work); the ties are given (YtefhmjnoljjabaaDoorTie.lean); close each card by the builder's one call (the guide's Derived/Test/ToyasCard.lean, 'card_holds'). Laid BY PROGRAM, IN A SANDBOX (cutbox-door.mjs). By AI agents, Wed Nov 11 2026. No macro, syntax, notation, axiom, sorry.
-/
import Derived.Test.YtefhmjnoljjabaaDoorRows
import GoSem.ClaimSeven
namespace Go.Proofs.YtefhmjnoljjabaaDoor
namespace Rows

/-- THE TIED CARD OF 'cryptexlaw13.PadTells'. -/
def padTellsCard : Claim7 := { stood := { row := padTellsRow, standIns := [], harness := (true, "519f5fc74bd23d5ca78272edb09e1a056565a7937810cbfe962d71485e7ab2ef"), looks := false }, kinds := [], alts := [], laidByText := true, laidKinds := [.data, .pinned], laidTests := true, laidLooks := .later }
def PadTellsCardSaid : Prop := Claim7.holds Tryd.pinned (.plain (OpenSpec.ofChange padTellsSpec)) padTellsCard

/-- THE TIED CARD OF 'cryptexlaw13.PadBack'. -/
def padBackCard : Claim7 := { stood := { row := padBackRow, standIns := [], harness := (true, "519f5fc74bd23d5ca78272edb09e1a056565a7937810cbfe962d71485e7ab2ef"), looks := false }, kinds := [], alts := [], laidByText := true, laidKinds := [.data, .pinned], laidTests := true, laidLooks := .later }
def PadBackCardSaid : Prop := Claim7.holds Tryd.pinned (.plain (OpenSpec.ofChange padBackSpec)) padBackCard

/-- THE TIED CARD OF 'cryptexlaw13.PadHides'. -/
def padHidesCard : Claim7 := { stood := { row := padHidesRow, standIns := [], harness := (true, "519f5fc74bd23d5ca78272edb09e1a056565a7937810cbfe962d71485e7ab2ef"), looks := false }, kinds := [], alts := [], laidByText := true, laidKinds := [.data, .pinned], laidTests := true, laidLooks := .later }
def PadHidesCardSaid : Prop := Claim7.holds Tryd.pinned (.plain (OpenSpec.ofChange padHidesSpec)) padHidesCard

/-- THE TIED CARD OF 'cryptexlaw13.PadLeast'. -/
def padLeastCard : Claim7 := { stood := { row := padLeastRow, standIns := [], harness := (true, "519f5fc74bd23d5ca78272edb09e1a056565a7937810cbfe962d71485e7ab2ef"), looks := false }, kinds := [], alts := [], laidByText := true, laidKinds := [.data, .pinned], laidTests := true, laidLooks := .later }
def PadLeastCardSaid : Prop := Claim7.holds Tryd.pinned (.plain (OpenSpec.ofChange padLeastSpec)) padLeastCard

/-- THE TIED CARD OF 'cryptexlaw13.PadTurned'. -/
def padTurnedCard : Claim7 := { stood := { row := padTurnedRow, standIns := [], harness := (true, "519f5fc74bd23d5ca78272edb09e1a056565a7937810cbfe962d71485e7ab2ef"), looks := false }, kinds := [], alts := [], laidByText := true, laidKinds := [.data, .pinned], laidTests := true, laidLooks := .later }
def PadTurnedCardSaid : Prop := Claim7.holds Tryd.pinned (.plain (OpenSpec.ofChange padTurnedSpec)) padTurnedCard

/-- THE SECOND FORM's CARD OF 'cryptexlaw13.PadTells'. -/
def padTellsUptoCard : Claim7 := { stood := { row := padTellsUptoRow, standIns := [], harness := (true, "519f5fc74bd23d5ca78272edb09e1a056565a7937810cbfe962d71485e7ab2ef"), looks := false }, kinds := [], alts := [], laidByText := true, laidKinds := [.data, .pinned], laidTests := true, laidLooks := .later }
def PadTellsUptoCardSaid : Prop := Claim7.holds Tryd.pinned (.plain (OpenSpec.upto padTellsSpec)) padTellsUptoCard

/-- THE SECOND FORM's CARD OF 'cryptexlaw13.PadBack'. -/
def padBackUptoCard : Claim7 := { stood := { row := padBackUptoRow, standIns := [], harness := (true, "519f5fc74bd23d5ca78272edb09e1a056565a7937810cbfe962d71485e7ab2ef"), looks := false }, kinds := [], alts := [], laidByText := true, laidKinds := [.data, .pinned], laidTests := true, laidLooks := .later }
def PadBackUptoCardSaid : Prop := Claim7.holds Tryd.pinned (.plain (OpenSpec.upto padBackSpec)) padBackUptoCard

/-- THE SECOND FORM's CARD OF 'cryptexlaw13.PadHides'. -/
def padHidesUptoCard : Claim7 := { stood := { row := padHidesUptoRow, standIns := [], harness := (true, "519f5fc74bd23d5ca78272edb09e1a056565a7937810cbfe962d71485e7ab2ef"), looks := false }, kinds := [], alts := [], laidByText := true, laidKinds := [.data, .pinned], laidTests := true, laidLooks := .later }
def PadHidesUptoCardSaid : Prop := Claim7.holds Tryd.pinned (.plain (OpenSpec.upto padHidesSpec)) padHidesUptoCard

/-- THE SECOND FORM's CARD OF 'cryptexlaw13.PadLeast'. -/
def padLeastUptoCard : Claim7 := { stood := { row := padLeastUptoRow, standIns := [], harness := (true, "519f5fc74bd23d5ca78272edb09e1a056565a7937810cbfe962d71485e7ab2ef"), looks := false }, kinds := [], alts := [], laidByText := true, laidKinds := [.data, .pinned], laidTests := true, laidLooks := .later }
def PadLeastUptoCardSaid : Prop := Claim7.holds Tryd.pinned (.plain (OpenSpec.upto padLeastSpec)) padLeastUptoCard

/-- THE SECOND FORM's CARD OF 'cryptexlaw13.PadTurned'. -/
def padTurnedUptoCard : Claim7 := { stood := { row := padTurnedUptoRow, standIns := [], harness := (true, "519f5fc74bd23d5ca78272edb09e1a056565a7937810cbfe962d71485e7ab2ef"), looks := false }, kinds := [], alts := [], laidByText := true, laidKinds := [.data, .pinned], laidTests := true, laidLooks := .later }
def PadTurnedUptoCardSaid : Prop := Claim7.holds Tryd.pinned (.plain (OpenSpec.upto padTurnedSpec)) padTurnedUptoCard
end Rows
end Go.Proofs.YtefhmjnoljjabaaDoor
