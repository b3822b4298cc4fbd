/-
  DERIVED. GIVEN WITH THE SEED: THE CARDS: each row of YtbkhpohlpfcibaaDoorRows.lean that lists a variable, with what it lists TIED to the program's text (the seventh form; the later family's looks); each row that meets fmt, with fmt's text TOLD by the authors' own Lean function (tested against real Go, not proved from fmt's source: count such statements apart). THE CARD IS WHAT COUNTS. Prove the row's statement (the work); the ties are given (YtbkhpohlpfcibaaDoorTie.lean); close each card by the builder's one call (the guide's Derived/Test/ToyasCard.lean, 'card_holds'). Laid BY PROGRAM, IN A SANDBOX (cutbox-door.mjs). By AI agents, Wed Nov 11 2026. No macro, syntax, notation, axiom, sorry.
-/
import Derived.Test.YtbkhpohlpfcibaaDoorRows
import GoSem.ClaimSeven
namespace Go.Proofs.YtbkhpohlpfcibaaDoor
namespace Rows

/-- THE TIED CARD OF 'cryptexlaw06.AeadBack'. -/
def aeadBackCard : Claim7 := { stood := { row := aeadBackRow, standIns := [], harness := (true, "5a4bc7f9ff9126b09a9e92a0257c4b02c6b27804387b6878abd6a48968363db2"), looks := true }, kinds := [], alts := [], laidByText := true, laidKinds := [.handle], laidTests := true, laidLooks := .later }
def AeadBackCardSaid : Prop := Claim7.holds Tryd.pinned (.plain (OpenSpec.ofChange aeadBackSpec)) aeadBackCard

/-- THE TIED CARD OF 'cryptexlaw06.AeadTag'. -/
def aeadTagCard : Claim7 := { stood := { row := aeadTagRow, standIns := [], harness := (true, "5a4bc7f9ff9126b09a9e92a0257c4b02c6b27804387b6878abd6a48968363db2"), looks := true }, kinds := [], alts := [], laidByText := true, laidKinds := [.handle], laidTests := true, laidLooks := .later }
def AeadTagCardSaid : Prop := Claim7.holds Tryd.pinned (.plain (OpenSpec.ofChange aeadTagSpec)) aeadTagCard

/-- THE TIED CARD OF 'cryptexlaw06.AeadMixes'. -/
def aeadMixesCard : Claim7 := { stood := { row := aeadMixesRow, standIns := [], harness := (true, "5a4bc7f9ff9126b09a9e92a0257c4b02c6b27804387b6878abd6a48968363db2"), looks := true }, kinds := [], alts := [], laidByText := true, laidKinds := [.handle], laidTests := true, laidLooks := .later }
def AeadMixesCardSaid : Prop := Claim7.holds Tryd.pinned (.plain (OpenSpec.ofChange aeadMixesSpec)) aeadMixesCard

/-- THE TIED CARD OF 'cryptexlaw06.AeadHides'. -/
def aeadHidesCard : Claim7 := { stood := { row := aeadHidesRow, standIns := [], harness := (true, "5a4bc7f9ff9126b09a9e92a0257c4b02c6b27804387b6878abd6a48968363db2"), looks := true }, kinds := [], alts := [], laidByText := true, laidKinds := [.handle], laidTests := true, laidLooks := .later }
def AeadHidesCardSaid : Prop := Claim7.holds Tryd.pinned (.plain (OpenSpec.ofChange aeadHidesSpec)) aeadHidesCard

/-- THE SECOND FORM's CARD OF 'cryptexlaw06.AeadBack'. -/
def aeadBackUptoCard : Claim7 := { stood := { row := aeadBackUptoRow, standIns := [], harness := (true, "5a4bc7f9ff9126b09a9e92a0257c4b02c6b27804387b6878abd6a48968363db2"), looks := true }, kinds := [], alts := [], laidByText := true, laidKinds := [.handle], laidTests := true, laidLooks := .later }
def AeadBackUptoCardSaid : Prop := Claim7.holds Tryd.pinned (.plain (OpenSpec.upto aeadBackSpec)) aeadBackUptoCard

/-- THE SECOND FORM's CARD OF 'cryptexlaw06.AeadTag'. -/
def aeadTagUptoCard : Claim7 := { stood := { row := aeadTagUptoRow, standIns := [], harness := (true, "5a4bc7f9ff9126b09a9e92a0257c4b02c6b27804387b6878abd6a48968363db2"), looks := true }, kinds := [], alts := [], laidByText := true, laidKinds := [.handle], laidTests := true, laidLooks := .later }
def AeadTagUptoCardSaid : Prop := Claim7.holds Tryd.pinned (.plain (OpenSpec.upto aeadTagSpec)) aeadTagUptoCard

/-- THE SECOND FORM's CARD OF 'cryptexlaw06.AeadMixes'. -/
def aeadMixesUptoCard : Claim7 := { stood := { row := aeadMixesUptoRow, standIns := [], harness := (true, "5a4bc7f9ff9126b09a9e92a0257c4b02c6b27804387b6878abd6a48968363db2"), looks := true }, kinds := [], alts := [], laidByText := true, laidKinds := [.handle], laidTests := true, laidLooks := .later }
def AeadMixesUptoCardSaid : Prop := Claim7.holds Tryd.pinned (.plain (OpenSpec.upto aeadMixesSpec)) aeadMixesUptoCard

/-- THE SECOND FORM's CARD OF 'cryptexlaw06.AeadHides'. -/
def aeadHidesUptoCard : Claim7 := { stood := { row := aeadHidesUptoRow, standIns := [], harness := (true, "5a4bc7f9ff9126b09a9e92a0257c4b02c6b27804387b6878abd6a48968363db2"), looks := true }, kinds := [], alts := [], laidByText := true, laidKinds := [.handle], laidTests := true, laidLooks := .later }
def AeadHidesUptoCardSaid : Prop := Claim7.holds Tryd.pinned (.plain (OpenSpec.upto aeadHidesSpec)) aeadHidesUptoCard
end Rows
end Go.Proofs.YtbkhpohlpfcibaaDoor
