/-
  No cell of these rows narrows 'for every input' (looked for: loops, veiled, ifaces, maps, wideKeys, modest, calm, conditions, laid).
  DERIVED. THE GIVEN ROWS OF THIS SEAT. 7 by the template 'for every input the law returns true; each argument reads behind the call as it read before'; 0 by the template 'total and deterministic' (their statements: YtbifhoghbonpfaaTotals.lean).
  GIVEN WITH THE SEED: the statements are not yours to turn. If you find one false, say at which input.
  Laid BY PROGRAM, IN A SANDBOX (cutbox-rows.mjs): the forced cells as the released guide's own fill.sh prints them over the translation 7d4fd74761d52478… (all of the seat's roots in one cut). By AI agents, Wed Nov 11 2026. No macro, syntax, notation, axiom, sorry.
-/
import Derived.Test.YtbifhoghbonpfaaChecked
import GoSem.Claim
import GoSem.ClaimJoined
import GoSem.ClaimMapViews
import Derived.JoinedTies
import Derived.KernelRfl
namespace Go.Proofs.Ytbifhoghbonpfaa
/- THE CELL 'sum', in the pinned program and in every row, IS THE sha256 OF THE DUMP (.gsa) THAT YtbifhoghbonpfaaProg.lean LOADS. Nothing in Lean hashes anything: it is a label: what it is worth is what the hold of that sum in a sandbox is worth. -/
noncomputable def Try.pinned : Pinned := { name := "ytbifhoghbonpfaa", sum := "7d4fd74761d52478ca8ccb1bfa60ebffdf5c5fb1ae0712c038d4504cfa9d5f4c", checked := Try.checked }
namespace Rows
def none {H : Type} : Left H := { results := [], args := [] }

/-- 'cryptexlaw01.OctetNumbers': WHATEVER THE INPUT: true; the input reads as it did. -/
def octetNumbersSpec : ChangeSpec := { name := "octetNumbers", fn := fun _ => fun
  | [d1, d2, d3] => { results := [.lit (.bool true)], args := [d1, d2, d3] }
  | _ => none }
def octetNumbersRow : OpenClaim := { program := "ytbifhoghbonpfaa", sum := "7d4fd74761d52478ca8ccb1bfa60ebffdf5c5fb1ae0712c038d4504cfa9d5f4c", func := "cryptex/cryptexlaw01.OctetNumbers", spec := "octetNumbers", apart := false }
def OctetNumbersSaid : Prop := octetNumbersRow.holds Try.pinned (OpenSpec.ofChange octetNumbersSpec)

/-- ITS FALSE NEIGHBOUR: 'it returns false'. Refute it at one input. -/
def octetNumbersWrong : ChangeSpec := { name := "octetNumbers", fn := fun _ => fun
  | [d1, d2, d3] => { results := [.lit (.bool false)], args := [d1, d2, d3] }
  | _ => none }
def OctetNumbersWrongFalsely : Prop := octetNumbersRow.holds Try.pinned (OpenSpec.ofChange octetNumbersWrong)

/-- 'cryptexlaw01.OctetMixes': WHATEVER THE INPUT: true; the input reads as it did. -/
def octetMixesSpec : ChangeSpec := { name := "octetMixes", fn := fun _ => fun
  | [d1, d2, d3] => { results := [.lit (.bool true)], args := [d1, d2, d3] }
  | _ => none }
def octetMixesRow : OpenClaim := { program := "ytbifhoghbonpfaa", sum := "7d4fd74761d52478ca8ccb1bfa60ebffdf5c5fb1ae0712c038d4504cfa9d5f4c", func := "cryptex/cryptexlaw01.OctetMixes", spec := "octetMixes", apart := false }
def OctetMixesSaid : Prop := octetMixesRow.holds Try.pinned (OpenSpec.ofChange octetMixesSpec)

/-- ITS FALSE NEIGHBOUR: 'it returns false'. Refute it at one input. -/
def octetMixesWrong : ChangeSpec := { name := "octetMixes", fn := fun _ => fun
  | [d1, d2, d3] => { results := [.lit (.bool false)], args := [d1, d2, d3] }
  | _ => none }
def OctetMixesWrongFalsely : Prop := octetMixesRow.holds Try.pinned (OpenSpec.ofChange octetMixesWrong)

/-- 'cryptexlaw01.OctetTurns': WHATEVER THE INPUT: true; the input reads as it did. -/
def octetTurnsSpec : ChangeSpec := { name := "octetTurns", fn := fun _ => fun
  | [d1, d2, d3] => { results := [.lit (.bool true)], args := [d1, d2, d3] }
  | _ => none }
def octetTurnsRow : OpenClaim := { program := "ytbifhoghbonpfaa", sum := "7d4fd74761d52478ca8ccb1bfa60ebffdf5c5fb1ae0712c038d4504cfa9d5f4c", func := "cryptex/cryptexlaw01.OctetTurns", spec := "octetTurns", apart := false }
def OctetTurnsSaid : Prop := octetTurnsRow.holds Try.pinned (OpenSpec.ofChange octetTurnsSpec)

/-- ITS FALSE NEIGHBOUR: 'it returns false'. Refute it at one input. -/
def octetTurnsWrong : ChangeSpec := { name := "octetTurns", fn := fun _ => fun
  | [d1, d2, d3] => { results := [.lit (.bool false)], args := [d1, d2, d3] }
  | _ => none }
def OctetTurnsWrongFalsely : Prop := octetTurnsRow.holds Try.pinned (OpenSpec.ofChange octetTurnsWrong)

/-- 'cryptexlaw01.OctetWords': WHATEVER THE INPUT: true; the input reads as it did. -/
def octetWordsSpec : ChangeSpec := { name := "octetWords", fn := fun _ => fun
  | [d1, d2] => { results := [.lit (.bool true)], args := [d1, d2] }
  | _ => none }
def octetWordsRow : OpenClaim := { program := "ytbifhoghbonpfaa", sum := "7d4fd74761d52478ca8ccb1bfa60ebffdf5c5fb1ae0712c038d4504cfa9d5f4c", func := "cryptex/cryptexlaw01.OctetWords", spec := "octetWords", apart := false }
def OctetWordsSaid : Prop := octetWordsRow.holds Try.pinned (OpenSpec.ofChange octetWordsSpec)

/-- ITS FALSE NEIGHBOUR: 'it returns false'. Refute it at one input. -/
def octetWordsWrong : ChangeSpec := { name := "octetWords", fn := fun _ => fun
  | [d1, d2] => { results := [.lit (.bool false)], args := [d1, d2] }
  | _ => none }
def OctetWordsWrongFalsely : Prop := octetWordsRow.holds Try.pinned (OpenSpec.ofChange octetWordsWrong)

/-- 'cryptexlaw01.OctetBack': WHATEVER THE INPUT: true; the input reads as it did. -/
def octetBackSpec : ChangeSpec := { name := "octetBack", fn := fun _ => fun
  | [d1, d2] => { results := [.lit (.bool true)], args := [d1, d2] }
  | _ => none }
def octetBackRow : OpenClaim := { program := "ytbifhoghbonpfaa", sum := "7d4fd74761d52478ca8ccb1bfa60ebffdf5c5fb1ae0712c038d4504cfa9d5f4c", func := "cryptex/cryptexlaw01.OctetBack", spec := "octetBack", apart := false }
def OctetBackSaid : Prop := octetBackRow.holds Try.pinned (OpenSpec.ofChange octetBackSpec)

/-- ITS FALSE NEIGHBOUR: 'it returns false'. Refute it at one input. -/
def octetBackWrong : ChangeSpec := { name := "octetBack", fn := fun _ => fun
  | [d1, d2] => { results := [.lit (.bool false)], args := [d1, d2] }
  | _ => none }
def OctetBackWrongFalsely : Prop := octetBackRow.holds Try.pinned (OpenSpec.ofChange octetBackWrong)

/-- 'cryptexlaw01.OctetSelf': WHATEVER THE INPUT: true; the input reads as it did. -/
def octetSelfSpec : ChangeSpec := { name := "octetSelf", fn := fun _ => fun
  | [d1, d2] => { results := [.lit (.bool true)], args := [d1, d2] }
  | _ => none }
def octetSelfRow : OpenClaim := { program := "ytbifhoghbonpfaa", sum := "7d4fd74761d52478ca8ccb1bfa60ebffdf5c5fb1ae0712c038d4504cfa9d5f4c", func := "cryptex/cryptexlaw01.OctetSelf", spec := "octetSelf", apart := false }
def OctetSelfSaid : Prop := octetSelfRow.holds Try.pinned (OpenSpec.ofChange octetSelfSpec)

/-- ITS FALSE NEIGHBOUR: 'it returns false'. Refute it at one input. -/
def octetSelfWrong : ChangeSpec := { name := "octetSelf", fn := fun _ => fun
  | [d1, d2] => { results := [.lit (.bool false)], args := [d1, d2] }
  | _ => none }
def OctetSelfWrongFalsely : Prop := octetSelfRow.holds Try.pinned (OpenSpec.ofChange octetSelfWrong)

/-- 'cryptexlaw01.OctetFills': WHATEVER THE INPUT: true; the input reads as it did. -/
def octetFillsSpec : ChangeSpec := { name := "octetFills", fn := fun _ => fun
  | [d1, d2] => { results := [.lit (.bool true)], args := [d1, d2] }
  | _ => none }
def octetFillsRow : OpenClaim := { program := "ytbifhoghbonpfaa", sum := "7d4fd74761d52478ca8ccb1bfa60ebffdf5c5fb1ae0712c038d4504cfa9d5f4c", func := "cryptex/cryptexlaw01.OctetFills", spec := "octetFills", apart := false }
def OctetFillsSaid : Prop := octetFillsRow.holds Try.pinned (OpenSpec.ofChange octetFillsSpec)

/-- ITS FALSE NEIGHBOUR: 'it returns false'. Refute it at one input. -/
def octetFillsWrong : ChangeSpec := { name := "octetFills", fn := fun _ => fun
  | [d1, d2] => { results := [.lit (.bool false)], args := [d1, d2] }
  | _ => none }
def OctetFillsWrongFalsely : Prop := octetFillsRow.holds Try.pinned (OpenSpec.ofChange octetFillsWrong)

/- THE SECOND FORM. 'bulk': how many values and letters a reading holds, each counted each time it is reached (what is shared counts as often as it is met; a slice's spare places count too). A statement '..UptoSaid' is the law's where the arguments, and the package variables that the reading takes, are together of bulk at most 1048576: NARROWER than '..Said'. Prove '..Said' where nothing that the law and all that it calls make is longer than what came in: it says more and counts as full. Else prove '..UptoSaid'. A law counts once. -/
mutual
def uptoBulk {H : Type} : DataW H → Nat
  | .lit (.string bytes) => bytes.length + 1
  | .lit _ => 1
  | .nil => 1
  | .ptr d => uptoBulk d + 1
  | .slice elems spare => uptoBulkAll elems + uptoBulkAll spare + 1
  | .agg parts => uptoBulkAll parts + 1
  | .iface _ d => uptoBulk d + 1
  | .map entries => uptoBulkEntries entries + 1
  | .held _ => 1
def uptoBulkAll {H : Type} : List (DataW H) → Nat
  | [] => 0
  | d :: r => uptoBulk d + uptoBulkAll r
def uptoBulkEntries {H : Type} : List (Lit × DataW H) → Nat
  | [] => 0
  | x :: r => uptoBulkEntry x + uptoBulkEntries r
def uptoBulkEntry {H : Type} : Lit × DataW H → Nat
  | (.string bytes, d) => bytes.length + uptoBulk d + 1
  | (_, d) => uptoBulk d + 1
 end
def uptoSmall : (H : Type) → List (DataW H) → Bool := fun _ ds => decide (uptoBulkAll ds ≤ 1048576)
def OpenSpec.upto (s : _root_.Go.ChangeSpec) : _root_.Go.OpenSpec := { _root_.Go.OpenSpec.ofChange s with cond := some uptoSmall }

/-- 'cryptexlaw01.OctetNumbers', WHERE WHAT IT READS IS OF BULK AT MOST 1048576: true; the input reads as it did. -/
def octetNumbersUptoRow : OpenClaim := { program := "ytbifhoghbonpfaa", sum := "7d4fd74761d52478ca8ccb1bfa60ebffdf5c5fb1ae0712c038d4504cfa9d5f4c", func := "cryptex/cryptexlaw01.OctetNumbers", spec := "octetNumbers", apart := false, narrowed := true }
def OctetNumbersUptoSaid : Prop := octetNumbersUptoRow.holds Try.pinned (OpenSpec.upto octetNumbersSpec)

/-- 'cryptexlaw01.OctetMixes', WHERE WHAT IT READS IS OF BULK AT MOST 1048576: true; the input reads as it did. -/
def octetMixesUptoRow : OpenClaim := { program := "ytbifhoghbonpfaa", sum := "7d4fd74761d52478ca8ccb1bfa60ebffdf5c5fb1ae0712c038d4504cfa9d5f4c", func := "cryptex/cryptexlaw01.OctetMixes", spec := "octetMixes", apart := false, narrowed := true }
def OctetMixesUptoSaid : Prop := octetMixesUptoRow.holds Try.pinned (OpenSpec.upto octetMixesSpec)

/-- 'cryptexlaw01.OctetTurns', WHERE WHAT IT READS IS OF BULK AT MOST 1048576: true; the input reads as it did. -/
def octetTurnsUptoRow : OpenClaim := { program := "ytbifhoghbonpfaa", sum := "7d4fd74761d52478ca8ccb1bfa60ebffdf5c5fb1ae0712c038d4504cfa9d5f4c", func := "cryptex/cryptexlaw01.OctetTurns", spec := "octetTurns", apart := false, narrowed := true }
def OctetTurnsUptoSaid : Prop := octetTurnsUptoRow.holds Try.pinned (OpenSpec.upto octetTurnsSpec)

/-- 'cryptexlaw01.OctetWords', WHERE WHAT IT READS IS OF BULK AT MOST 1048576: true; the input reads as it did. -/
def octetWordsUptoRow : OpenClaim := { program := "ytbifhoghbonpfaa", sum := "7d4fd74761d52478ca8ccb1bfa60ebffdf5c5fb1ae0712c038d4504cfa9d5f4c", func := "cryptex/cryptexlaw01.OctetWords", spec := "octetWords", apart := false, narrowed := true }
def OctetWordsUptoSaid : Prop := octetWordsUptoRow.holds Try.pinned (OpenSpec.upto octetWordsSpec)

/-- 'cryptexlaw01.OctetBack', WHERE WHAT IT READS IS OF BULK AT MOST 1048576: true; the input reads as it did. -/
def octetBackUptoRow : OpenClaim := { program := "ytbifhoghbonpfaa", sum := "7d4fd74761d52478ca8ccb1bfa60ebffdf5c5fb1ae0712c038d4504cfa9d5f4c", func := "cryptex/cryptexlaw01.OctetBack", spec := "octetBack", apart := false, narrowed := true }
def OctetBackUptoSaid : Prop := octetBackUptoRow.holds Try.pinned (OpenSpec.upto octetBackSpec)

/-- 'cryptexlaw01.OctetSelf', WHERE WHAT IT READS IS OF BULK AT MOST 1048576: true; the input reads as it did. -/
def octetSelfUptoRow : OpenClaim := { program := "ytbifhoghbonpfaa", sum := "7d4fd74761d52478ca8ccb1bfa60ebffdf5c5fb1ae0712c038d4504cfa9d5f4c", func := "cryptex/cryptexlaw01.OctetSelf", spec := "octetSelf", apart := false, narrowed := true }
def OctetSelfUptoSaid : Prop := octetSelfUptoRow.holds Try.pinned (OpenSpec.upto octetSelfSpec)

/-- 'cryptexlaw01.OctetFills', WHERE WHAT IT READS IS OF BULK AT MOST 1048576: true; the input reads as it did. -/
def octetFillsUptoRow : OpenClaim := { program := "ytbifhoghbonpfaa", sum := "7d4fd74761d52478ca8ccb1bfa60ebffdf5c5fb1ae0712c038d4504cfa9d5f4c", func := "cryptex/cryptexlaw01.OctetFills", spec := "octetFills", apart := false, narrowed := true }
def OctetFillsUptoSaid : Prop := octetFillsUptoRow.holds Try.pinned (OpenSpec.upto octetFillsSpec)

end Rows
end Go.Proofs.Ytbifhoghbonpfaa
