/-
  DERIVED. GIVEN WITH THE SEED: THE CARDS: each row of YteicfelaelhaiaaDoorRows.lean that lists a variable, with what it lists TIED to the program's text (the seventh form; the later family's looks); each row that meets fmt, with fmt's text TOLD by the authors' own Lean function (tested against real Go, not proved from fmt's source: count such statements apart). THE CARD IS WHAT COUNTS. Prove the row's statement (the work); the ties are given (YteicfelaelhaiaaDoorTie.lean); close each card by the builder's one call (the guide's Derived/Test/ToyasCard.lean, 'card_holds'). Laid BY PROGRAM, IN A SANDBOX (cutbox-door.mjs). By AI agents, Wed Nov 11 2026. No macro, syntax, notation, axiom, sorry.
-/
import Derived.Test.YteicfelaelhaiaaDoorRows
import GoSem.ClaimSeven
namespace Go.Proofs.YteicfelaelhaiaaDoor
namespace Rows

/-- THE TIED CARD OF 'laws.FnExactWeightsText'. -/
def fnExactWeightsTextCard : Claim7 := { stood := { row := fnExactWeightsTextRow, standIns := [], harness := (true, "a8e83d98a6e9b8716d951776ce18d8d6ab1e194291749e5c6bc625b26b839578"), looks := true }, kinds := [], alts := [], laidByText := true, laidKinds := [.data, .data, .data], laidTests := true, laidLooks := .later }
def FnExactWeightsTextCardSaid : Prop := Claim7.holds Tryd.pinned (.plain (OpenSpec.ofChange fnExactWeightsTextSpec)) fnExactWeightsTextCard

/-- THE TIED CARD OF 'laws.FnExactReadWeights'. -/
def fnExactReadWeightsCard : Claim7 := { stood := { row := fnExactReadWeightsRow, standIns := [], harness := (true, "a8e83d98a6e9b8716d951776ce18d8d6ab1e194291749e5c6bc625b26b839578"), looks := true }, kinds := [], alts := [], laidByText := true, laidKinds := [.data, .data, .data, .data, .sentinel, .sentinel, .pinned], laidTests := true, laidLooks := .later }
def FnExactReadWeightsCardSaid : Prop := Claim7.holds Tryd.pinned (.plain (OpenSpec.ofChange fnExactReadWeightsSpec)) fnExactReadWeightsCard

/-- THE SECOND FORM's CARD OF 'laws.FnExactWeightsText'. -/
def fnExactWeightsTextUptoCard : Claim7 := { stood := { row := fnExactWeightsTextUptoRow, standIns := [], harness := (true, "a8e83d98a6e9b8716d951776ce18d8d6ab1e194291749e5c6bc625b26b839578"), looks := true }, kinds := [], alts := [], laidByText := true, laidKinds := [.data, .data, .data], laidTests := true, laidLooks := .later }
def FnExactWeightsTextUptoCardSaid : Prop := Claim7.holds Tryd.pinned (.plain (OpenSpec.upto fnExactWeightsTextSpec)) fnExactWeightsTextUptoCard

/-- THE SECOND FORM's CARD OF 'laws.FnExactReadWeights'. -/
def fnExactReadWeightsUptoCard : Claim7 := { stood := { row := fnExactReadWeightsUptoRow, standIns := [], harness := (true, "a8e83d98a6e9b8716d951776ce18d8d6ab1e194291749e5c6bc625b26b839578"), looks := true }, kinds := [], alts := [], laidByText := true, laidKinds := [.data, .data, .data, .data, .sentinel, .sentinel, .pinned], laidTests := true, laidLooks := .later }
def FnExactReadWeightsUptoCardSaid : Prop := Claim7.holds Tryd.pinned (.plain (OpenSpec.upto fnExactReadWeightsSpec)) fnExactReadWeightsUptoCard
end Rows
end Go.Proofs.YteicfelaelhaiaaDoor
