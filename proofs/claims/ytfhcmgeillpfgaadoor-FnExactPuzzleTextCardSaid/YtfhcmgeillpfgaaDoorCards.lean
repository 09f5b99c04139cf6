/-
  DERIVED. GIVEN WITH THE SEED: THE CARDS: each row of YtfhcmgeillpfgaaDoorRows.lean that lists a variable, with what it lists TIED to the program's text (the seventh form; the later family's looks); each row that meets fmt, with fmt's text TOLD by the authors' own Lean function (tested against real Go, not proved from fmt's source: count such statements apart). THE CARD IS WHAT COUNTS. Prove the row's statement (the work); the ties are given (YtfhcmgeillpfgaaDoorTie.lean); close each card by the builder's one call (the guide's Derived/Test/ToyasCard.lean, 'card_holds'). Laid BY PROGRAM, IN A SANDBOX (cutbox-door.mjs). By AI agents, Wed Nov 11 2026. No macro, syntax, notation, axiom, sorry.
-/
import Derived.Test.YtfhcmgeillpfgaaDoorRows
import GoSem.ClaimSeven
namespace Go.Proofs.YtfhcmgeillpfgaaDoor
namespace Rows

/-- THE TIED CARD OF 'laws.FnExactPuzzleText'. -/
def fnExactPuzzleTextCard : Claim7 := { stood := { row := fnExactPuzzleTextRow, standIns := [], harness := (true, "06b97c88c0dbf9f4f50dc35adc75b5c5724b6d6debbb62ddf6dfcb11c17de75e"), looks := true }, kinds := [], alts := [], laidByText := true, laidKinds := [.data, .data, .data], laidTests := true, laidLooks := .later }
def FnExactPuzzleTextCardSaid : Prop := Claim7.holds Tryd.pinned (.plain (OpenSpec.ofChange fnExactPuzzleTextSpec)) fnExactPuzzleTextCard

/-- THE TIED CARD OF 'laws.FnExactReadPuzzle'. -/
def fnExactReadPuzzleCard : Claim7 := { stood := { row := fnExactReadPuzzleRow, standIns := [], harness := (true, "06b97c88c0dbf9f4f50dc35adc75b5c5724b6d6debbb62ddf6dfcb11c17de75e"), looks := true }, kinds := [], alts := [], laidByText := true, laidKinds := [.data, .data, .data, .data, .sentinel, .sentinel, .pinned], laidTests := true, laidLooks := .later }
def FnExactReadPuzzleCardSaid : Prop := Claim7.holds Tryd.pinned (.plain (OpenSpec.ofChange fnExactReadPuzzleSpec)) fnExactReadPuzzleCard

/-- THE SECOND FORM's CARD OF 'laws.FnExactPuzzleText'. -/
def fnExactPuzzleTextUptoCard : Claim7 := { stood := { row := fnExactPuzzleTextUptoRow, standIns := [], harness := (true, "06b97c88c0dbf9f4f50dc35adc75b5c5724b6d6debbb62ddf6dfcb11c17de75e"), looks := true }, kinds := [], alts := [], laidByText := true, laidKinds := [.data, .data, .data], laidTests := true, laidLooks := .later }
def FnExactPuzzleTextUptoCardSaid : Prop := Claim7.holds Tryd.pinned (.plain (OpenSpec.upto fnExactPuzzleTextSpec)) fnExactPuzzleTextUptoCard

/-- THE SECOND FORM's CARD OF 'laws.FnExactReadPuzzle'. -/
def fnExactReadPuzzleUptoCard : Claim7 := { stood := { row := fnExactReadPuzzleUptoRow, standIns := [], harness := (true, "06b97c88c0dbf9f4f50dc35adc75b5c5724b6d6debbb62ddf6dfcb11c17de75e"), looks := true }, kinds := [], alts := [], laidByText := true, laidKinds := [.data, .data, .data, .data, .sentinel, .sentinel, .pinned], laidTests := true, laidLooks := .later }
def FnExactReadPuzzleUptoCardSaid : Prop := Claim7.holds Tryd.pinned (.plain (OpenSpec.upto fnExactReadPuzzleSpec)) fnExactReadPuzzleUptoCard
end Rows
end Go.Proofs.YtfhcmgeillpfgaaDoor
