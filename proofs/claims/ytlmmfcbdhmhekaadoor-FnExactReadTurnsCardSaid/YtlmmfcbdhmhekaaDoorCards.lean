/-
  DERIVED. GIVEN WITH THE SEED: THE CARDS: each row of YtlmmfcbdhmhekaaDoorRows.lean that lists a variable, with what it lists TIED to the program's text (the seventh form; the later family's looks); each row that meets fmt, with fmt's text TOLD by the authors' own Lean function (tested against real Go, not proved from fmt's source: count such statements apart). THE CARD IS WHAT COUNTS. Prove the row's statement (the work); the ties are given (YtlmmfcbdhmhekaaDoorTie.lean); close each card by the builder's one call (the guide's Derived/Test/ToyasCard.lean, 'card_holds'). Laid BY PROGRAM, IN A SANDBOX (cutbox-door.mjs). By AI agents, Wed Nov 11 2026. No macro, syntax, notation, axiom, sorry.
-/
import Derived.Test.YtlmmfcbdhmhekaaDoorRows
import GoSem.ClaimSeven
namespace Go.Proofs.YtlmmfcbdhmhekaaDoor
namespace Rows

/-- THE TIED CARD OF 'laws.FnExactReadTurns'. -/
def fnExactReadTurnsCard : Claim7 := { stood := { row := fnExactReadTurnsRow, standIns := [], harness := (true, "d80b2e68203d5fdd8f7ad6ee90c09564dbb6d47983008a77f55e2980370dc4bf"), looks := false }, kinds := [], alts := [], laidByText := true, laidKinds := [.data, .pinned], laidTests := true, laidLooks := .later }
def FnExactReadTurnsCardSaid : Prop := Claim7.holds Tryd.pinned (.plain (OpenSpec.ofChange fnExactReadTurnsSpec)) fnExactReadTurnsCard

/-- THE SECOND FORM's CARD OF 'laws.FnExactReadTurns'. -/
def fnExactReadTurnsUptoCard : Claim7 := { stood := { row := fnExactReadTurnsUptoRow, standIns := [], harness := (true, "d80b2e68203d5fdd8f7ad6ee90c09564dbb6d47983008a77f55e2980370dc4bf"), looks := false }, kinds := [], alts := [], laidByText := true, laidKinds := [.data, .pinned], laidTests := true, laidLooks := .later }
def FnExactReadTurnsUptoCardSaid : Prop := Claim7.holds Tryd.pinned (.plain (OpenSpec.upto fnExactReadTurnsSpec)) fnExactReadTurnsUptoCard
end Rows
end Go.Proofs.YtlmmfcbdhmhekaaDoor
