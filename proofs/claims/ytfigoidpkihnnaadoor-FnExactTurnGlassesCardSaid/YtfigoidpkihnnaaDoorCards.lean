/-
  DERIVED. GIVEN WITH THE SEED: THE CARDS: each row of YtfigoidpkihnnaaDoorRows.lean that lists a variable, with what it lists TIED to the program's text (the seventh form; the later family's looks); each row that meets fmt, with fmt's text TOLD by the authors' own Lean function (tested against real Go, not proved from fmt's source: count such statements apart). THE CARD IS WHAT COUNTS. Prove the row's statement (the work); the ties are given (YtfigoidpkihnnaaDoorTie.lean); close each card by the builder's one call (the guide's Derived/Test/ToyasCard.lean, 'card_holds'). Laid BY PROGRAM, IN A SANDBOX (cutbox-door.mjs). By AI agents, Wed Nov 11 2026. No macro, syntax, notation, axiom, sorry.
-/
import Derived.Test.YtfigoidpkihnnaaDoorRows
import GoSem.ClaimSeven
namespace Go.Proofs.YtfigoidpkihnnaaDoor
namespace Rows

/-- THE TIED CARD OF 'laws.FnExactTurnGlasses'. -/
def fnExactTurnGlassesCard : Claim7 := { stood := { row := fnExactTurnGlassesRow, standIns := [], harness := (true, "f6259591b8b01b77cdb164a4afd7162c0ad78cfb1ebb6d8f36b9d2f765d97ebb"), looks := true }, kinds := [], alts := [], laidByText := true, laidKinds := [.handle], laidTests := true, laidLooks := .later }
def FnExactTurnGlassesCardSaid : Prop := Claim7.holds Tryd.pinned (.plain (OpenSpec.ofChange fnExactTurnGlassesSpec)) fnExactTurnGlassesCard

/-- THE TIED CARD OF 'laws.FnExactWaitFor'. -/
def fnExactWaitForCard : Claim7 := { stood := { row := fnExactWaitForRow, standIns := [], harness := (true, "f6259591b8b01b77cdb164a4afd7162c0ad78cfb1ebb6d8f36b9d2f765d97ebb"), looks := true }, kinds := [], alts := [], laidByText := true, laidKinds := [.handle], laidTests := true, laidLooks := .later }
def FnExactWaitForCardSaid : Prop := Claim7.holds Tryd.pinned (.plain (OpenSpec.ofChange fnExactWaitForSpec)) fnExactWaitForCard

/-- THE SECOND FORM's CARD OF 'laws.FnExactTurnGlasses'. -/
def fnExactTurnGlassesUptoCard : Claim7 := { stood := { row := fnExactTurnGlassesUptoRow, standIns := [], harness := (true, "f6259591b8b01b77cdb164a4afd7162c0ad78cfb1ebb6d8f36b9d2f765d97ebb"), looks := true }, kinds := [], alts := [], laidByText := true, laidKinds := [.handle], laidTests := true, laidLooks := .later }
def FnExactTurnGlassesUptoCardSaid : Prop := Claim7.holds Tryd.pinned (.plain (OpenSpec.upto fnExactTurnGlassesSpec)) fnExactTurnGlassesUptoCard

/-- THE SECOND FORM's CARD OF 'laws.FnExactWaitFor'. -/
def fnExactWaitForUptoCard : Claim7 := { stood := { row := fnExactWaitForUptoRow, standIns := [], harness := (true, "f6259591b8b01b77cdb164a4afd7162c0ad78cfb1ebb6d8f36b9d2f765d97ebb"), looks := true }, kinds := [], alts := [], laidByText := true, laidKinds := [.handle], laidTests := true, laidLooks := .later }
def FnExactWaitForUptoCardSaid : Prop := Claim7.holds Tryd.pinned (.plain (OpenSpec.upto fnExactWaitForSpec)) fnExactWaitForUptoCard
end Rows
end Go.Proofs.YtfigoidpkihnnaaDoor
