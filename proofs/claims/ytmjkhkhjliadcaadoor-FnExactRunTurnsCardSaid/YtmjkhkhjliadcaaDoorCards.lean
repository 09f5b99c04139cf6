/-
  DERIVED. GIVEN WITH THE SEED: THE CARDS: each row of YtmjkhkhjliadcaaDoorRows.lean that lists a variable, with what it lists TIED to the program's text (the seventh form; the later family's looks); each row that meets fmt, with fmt's text TOLD by the authors' own Lean function (tested against real Go, not proved from fmt's source: count such statements apart). THE CARD IS WHAT COUNTS. Prove the row's statement (the work); the ties are given (YtmjkhkhjliadcaaDoorTie.lean); close each card by the builder's one call (the guide's Derived/Test/ToyasCard.lean, 'card_holds'). Laid BY PROGRAM, IN A SANDBOX (cutbox-door.mjs). By AI agents, Wed Nov 11 2026. No macro, syntax, notation, axiom, sorry.
-/
import Derived.Test.YtmjkhkhjliadcaaDoorRows
import GoSem.ClaimSeven
namespace Go.Proofs.YtmjkhkhjliadcaaDoor
namespace Rows

/-- THE TIED CARD OF 'laws.FnExactRunTurns'. -/
def fnExactRunTurnsCard : Claim7 := { stood := { row := fnExactRunTurnsRow, standIns := [], harness := (true, "e808fa42b290cfd2deb731afaff374a221b0baef64f61ff39fcea5515d4ce30e"), looks := true }, kinds := [], alts := [], laidByText := true, laidKinds := [.handle], laidTests := true, laidLooks := .later }
def FnExactRunTurnsCardSaid : Prop := Claim7.holds Tryd.pinned (.plain (OpenSpec.ofChange fnExactRunTurnsSpec)) fnExactRunTurnsCard

/-- THE TIED CARD OF 'laws.FnExactCheckTurns'. -/
def fnExactCheckTurnsCard : Claim7 := { stood := { row := fnExactCheckTurnsRow, standIns := [], harness := (true, "e808fa42b290cfd2deb731afaff374a221b0baef64f61ff39fcea5515d4ce30e"), looks := true }, kinds := [], alts := [], laidByText := true, laidKinds := [.handle], laidTests := true, laidLooks := .later }
def FnExactCheckTurnsCardSaid : Prop := Claim7.holds Tryd.pinned (.plain (OpenSpec.ofChange fnExactCheckTurnsSpec)) fnExactCheckTurnsCard

/-- THE SECOND FORM's CARD OF 'laws.FnExactRunTurns'. -/
def fnExactRunTurnsUptoCard : Claim7 := { stood := { row := fnExactRunTurnsUptoRow, standIns := [], harness := (true, "e808fa42b290cfd2deb731afaff374a221b0baef64f61ff39fcea5515d4ce30e"), looks := true }, kinds := [], alts := [], laidByText := true, laidKinds := [.handle], laidTests := true, laidLooks := .later }
def FnExactRunTurnsUptoCardSaid : Prop := Claim7.holds Tryd.pinned (.plain (OpenSpec.upto fnExactRunTurnsSpec)) fnExactRunTurnsUptoCard

/-- THE SECOND FORM's CARD OF 'laws.FnExactCheckTurns'. -/
def fnExactCheckTurnsUptoCard : Claim7 := { stood := { row := fnExactCheckTurnsUptoRow, standIns := [], harness := (true, "e808fa42b290cfd2deb731afaff374a221b0baef64f61ff39fcea5515d4ce30e"), looks := true }, kinds := [], alts := [], laidByText := true, laidKinds := [.handle], laidTests := true, laidLooks := .later }
def FnExactCheckTurnsUptoCardSaid : Prop := Claim7.holds Tryd.pinned (.plain (OpenSpec.upto fnExactCheckTurnsSpec)) fnExactCheckTurnsUptoCard
end Rows
end Go.Proofs.YtmjkhkhjliadcaaDoor
