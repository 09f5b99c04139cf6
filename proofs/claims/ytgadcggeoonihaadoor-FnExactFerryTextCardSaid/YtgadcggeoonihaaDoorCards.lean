/-
  DERIVED. GIVEN WITH THE SEED: THE CARDS: each row of YtgadcggeoonihaaDoorRows.lean that lists a variable, with what it lists TIED to the program's text (the seventh form; the later family's looks); each row that meets fmt, with fmt's text TOLD by the authors' own Lean function (tested against real Go, not proved from fmt's source: count such statements apart). THE CARD IS WHAT COUNTS. Prove the row's statement (the work); the ties are given (YtgadcggeoonihaaDoorTie.lean); close each card by the builder's one call (the guide's Derived/Test/ToyasCard.lean, 'card_holds'). Laid BY PROGRAM, IN A SANDBOX (cutbox-door.mjs). By AI agents, Wed Nov 11 2026. No macro, syntax, notation, axiom, sorry.
-/
import Derived.Test.YtgadcggeoonihaaDoorRows
import GoSem.ClaimSeven
namespace Go.Proofs.YtgadcggeoonihaaDoor
namespace Rows

/-- THE TIED CARD OF 'laws.FnExactFerryText'. -/
def fnExactFerryTextCard : Claim7 := { stood := { row := fnExactFerryTextRow, standIns := [], harness := (true, "8ee79692ed431ac57bf55ec534c86997a97ad5c99e628c7f8f9d3fbd46dc7b39"), looks := true }, kinds := [], alts := [], laidByText := true, laidKinds := [.data, .data, .data], laidTests := true, laidLooks := .later }
def FnExactFerryTextCardSaid : Prop := Claim7.holds Tryd.pinned (.plain (OpenSpec.ofChange fnExactFerryTextSpec)) fnExactFerryTextCard

/-- THE TIED CARD OF 'laws.FnExactReadFerry'. -/
def fnExactReadFerryCard : Claim7 := { stood := { row := fnExactReadFerryRow, standIns := [], harness := (true, "8ee79692ed431ac57bf55ec534c86997a97ad5c99e628c7f8f9d3fbd46dc7b39"), looks := true }, kinds := [], alts := [], laidByText := true, laidKinds := [.data, .data, .data, .data, .sentinel, .sentinel, .pinned], laidTests := true, laidLooks := .later }
def FnExactReadFerryCardSaid : Prop := Claim7.holds Tryd.pinned (.plain (OpenSpec.ofChange fnExactReadFerrySpec)) fnExactReadFerryCard

/-- THE SECOND FORM's CARD OF 'laws.FnExactFerryText'. -/
def fnExactFerryTextUptoCard : Claim7 := { stood := { row := fnExactFerryTextUptoRow, standIns := [], harness := (true, "8ee79692ed431ac57bf55ec534c86997a97ad5c99e628c7f8f9d3fbd46dc7b39"), looks := true }, kinds := [], alts := [], laidByText := true, laidKinds := [.data, .data, .data], laidTests := true, laidLooks := .later }
def FnExactFerryTextUptoCardSaid : Prop := Claim7.holds Tryd.pinned (.plain (OpenSpec.upto fnExactFerryTextSpec)) fnExactFerryTextUptoCard

/-- THE SECOND FORM's CARD OF 'laws.FnExactReadFerry'. -/
def fnExactReadFerryUptoCard : Claim7 := { stood := { row := fnExactReadFerryUptoRow, standIns := [], harness := (true, "8ee79692ed431ac57bf55ec534c86997a97ad5c99e628c7f8f9d3fbd46dc7b39"), looks := true }, kinds := [], alts := [], laidByText := true, laidKinds := [.data, .data, .data, .data, .sentinel, .sentinel, .pinned], laidTests := true, laidLooks := .later }
def FnExactReadFerryUptoCardSaid : Prop := Claim7.holds Tryd.pinned (.plain (OpenSpec.upto fnExactReadFerrySpec)) fnExactReadFerryUptoCard
end Rows
end Go.Proofs.YtgadcggeoonihaaDoor
