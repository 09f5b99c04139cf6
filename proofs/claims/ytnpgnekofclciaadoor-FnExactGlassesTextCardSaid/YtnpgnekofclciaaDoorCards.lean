/-
  DERIVED. GIVEN WITH THE SEED: THE CARDS: each row of YtnpgnekofclciaaDoorRows.lean that lists a variable, with what it lists TIED to the program's text (the seventh form; the later family's looks); each row that meets fmt, with fmt's text TOLD by the authors' own Lean function (tested against real Go, not proved from fmt's source: count such statements apart). THE CARD IS WHAT COUNTS. Prove the row's statement (the work); the ties are given (YtnpgnekofclciaaDoorTie.lean); close each card by the builder's one call (the guide's Derived/Test/ToyasCard.lean, 'card_holds'). Laid BY PROGRAM, IN A SANDBOX (cutbox-door.mjs). By AI agents, Wed Nov 11 2026. No macro, syntax, notation, axiom, sorry.
-/
import Derived.Test.YtnpgnekofclciaaDoorRows
import GoSem.ClaimSeven
namespace Go.Proofs.YtnpgnekofclciaaDoor
namespace Rows

/-- THE TIED CARD OF 'laws.FnExactGlassesText'. -/
def fnExactGlassesTextCard : Claim7 := { stood := { row := fnExactGlassesTextRow, standIns := [], harness := (true, "30f3be1141f778a81fa276db394ba00d1992c02fa995ca4933555e7becb76dd5"), looks := true }, kinds := [], alts := [], laidByText := true, laidKinds := [.data, .data, .data], laidTests := true, laidLooks := .later }
def FnExactGlassesTextCardSaid : Prop := Claim7.holds Tryd.pinned (.plain (OpenSpec.ofChange fnExactGlassesTextSpec)) fnExactGlassesTextCard

/-- THE TIED CARD OF 'laws.FnExactReadGlasses'. -/
def fnExactReadGlassesCard : Claim7 := { stood := { row := fnExactReadGlassesRow, standIns := [], harness := (true, "30f3be1141f778a81fa276db394ba00d1992c02fa995ca4933555e7becb76dd5"), looks := true }, kinds := [], alts := [], laidByText := true, laidKinds := [.data, .data, .data, .data, .sentinel, .sentinel, .pinned], laidTests := true, laidLooks := .later }
def FnExactReadGlassesCardSaid : Prop := Claim7.holds Tryd.pinned (.plain (OpenSpec.ofChange fnExactReadGlassesSpec)) fnExactReadGlassesCard

/-- THE SECOND FORM's CARD OF 'laws.FnExactGlassesText'. -/
def fnExactGlassesTextUptoCard : Claim7 := { stood := { row := fnExactGlassesTextUptoRow, standIns := [], harness := (true, "30f3be1141f778a81fa276db394ba00d1992c02fa995ca4933555e7becb76dd5"), looks := true }, kinds := [], alts := [], laidByText := true, laidKinds := [.data, .data, .data], laidTests := true, laidLooks := .later }
def FnExactGlassesTextUptoCardSaid : Prop := Claim7.holds Tryd.pinned (.plain (OpenSpec.upto fnExactGlassesTextSpec)) fnExactGlassesTextUptoCard

/-- THE SECOND FORM's CARD OF 'laws.FnExactReadGlasses'. -/
def fnExactReadGlassesUptoCard : Claim7 := { stood := { row := fnExactReadGlassesUptoRow, standIns := [], harness := (true, "30f3be1141f778a81fa276db394ba00d1992c02fa995ca4933555e7becb76dd5"), looks := true }, kinds := [], alts := [], laidByText := true, laidKinds := [.data, .data, .data, .data, .sentinel, .sentinel, .pinned], laidTests := true, laidLooks := .later }
def FnExactReadGlassesUptoCardSaid : Prop := Claim7.holds Tryd.pinned (.plain (OpenSpec.upto fnExactReadGlassesSpec)) fnExactReadGlassesUptoCard
end Rows
end Go.Proofs.YtnpgnekofclciaaDoor
