/-
  DERIVED. GIVEN WITH THE SEED: THE CARDS: each row of YtijaghkbmgkjnaaDoorRows.lean that lists a variable, with what it lists TIED to the program's text (the seventh form; the later family's looks); each row that meets fmt, with fmt's text TOLD by the authors' own Lean function (tested against real Go, not proved from fmt's source: count such statements apart). THE CARD IS WHAT COUNTS. Prove the row's statement (the work); the ties are given (YtijaghkbmgkjnaaDoorTie.lean); close each card by the builder's one call (the guide's Derived/Test/ToyasCard.lean, 'card_holds'). Laid BY PROGRAM, IN A SANDBOX (cutbox-door.mjs). By AI agents, Wed Nov 11 2026. No macro, syntax, notation, axiom, sorry.
-/
import Derived.Test.YtijaghkbmgkjnaaDoorRows
import GoSem.ClaimSeven
namespace Go.Proofs.YtijaghkbmgkjnaaDoor
namespace Rows

/-- THE TIED CARD OF 'laws.FnExactFoundIn'. -/
def fnExactFoundInCard : Claim7 := { stood := { row := fnExactFoundInRow, standIns := [], harness := (true, "7e8d407d0a025f3c9c96446c1a00c65df0f41f74a36179cf9def43fb4123f191"), looks := true }, kinds := [], alts := [], laidByText := true, laidKinds := [.sentinel, .sentinel, .sentinel], laidTests := true, laidLooks := .later }
def FnExactFoundInCardSaid : Prop := Claim7.holds Tryd.pinned (.plain (OpenSpec.ofChange fnExactFoundInSpec)) fnExactFoundInCard

/-- THE SECOND FORM's CARD OF 'laws.FnExactFoundIn'. -/
def fnExactFoundInUptoCard : Claim7 := { stood := { row := fnExactFoundInUptoRow, standIns := [], harness := (true, "7e8d407d0a025f3c9c96446c1a00c65df0f41f74a36179cf9def43fb4123f191"), looks := true }, kinds := [], alts := [], laidByText := true, laidKinds := [.sentinel, .sentinel, .sentinel], laidTests := true, laidLooks := .later }
def FnExactFoundInUptoCardSaid : Prop := Claim7.holds Tryd.pinned (.plain (OpenSpec.upto fnExactFoundInSpec)) fnExactFoundInUptoCard
end Rows
end Go.Proofs.YtijaghkbmgkjnaaDoor
