/-
  The walks of ValidWater, StatesOf and StateIndex, in the program and in its model.
-/
import Derived.Test.YtfhcmgeillpfgaaDoorJugs3
namespace Go.Proofs.YtfhcmgeillpfgaaDoor
open Go.RowKit
set_option maxRecDepth 100000

noncomputable def okW2 (J : List Int) (x y : Nat → Int) : Bool := okZ J x && okX J y
theorem okZ_J {J : List Int} {x : Nat → Int} (h : okZ J x = true) : OkJ J := (of_cb (p := OkZ J x) h).1
/-- The codes: 0, or 1 for what is not valid. -/
noncomputable def codZ (J : List Int) (x : Nat → Int) : Int := if okZ J x = true then 0 else 1
noncomputable def sofV (J : List Int) (x : Nat → Int) : Int := if okZ J x = true then stTo J J.length else 0
end Go.Proofs.YtfhcmgeillpfgaaDoor
