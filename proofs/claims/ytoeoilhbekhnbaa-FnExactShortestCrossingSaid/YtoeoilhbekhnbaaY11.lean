/-
  The walks of ValidBank and its model.
-/
import Derived.Test.YtoeoilhbekhnbaaY10
namespace Go.Proofs.Ytoeoilhbekhnbaa
open Go.RowKit
set_option maxRecDepth 100000
set_option linter.unusedVariables false

def vbX (l k : Int) (xs : List Int) (n : Int) (f : Bool) : Bool := okY l k xs && bkX l xs n f
end Go.Proofs.Ytoeoilhbekhnbaa
