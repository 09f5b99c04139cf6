/-
  The model's Decode, whole.
-/
import Derived.Test.YtieghjpecoiodaaB12
namespace Go.Proofs.Ytieghjpecoiodaa
open Go.RowKit
set_option maxRecDepth 100000
set_option linter.unusedVariables false

end Go.Proofs.Ytieghjpecoiodaa
