/-
  The walk of slices.DeleteFunc at moves.
-/
import Derived.Test.YtjmgalmndpjcoaaMvFrom
namespace Go.Proofs.Ytjmgalmndpjcoaa
open Go.RowKit
set_option maxRecDepth 100000
set_option linter.unusedVariables false

theorem below_sc {B g : Nat} (hg : B ≤ g) : ∀ (vs : List Value) (o : Nat) (w : World), Below B w (w.setCells g o vs)
  | [], _, w => Below.refl _ _
  | v :: vs, o, w => ((Below.refl B w).setCell (show B ≤ (⟨g, o, none⟩ : Addr).block from hg) v).trans (below_sc hg vs (o + 1) _)
end Go.Proofs.Ytjmgalmndpjcoaa
