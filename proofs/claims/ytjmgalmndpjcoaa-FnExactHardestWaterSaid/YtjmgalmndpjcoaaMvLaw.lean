/-
  Moves as they come in, and the law's helpers on them.
-/
import Derived.Test.YtjmgalmndpjcoaaFrame
namespace Go.Proofs.Ytjmgalmndpjcoaa
open Go.RowKit Go.ChangeShapes Go.WideShapes
set_option maxRecDepth 100000
set_option linter.unusedVariables false

/-- The numbers of a move fit. -/
def M8 (k f g : Int) : Prop := (-128 ≤ k ∧ k ≤ 127) ∧ (-128 ≤ f ∧ f ≤ 127) ∧ (-128 ≤ g ∧ g ≤ 127)
theorem M8.bk {k f g : Int} (h : M8 k f g) : -128 ≤ k ∧ k ≤ 127 := by unfold M8 at h; exact h.1
theorem M8.bf {k f g : Int} (h : M8 k f g) : -128 ≤ f ∧ f ≤ 127 := by unfold M8 at h; exact h.2.1
theorem M8.bg {k f g : Int} (h : M8 k f g) : -128 ≤ g ∧ g ≤ 127 := by unfold M8 at h; exact h.2.2
section
variable {H : Type} {enc : TypeId × Value → H} {w : World} {base : Nat} {r : Reach} {b0 : Nat}
end
end Go.Proofs.Ytjmgalmndpjcoaa
