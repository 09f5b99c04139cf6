/-
  The walks of HalfOf.
-/
import Derived.Test.YtkikkpahfplkaaaZ14
namespace Go.Proofs.Ytkikkpahfplkaaa
open Go.RowKit
set_option maxRecDepth 100000
set_option linter.unusedVariables false

noncomputable def hoX (l : Int) (x : Nat → Int) (i : Nat) : Int := if okS l x = true then halfX x i else 0
noncomputable def hoC (l : Int) (x : Nat → Int) : Int := if okS l x = true then 0 else 1
theorem ho_bad {l : Int} {x : Nat → Int} (h : okS l x = false) : hoX l x = (fun _ => 0) ∧ hoC l x = 1 := by
  unfold hoX hoC; rw [h]; exact ⟨rfl, rfl⟩
theorem ho_good {l : Int} {x : Nat → Int} (h : okS l x = true) : hoX l x = halfX x ∧ hoC l x = 0 := by
  unfold hoX hoC; rw [h]; exact ⟨rfl, rfl⟩
end Go.Proofs.Ytkikkpahfplkaaa
