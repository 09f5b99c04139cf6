/-
  The walks of ValidState and its model.
-/
import Derived.Test.YtclmjbkdghgjbaaZ1
namespace Go.Proofs.Ytclmjbkdghgjbaa
open Go.RowKit
set_option maxRecDepth 100000
set_option linter.unusedVariables false

/-- How many candidates a state has. -/
def toS (x : Nat → Int) : Int := x 0 + x 1 + x 2 + x 3
/-- The first k numbers are such as a valid state has. -/
def FitS (l : Int) (x : Nat → Int) (k : Nat) : Prop := ∀ i, i < k → (0 ≤ x i ∧ x i ≤ 60) ∧ (l < (i : Int) → x i = 0)
def OkS (l : Int) (x : Nat → Int) : Prop := (0 ≤ l ∧ l ≤ 3) ∧ FitS l x 4 ∧ toS x ≤ 60
noncomputable def okS (l : Int) (x : Nat → Int) : Bool := cb (OkS l x)
theorem okS_t {l : Int} {x : Nat → Int} (h : okS l x = true) : OkS l x := of_cb h
theorem FitS.succ {l : Int} {x : Nat → Int} {k : Nat} (h : FitS l x k) (h1 : 0 ≤ x k ∧ x k ≤ 60) (h2 : l < (k : Int) → x k = 0) : FitS l x (k + 1) := fun i hi => by
  by_cases e : i = k
  · subst e; exact ⟨h1, h2⟩
  · exact h i (by omega)
def Sm (x : Nat → Int) : Prop := ∀ i, i < 4 → 0 ≤ x i ∧ x i ≤ 60
theorem FitS.sm {l : Int} {x : Nat → Int} (h : FitS l x 4) : Sm x := fun i hi => (h i hi).1
theorem OkS.sm {l : Int} {x : Nat → Int} (h : OkS l x) : Sm x := h.2.1.sm
end Go.Proofs.Ytclmjbkdghgjbaa
