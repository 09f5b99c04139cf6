/-
  The walks of NotWeighed, in the program and in its model.
-/
import Derived.Test.YthbanajodohbbaaCan
import Derived.Test.YthbanajodohbbaaSlaw
namespace Go.Proofs.Ythbanajodohbbaa
open Go.RowKit Go.Maps

/-- The masses from 1 to k that cannot be weighed. -/
def missTo (pl ws : List Int) : Nat → List Int
  | 0 => []
  | k + 1 => if wayFn pl ws ws.length ((k : Int) + 1) = 0 then missTo pl ws k ++ [(k : Int) + 1] else missTo pl ws k
theorem missTo_len (pl ws : List Int) (k : Nat) : (missTo pl ws k).length ≤ k := by
  induction k with
  | zero => simp [missTo]
  | succ k ih =>
    unfold missTo
    split
    · simp; omega
    · omega
noncomputable def codeN (ws : List Int) : Int := if okW ws = true then 0 else 1
noncomputable def nwV (ws : List Int) (both : Bool) : List Int := if okW ws = true then missTo (plOf both) ws (sumI ws).toNat else []
theorem okW_total {ws : List Int} (h : OkW ws) : 0 ≤ sumI ws ∧ sumI ws ≤ 2000 := by
  have := okW_sum h ws.length (Nat.le_refl _)
  rwa [List.take_length] at this
theorem nwV_len (ws : List Int) (both : Bool) : (nwV ws both).length ≤ 1048576 := by
  unfold nwV
  by_cases h : okW ws = true
  · rw [if_pos h]
    have h1 := missTo_len (plOf both) ws (sumI ws).toNat
    have h2 := okW_total (of_cb h)
    omega
  · rw [if_neg h]; simp
end Go.Proofs.Ythbanajodohbbaa
