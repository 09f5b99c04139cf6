/-
  The walk of WaysToWeigh, in the program.
-/
import Derived.Test.YthbanajodohbbaaWays
namespace Go.Proofs.Ythbanajodohbbaa
open Go.RowKit Go.Maps

noncomputable def askC (ws : List Int) (m : Int) : Int := if okW ws = true then (if cb (0 ≤ m ∧ m ≤ 2000) = true then 0 else 2) else 1
noncomputable def wtwV (ws : List Int) (m : Int) (both : Bool) : Int := if askC ws m = 0 then wayFn (plOf both) ws ws.length m else 0
theorem askC_zero {ws : List Int} {m : Int} (h : askC ws m = 0) : OkW ws ∧ (0 ≤ m ∧ m ≤ 2000) := by
  unfold askC at h
  split at h
  · rename_i h1
    split at h
    · rename_i h2; exact ⟨of_cb h1, of_cb h2⟩
    · omega
  · omega
theorem askC_bd (ws : List Int) (m : Int) : 0 ≤ askC ws m ∧ askC ws m ≤ 2 := by
  unfold askC
  split
  · split <;> omega
  · omega
end Go.Proofs.Ythbanajodohbbaa
