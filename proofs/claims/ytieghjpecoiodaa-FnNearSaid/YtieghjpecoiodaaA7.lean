/-
  The walk of SeenOf, for a valid fixed plan.
-/
import Derived.Test.YtieghjpecoiodaaA6
namespace Go.Proofs.Ytieghjpecoiodaa
open Go.RowKit Go.Shelf
set_option maxRecDepth 100000
set_option linter.unusedVariables false

attribute [local go_sem] Oper.semAt_some

theorem so_in {l k : Int} {ws : List Wf} {x : Cs} {pre : List Cs} (hok : okX l k ws = true) (h : pre ++ [x] <+: upC k true ws.length) : soW l k ws x = seenV ws x ∧ soC l k ws x = 0 := by
  have hm : x ∈ upC k true ws.length := h.subset (by simp)
  exact ⟨if_pos ⟨hok, hm⟩, by rw [soC, if_pos hok, if_pos hm]⟩
theorem so_out {l k : Int} {ws : List Wf} {x : Cs} (hok : okX l k ws = true) (h : x ∉ upC k true ws.length) : soW l k ws x = (fun _ => 0) ∧ soC l k ws x = 2 :=
  ⟨if_neg (fun e => h e.2), by rw [soC, if_pos hok, if_neg h]⟩
theorem so_bad {l k : Int} {ws : List Wf} {x : Cs} (hok : okX l k ws = false) : soW l k ws x = (fun _ => 0) ∧ soC l k ws x = 1 :=
  ⟨if_neg (fun e => by rw [hok] at e; cases e.1), by rw [soC, if_neg (by rw [hok]; decide)]⟩
end Go.Proofs.Ytieghjpecoiodaa
