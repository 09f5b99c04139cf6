/-
  The model's Decode.
-/
import Derived.Test.YtieghjpecoiodaaB11
import Derived.Test.YtieghjpecoiodaaB9
import Derived.Test.YtieghjpecoiodaaE4
namespace Go.Proofs.Ytieghjpecoiodaa
open Go.RowKit
set_option maxRecDepth 100000
set_option linter.unusedVariables false

theorem fcQ_pre {ws : List Wf} {pre L : List Cs} {v : Value} {q : Cs} (h : pre <+: L) (hq : fcQ ws pre v = some q) : fcQ ws L v = some q := by
  obtain ⟨r, rfl⟩ := h
  unfold fcQ at hq ⊢
  rw [List.find?_append, hq]
  rfl
theorem fcQ_at {ws : List Wf} {L : List Cs} {v : Value} {i : Nat} (hi : i < L.length) (h : fcQ ws (L.take i) v = none) (he : wordV (seenV ws (L.getD i (0, false))) = v) : fcQ ws L v = some (L.getD i (0, false)) := by
  refine fcQ_pre (List.take_prefix (i + 1) L) ?_
  rw [take_cs L i hi, fcQ_snoc, h, if_pos he]
  rfl
theorem fcQ_no {ws : List Wf} {L : List Cs} {v : Value} {i : Nat} (hi : i < L.length) (h : fcQ ws (L.take i) v = none) (he : wordV (seenV ws (L.getD i (0, false))) ≠ v) : fcQ ws (L.take (i + 1)) v = none := by
  rw [take_cs L i hi, fcQ_snoc, h, if_neg he]
  rfl
/-- What the model finds. -/
noncomputable def ldV (ws : List Wf) (L : List Cs) (x : Nat → Int) : Cs := (fcQ ws L (wordV x)).getD (0, false)
end Go.Proofs.Ytieghjpecoiodaa
