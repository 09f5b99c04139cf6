/-
  The model's Confused.
-/
import Derived.Test.YtieghjpecoiodaaB14
import Derived.Test.YtieghjpecoiodaaB13
namespace Go.Proofs.Ytieghjpecoiodaa
open Go.RowKit
set_option maxRecDepth 100000
set_option linter.unusedVariables false

theorem MD.four {fb b off c g : Nat} {l k : Int} {ws : List Wf} {W : World} (h : MD fb b off c g l k ws W) (i j : Nat) (hi : i < (upC k true ws.length).length) (hj : j < (upC k true ws.length).length) :
    W.cell? ⟨g, i * 2, none⟩ = some (.int .i8 ((upC k true ws.length).getD i (0, false)).1) ∧ W.cell? ⟨g, i * 2 + 1, none⟩ = some (.bool ((upC k true ws.length).getD i (0, false)).2) ∧ W.cell? ⟨g, j * 2, none⟩ = some (.int .i8 ((upC k true ws.length).getD j (0, false)).1) ∧ W.cell? ⟨g, j * 2 + 1, none⟩ = some (.bool ((upC k true ws.length).getD j (0, false)).2) :=
  ⟨(h.two i hi).1, (h.two i hi).2, (h.two j hj).1, (h.two j hj).2⟩
/-- What l04Confused hands back. -/
noncomputable def lcA (ws : List Wf) (L : List Cs) : Cs := ((cfR ws L).map Prod.fst).getD (0, false)
noncomputable def lcB (ws : List Wf) (L : List Cs) : Cs := ((cfR ws L).map Prod.snd).getD (0, false)
theorem CI.one {ws : List Wf} {L : List Cs} (h : 1 ≤ L.length) : CI ws L (L.take 1) := by
  rw [take_cs L 0 (by omega)]
  exact (CI.start ws L).next rfl
theorem CI.step {ws : List Wf} {L : List Cs} {j : Nat} (h : CI ws L (L.take j)) (hj : j < L.length) (hn : fcQ ws (L.take j) (wordV (seenV ws (L.getD j (0, false)))) = none) : CI ws L (L.take (j + 1)) := by
  rw [take_cs L j hj]
  exact h.next hn
theorem CI.found {ws : List Wf} {L : List Cs} {i j : Nat} (h : CI ws L (L.take j)) (hj : j < L.length) (hij : i < j) (hn : fcQ ws (L.take i) (wordV (seenV ws (L.getD j (0, false)))) = none) (he : wordV (seenV ws (L.getD i (0, false))) = wordV (seenV ws (L.getD j (0, false)))) : cfR ws L = some (L.getD i (0, false), L.getD j (0, false)) := by
  have hg : (L.take j).getD i (0, false) = L.getD i (0, false) := by simp [List.getD_eq_getElem?_getD, hij]
  have hl : i < (L.take j).length := by simp; omega
  have h1 := fcQ_at (ws := ws) (v := wordV (seenV ws (L.getD j (0, false)))) hl (by rw [List.take_take, Nat.min_eq_left (Nat.le_of_lt hij)]; exact hn) (by rw [hg]; exact he)
  rw [hg] at h1
  refine h.hit ?_ h1
  rw [← take_cs L j hj]
  exact List.take_prefix _ _
end Go.Proofs.Ytieghjpecoiodaa
