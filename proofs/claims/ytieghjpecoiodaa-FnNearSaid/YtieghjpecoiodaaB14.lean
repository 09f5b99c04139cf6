/-
  The first two cases that are confused: one list walk for the program and the model.
-/
import Derived.Test.YtieghjpecoiodaaB12
namespace Go.Proofs.Ytieghjpecoiodaa
open Go.RowKit
set_option maxRecDepth 100000
set_option linter.unusedVariables false

/-- From a prefix without confused cases on: the first two that are confused. -/
noncomputable def cfG (ws : List Wf) : List Cs → List Cs → Option (Cs × Cs)
  | _, [] => none
  | pre, q :: r => match fcQ ws pre (wordV (seenV ws q)) with
    | some q0 => some (q0, q)
    | none => cfG ws (pre ++ [q]) r
noncomputable def cfR (ws : List Wf) (L : List Cs) : Option (Cs × Cs) := cfG ws [] L
/-- No two cases of the prefix are confused. -/
def CI (ws : List Wf) (L pre : List Cs) : Prop := ∀ r, L = pre ++ r → cfG ws pre r = cfR ws L
theorem CI.start (ws : List Wf) (L : List Cs) : CI ws L [] := fun r h => by rw [h]; rfl
theorem CI.next {ws : List Wf} {L pre : List Cs} {q : Cs} (h : CI ws L pre) (hn : fcQ ws pre (wordV (seenV ws q)) = none) : CI ws L (pre ++ [q]) := fun r hr => by
  have h1 := h (q :: r) (by rw [hr]; simp)
  unfold cfG at h1
  rw [hn] at h1
  exact h1
theorem CI.hit {ws : List Wf} {L pre : List Cs} {q q0 : Cs} (h : CI ws L pre) (hp : pre ++ [q] <+: L) (hs : fcQ ws pre (wordV (seenV ws q)) = some q0) : cfR ws L = some (q0, q) := by
  obtain ⟨r, hr⟩ := hp
  have h1 := h (q :: r) (by rw [← hr]; simp)
  unfold cfG at h1
  rw [hs] at h1
  exact h1.symm
theorem CI.done {ws : List Wf} {L : List Cs} (h : CI ws L L) : cfR ws L = none := by
  rw [← h [] (by simp)]; rfl
theorem fcQ_mem {ws : List Wf} {pre : List Cs} {v : Value} {q : Cs} (h : fcQ ws pre v = some q) : q ∈ pre := List.mem_of_find?_eq_some h
theorem upC_nodup (k : Int) (m : Nat) : (upC k true m).Nodup := by
  induction m with
  | zero => simp [upC]
  | succ m ih =>
    rw [upC_succ, List.nodup_append]
    refine ⟨ih, ?_, fun a ha b hb e => ?_⟩
    · unfold cOf; split <;> split <;> simp
    · subst e
      have hc : a.1 = (m : Int) := by unfold cOf at hb; rcases List.mem_append.1 hb with h | h <;> (split at h <;> simp at h <;> rw [h])
      rcases (upC_mem k m a).1 ha with rfl | ⟨j, hj, ⟨rfl, -⟩ | ⟨rfl, -⟩⟩ <;> dsimp only at hc <;> omega
theorem ne_of_pre {k : Int} {m : Nat} {pre : List Cs} {q q0 : Cs} (hp : pre ++ [q] <+: upC k true m) (h : q0 ∈ pre) : q0 ≠ q := fun e => by
  have h1 := (upC_nodup k m).sublist hp.sublist
  rw [List.nodup_append] at h1
  exact h1.2.2 q0 h q (by simp) e
theorem ne_beqC {x y : Cs} (h : x ≠ y) : (x.1 == y.1 && x.2 == y.2) = false := by
  by_cases h1 : x.1 = y.1 <;> by_cases h2 : x.2 = y.2 <;> simp [h1, h2]
  exact h (Prod.ext h1 h2)
/-- What Confused hands back. -/
noncomputable def cnA (l k : Int) (ws : List Wf) : Cs := if okX l k ws = true then ((cfR ws (upC k true ws.length)).map Prod.fst).getD (0, false) else (0, false)
noncomputable def cnB (l k : Int) (ws : List Wf) : Cs := if okX l k ws = true then ((cfR ws (upC k true ws.length)).map Prod.snd).getD (0, false) else (0, false)
noncomputable def cnC (l k : Int) (ws : List Wf) : Int := if okX l k ws = true then (if (cfR ws (upC k true ws.length)).isSome then 0 else 6) else 1
theorem cn_no {l k : Int} {ws : List Wf} (h : okX l k ws = false) : cnA l k ws = (0, false) ∧ cnB l k ws = (0, false) ∧ cnC l k ws = 1 := by
  unfold cnA cnB cnC; rw [h]; exact ⟨rfl, rfl, rfl⟩
theorem cn_none {l k : Int} {ws : List Wf} (h : okX l k ws = true) (hr : cfR ws (upC k true ws.length) = none) : cnA l k ws = (0, false) ∧ cnB l k ws = (0, false) ∧ cnC l k ws = 6 := by
  unfold cnA cnB cnC; rw [h, hr]; exact ⟨rfl, rfl, rfl⟩
theorem cn_some {l k : Int} {ws : List Wf} {x y : Cs} (h : okX l k ws = true) (hr : cfR ws (upC k true ws.length) = some (x, y)) : cnA l k ws = x ∧ cnB l k ws = y ∧ cnC l k ws = 0 := by
  unfold cnA cnB cnC; rw [h, hr]; exact ⟨rfl, rfl, rfl⟩
end Go.Proofs.Ytieghjpecoiodaa
