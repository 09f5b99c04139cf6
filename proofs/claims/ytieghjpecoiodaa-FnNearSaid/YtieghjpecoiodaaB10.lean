/-
  The first case of each seen word: the map of the program.
-/
import Derived.Test.YtieghjpecoiodaaB7
import Derived.Test.YtieghjpecoiodaaHMI
namespace Go.Proofs.Ytieghjpecoiodaa
open Go.RowKit Go.Shelf Go.Maps Go.MapKept Go.ChangeMaps
set_option maxRecDepth 100000
set_option linter.unusedVariables false

attribute [local go_sem] Oper.semAt_some

theorem keyD : Keyed Try.prog 40 := Keyed.of_law (deep_law_laid (m := 9999) (by kernel_rfl) (by decide) (of_decide_eq_true (by kernel_rfl)) (by kernel_rfl) (by kernel_rfl))
/-- The key that a word is read as. -/
theorem keyD_mk (x : Nat → Int) (h : W4 x) : ∃ kl, keyOf Try.prog 40 (wordV x) = some kl := by
  have hw : ∀ i, i < 4 → (Lit.int .i8 (x i)).wf = true := fun i hi => by
    have := h i hi
    simp only [Lit.wf, Bool.and_eq_true, decide_eq_true_eq]; exact this
  have h0 := hw 0 (by omega)
  have h1 := hw 1 (by omega)
  have h2 := hw 2 (by omega)
  have h3 := hw 3 (by omega)
  have hu : Try.prog.underlying 40 = some (.array 4 24) := Try.underlying40
  have hi : Try.prog.underlying 24 = some (.int .i8) := Try.underlying24
  have hc : Try.prog.cellsOf 24 = 1 := by kernel_rfl
  have hc4 : Try.prog.cellsOf 40 = 4 := by kernel_rfl
  have hkt : Try.prog.keyType 40 = true := by kernel_rfl
  obtain ⟨d, hd⟩ : ∃ d, Try.prog.types.size = d + 1 := ⟨Try.prog.types.size - 1, by kernel_rfl⟩
  have hf : (wordV x : Value).formed Try.prog 40 = true := by simp [Value.formed, hu, hc4]
  unfold keyOf
  rw [hu]
  simp only [hkt, hf, Bool.and_self, if_true]
  rw [hd]
  simp [Program.keyLits, hu, hi, hc, hc4, Value.cells, h0, h1, h2, h3, List.range_succ]
theorem opD_W4 {x : Nat → Int} (h : W4 x) : W4 (opD x) := fun i hi => by
  have h1 := h i hi
  unfold opD
  by_cases e : x i = -128
  · rw [e]; decide
  · rw [show IntKind.i8.wrap (-x i) = -x i from IntWalk.i8_in _ (by omega)]; omega
theorem seenV_W4 {ws : List Wf} (hw : Wall ws) (q : Cs) : W4 (seenV ws q) := by
  unfold seenV
  split
  · exact zero_W4
  · split
    · exact hw _
    · exact opD_W4 (hw _)
theorem wordV_inj {x y : Nat → Int} (h : wordV x = wordV y) : x 0 = y 0 ∧ x 1 = y 1 ∧ x 2 = y 2 ∧ x 3 = y 3 := by
  simpa [wordV] using h
open Classical in
/-- The first case with a seen word. -/
noncomputable def fcQ (ws : List Wf) (pre : List Cs) (v : Value) : Option Cs := pre.find? (fun q => decide (wordV (seenV ws q) = v))
/-- What the map of first cases holds. -/
noncomputable def fcF (ws : List Wf) (pre : List Cs) (v : Value) : Option Value := (fcQ ws pre v).map (fun q => caseV q.1 q.2)
open Classical in
theorem fcQ_snoc (ws : List Wf) (pre : List Cs) (q : Cs) (v : Value) : fcQ ws (pre ++ [q]) v = (fcQ ws pre v).or (if wordV (seenV ws q) = v then some q else none) := by
  unfold fcQ
  rw [List.find?_append]
  congr 1
  by_cases h : wordV (seenV ws q) = v
  · rw [if_pos h]; simp [h]
  · rw [if_neg h]; simp [h]
theorem fcF_t {ws : List Wf} {pre : List Cs} {q q' : Cs} (h : fcQ ws pre (wordV (seenV ws q)) = some q') : fcF ws (pre ++ [q]) = fcF ws pre := by
  funext v
  unfold fcF
  rw [fcQ_snoc]
  by_cases e : wordV (seenV ws q) = v
  · subst e; rw [h]; rfl
  · rw [if_neg e, Option.or_none]
theorem fcF_f {ws : List Wf} {pre : List Cs} {q : Cs} (h : fcQ ws pre (wordV (seenV ws q)) = none) : fcF ws (pre ++ [q]) = updF (fcF ws pre) (wordV (seenV ws q)) (caseV q.1 q.2) := by
  funext v
  by_cases e : wordV (seenV ws q) = v
  · subst e; rw [updF_same]; unfold fcF; rw [fcQ_snoc, h, if_pos rfl]; rfl
  · rw [updF_other _ _ (fun h => e h.symm)]; unfold fcF; rw [fcQ_snoc, if_neg e, Option.or_none]
theorem zeroCs (w : World) : (zeroValue 37).run Try.prog w = .ok (.agg #[.int .i8 0, .bool false]) w := by kernel_rfl
end Go.Proofs.Ytieghjpecoiodaa
