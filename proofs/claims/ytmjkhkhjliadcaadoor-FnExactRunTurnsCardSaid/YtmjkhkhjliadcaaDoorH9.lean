/-
  Turning glasses and waiting: the model's two functions.
-/
import Derived.Test.YtmjkhkhjliadcaaDoorH8
namespace Go.Proofs.YtmjkhkhjliadcaaDoor
open Go.RowKit
set_option maxRecDepth 100000

/-- No tops. -/
def noT (_ : Nat) : Int := 0
noncomputable def tgC (J : List Int) (x : Nat → Int) (s : Int) : Int := if okT J x = true then (if 2 ^ J.length ≤ s then 2 else 0) else 1
noncomputable def tgX (J : List Int) (x : Nat → Int) (s : Int) : Nat → Int := if tgC J x s = 0 then trTo J x s J.length else noT
noncomputable def wfC (J : List Int) (x : Nat → Int) : Int := if okT J x = true then (if lsTo x 4 = 0 then 4 else 0) else 1
noncomputable def wfX (J : List Int) (x : Nat → Int) : Nat → Int := if wfC J x = 0 then wtTo x (lsTo x 4) 4 else noT
noncomputable def wfM (J : List Int) (x : Nat → Int) : Int := if wfC J x = 0 then lsTo x 4 else 0
theorem tg_bad {J : List Int} {x : Nat → Int} {s : Int} (h : okT J x = false) : tgX J x s = noT ∧ tgC J x s = 1 := by
  have : tgC J x s = 1 := by unfold tgC; rw [h]; rfl
  exact ⟨by unfold tgX; rw [this]; rfl, this⟩
theorem tg_far {J : List Int} {x : Nat → Int} {s : Int} (h : okT J x = true) (hs : 2 ^ J.length ≤ s) : tgX J x s = noT ∧ tgC J x s = 2 := by
  have : tgC J x s = 2 := by unfold tgC; rw [h, if_pos rfl, if_pos hs]
  exact ⟨by unfold tgX; rw [this]; rfl, this⟩
theorem tg_ok {J : List Int} {x : Nat → Int} {s : Int} (h : okT J x = true) (hs : ¬ 2 ^ J.length ≤ s) : tgX J x s = trTo J x s J.length ∧ tgC J x s = 0 := by
  have : tgC J x s = 0 := by unfold tgC; rw [h, if_pos rfl, if_neg hs]
  exact ⟨by unfold tgX; rw [this]; rfl, this⟩
theorem wf_bad {J : List Int} {x : Nat → Int} (h : okT J x = false) : wfX J x = noT ∧ wfM J x = 0 ∧ wfC J x = 1 := by
  have : wfC J x = 1 := by unfold wfC; rw [h]; rfl
  exact ⟨by unfold wfX; rw [this]; rfl, by unfold wfM; rw [this]; rfl, this⟩
theorem wf_none {J : List Int} {x : Nat → Int} (h : okT J x = true) (hs : lsTo x 4 = 0) : wfX J x = noT ∧ wfM J x = 0 ∧ wfC J x = 4 := by
  have : wfC J x = 4 := by unfold wfC; rw [h, if_pos rfl, if_pos hs]
  exact ⟨by unfold wfX; rw [this]; rfl, by unfold wfM; rw [this]; rfl, this⟩
theorem wf_ok {J : List Int} {x : Nat → Int} (h : okT J x = true) (hs : ¬ lsTo x 4 = 0) : wfX J x = wtTo x (lsTo x 4) 4 ∧ wfM J x = lsTo x 4 ∧ wfC J x = 0 := by
  have : wfC J x = 0 := by unfold wfC; rw [h, if_pos rfl, if_neg hs]
  exact ⟨by unfold wfX; rw [this]; rfl, by unfold wfM; rw [this]; rfl, this⟩
theorem pow_len {J : List Int} (h : J.length ≤ 4) : 1 ≤ (2 : Int) ^ J.length ∧ (2 : Int) ^ J.length ≤ 16 := by
  generalize J.length = n at *
  have : n = 0 ∨ n = 1 ∨ n = 2 ∨ n = 3 ∨ n = 4 := by omega
  rcases this with rfl | rfl | rfl | rfl | rfl <;> decide
end Go.Proofs.YtmjkhkhjliadcaaDoor
