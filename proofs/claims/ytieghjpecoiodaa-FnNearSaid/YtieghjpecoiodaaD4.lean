/-
  The codes of words, NumberOfWord, OppositeWord and their models.
-/
import Derived.Test.YtieghjpecoiodaaD3
namespace Go.Proofs.Ytieghjpecoiodaa
open Go.RowKit
set_option maxRecDepth 100000
set_option linter.unusedVariables false

noncomputable def cdD (l : Int) (x : Nat → Int) : Int := if cb (1 ≤ l ∧ l ≤ 4) = true then (if okD l x = true then 0 else 1) else 2
theorem cdD_out {l : Int} (x : Nat → Int) (h : ¬ (1 ≤ l ∧ l ≤ 4)) : cdD l x = 2 := by unfold cdD; rw [if_neg (by rw [cb_f h]; simp)]
theorem cdD_bad {l : Int} {x : Nat → Int} (h : 1 ≤ l ∧ l ≤ 4) (h2 : okD l x = false) : cdD l x = 1 := by unfold cdD; rw [if_pos (cb_t h), if_neg (by rw [h2]; simp)]
theorem cdD_ok {l : Int} {x : Nat → Int} (h : 1 ≤ l ∧ l ≤ 4) (h2 : okD l x = true) : cdD l x = 0 := by unfold cdD; rw [if_pos (cb_t h), if_pos h2]
theorem cdD_zero {l : Int} {x : Nat → Int} (h : cdD l x = 0) : (1 ≤ l ∧ l ≤ 4) ∧ okD l x = true := by
  by_cases h1 : 1 ≤ l ∧ l ≤ 4
  · cases h2 : okD l x
    · rw [cdD_bad h1 h2] at h; exact absurd h (by decide)
    · exact ⟨h1, rfl⟩
  · rw [cdD_out x h1] at h; exact absurd h (by decide)
/-- The number of a word. -/
def nmD (l : Nat) (x : Nat → Int) : Int := match l with
  | 1 => x 0 + 1
  | 2 => 3 * (x 0 + 1) + x 1 + 1
  | 3 => 3 * (3 * (x 0 + 1) + x 1 + 1) + x 2 + 1
  | _ => 3 * (3 * (3 * (x 0 + 1) + x 1 + 1) + x 2 + 1) + x 3 + 1
theorem nmD1 (x : Nat → Int) : nmD 1 x = x 0 + 1 := rfl
theorem nmD2 (x : Nat → Int) : nmD 2 x = 3 * (x 0 + 1) + x 1 + 1 := rfl
theorem nmD3 (x : Nat → Int) : nmD 3 x = 3 * (3 * (x 0 + 1) + x 1 + 1) + x 2 + 1 := rfl
theorem nmD4 (x : Nat → Int) : nmD 4 x = 3 * (3 * (3 * (x 0 + 1) + x 1 + 1) + x 2 + 1) + x 3 + 1 := rfl
noncomputable def nmN (l : Int) (x : Nat → Int) : Int := if cdD l x = 0 then nmD l.toNat x else 0
/-- Letters of words. -/
def S4 (x : Nat → Int) : Prop := (-1 ≤ x 0 ∧ x 0 ≤ 1) ∧ (-1 ≤ x 1 ∧ x 1 ≤ 1) ∧ (-1 ≤ x 2 ∧ x 2 ≤ 1) ∧ (-1 ≤ x 3 ∧ x 3 ≤ 1)
theorem okD_s4 {l : Int} {x : Nat → Int} (h : okD l x = true) : S4 x := by
  have h2 := (okD_t h).2
  exact ⟨(h2 0 (by decide)).1, (h2 1 (by decide)).1, (h2 2 (by decide)).1, (h2 3 (by decide)).1⟩
end Go.Proofs.Ytieghjpecoiodaa
