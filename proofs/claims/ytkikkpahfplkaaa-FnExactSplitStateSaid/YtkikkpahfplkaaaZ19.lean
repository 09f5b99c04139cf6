/-
  The model's split of a state.
-/
import Derived.Test.YtkikkpahfplkaaaZ18
namespace Go.Proofs.Ytkikkpahfplkaaa
open Go.RowKit
set_option maxRecDepth 100000
set_option linter.unusedVariables false

/-- What the model has of the answer yes after i rounds. -/
def yP (l : Nat) (x a : Nat → Int) (i j : Nat) : Int := (if j < i then a j else 0) + (if 0 < j ∧ j ≤ i ∧ j ≤ l then x (j - 1) - a (j - 1) else 0)
theorem yP_zero (l : Nat) (x a : Nat → Int) : yP l x a 0 = fun _ => 0 := by
  funext j; unfold yP; rw [if_neg (by omega), if_neg (by omega)]; rfl
theorem yP_at (l : Nat) (x a : Nat → Int) (i : Nat) : yP l x a i (i + 1) = 0 := by
  unfold yP; rw [if_neg (by omega), if_neg (by omega)]; rfl
/-- The round's first store, and its second one. -/
theorem yP_mid (l : Nat) (x a : Nat → Int) (i : Nat) (hi : i ≤ l) (hl : l ≤ 3) (hil : ¬ i < l) : (staC (yP l x a i)).setIfInBounds i (.int .i64 (yP l x a i i + a i)) = staC (yP l x a (i + 1)) := by
  have e : yP l x a i i + a i = yP l x a (i + 1) i := by
    unfold yP
    rw [if_neg (show ¬ i < i by omega), if_pos (show i < i + 1 by omega)]
    by_cases h : 0 < i ∧ i ≤ i ∧ i ≤ l
    · rw [if_pos h, if_pos (by omega)]; omega
    · rw [if_neg h, if_neg (by omega)]; omega
  rw [e]
  refine sta_set _ _ i (by omega) (fun j hj => ?_)
  by_cases h : j = i
  · subst h; rw [if_pos rfl]
  · rw [if_neg h]; unfold yP
    by_cases h1 : j < i
    · rw [if_pos h1, if_pos (show j < i + 1 by omega)]
      by_cases h2 : 0 < j ∧ j ≤ i ∧ j ≤ l
      · rw [if_pos h2, if_pos (by omega)]
      · rw [if_neg h2, if_neg (by omega)]
    · rw [if_neg h1, if_neg (show ¬ j < i + 1 by omega), if_neg (by omega), if_neg (by omega)]
theorem yP_next (l : Nat) (x a : Nat → Int) (i : Nat) (hl : l ≤ 3) (hil : i < l) : ((staC (yP l x a i)).setIfInBounds i (.int .i64 (yP l x a i i + a i))).setIfInBounds (i + 1) (.int .i64 (0 + (x i - a i))) = staC (yP l x a (i + 1)) := by
  have key : ∀ j, j < 4 → yP l x a (i + 1) j = if j = i + 1 then 0 + (x i - a i) else if j = i then yP l x a i i + a i else yP l x a i j := by
    intro j hj
    by_cases h1 : j = i + 1
    · subst h1; rw [if_pos rfl]; unfold yP
      rw [if_neg (by omega), if_pos (by omega)]; rfl
    rw [if_neg h1]
    by_cases h2 : j = i
    · subst h2; rw [if_pos rfl]; unfold yP
      rw [if_neg (show ¬ j < j by omega), if_pos (show j < j + 1 by omega)]
      by_cases h : 0 < j ∧ j ≤ j ∧ j ≤ l
      · rw [if_pos h, if_pos (by omega)]; omega
      · rw [if_neg h, if_neg (by omega)]; omega
    rw [if_neg h2]; unfold yP
    by_cases h3 : j < i
    · rw [if_pos h3, if_pos (show j < i + 1 by omega)]
      by_cases h : 0 < j ∧ j ≤ i ∧ j ≤ l
      · rw [if_pos h, if_pos (by omega)]
      · rw [if_neg h, if_neg (by omega)]
    · rw [if_neg h3, if_neg (show ¬ j < i + 1 by omega), if_neg (by omega), if_neg (by omega)]
  have hm : (staC (yP l x a i)).setIfInBounds i (.int .i64 (yP l x a i i + a i)) = staC (fun j => if j = i then yP l x a i i + a i else yP l x a i j) := by
    have := sta_set (yP l x a i) (fun j => if j = i then yP l x a i i + a i else yP l x a i j) i (by omega) (fun j hj => by
      by_cases h : j = i
      · subst h; simp
      · simp [h])
    simpa using this
  rw [hm]
  have := sta_set (fun j => if j = i then yP l x a i i + a i else yP l x a i j) (yP l x a (i + 1)) (i + 1) (by omega) (fun j hj => by
    rw [key j hj]
    by_cases h : j = i + 1
    · subst h; simp [key (i + 1) hj]
    · simp [h])
  rw [← this]
  rw [show yP l x a (i + 1) (i + 1) = 0 + (x i - a i) from by rw [key (i + 1) (by omega), if_pos rfl]]
theorem yP_end (l : Nat) (x a : Nat → Int) (hz : ∀ j, j < 4 → l < j → a j = 0) : staC (yP l x a (l + 1)) = staC (stepX l x a) := by
  have key : ∀ j, j < 4 → yP l x a (l + 1) j = stepX l x a j := by
    intro j hj
    unfold yP stepX bP
    by_cases h : 0 < j ∧ j ≤ l
    · rw [if_pos (show j < l + 1 by omega), if_pos (show 0 < j ∧ j ≤ l + 1 ∧ j ≤ l by omega), if_pos h]
    · rw [if_neg (show ¬ (0 < j ∧ j ≤ l + 1 ∧ j ≤ l) by omega), if_neg h]
      by_cases h2 : j < l + 1
      · rw [if_pos h2]; omega
      · rw [if_neg h2, hz j hj (by omega)]; rfl
  rw [show staC (yP l x a (l + 1)) = #[.int .i64 (yP l x a (l + 1) 0), .int .i64 (yP l x a (l + 1) 1), .int .i64 (yP l x a (l + 1) 2), .int .i64 (yP l x a (l + 1) 3)] from rfl, key 0 (by decide), key 1 (by decide), key 2 (by decide), key 3 (by decide)]
theorem yP_bd (l : Nat) (x a : Nat → Int) (hx : Sm x) (ha : InS x a) (i j : Nat) (hj : j < 4) : 0 ≤ yP l x a i j ∧ yP l x a i j ≤ 200 := by
  unfold yP
  have h1 := hx j hj
  have h2 := ha j hj
  have h3 := hx (j - 1) (by omega)
  have h4 := ha (j - 1) (by omega)
  split <;> split <;> omega
end Go.Proofs.Ytkikkpahfplkaaa
