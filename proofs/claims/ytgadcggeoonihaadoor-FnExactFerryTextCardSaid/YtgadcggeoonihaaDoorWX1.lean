/-
  The text of weights, in the model.
-/
import Derived.Test.YtgadcggeoonihaaDoorDC
namespace Go.Proofs.YtgadcggeoonihaaDoor
open Go.RowKit
set_option maxRecDepth 100000
set_option linter.unusedVariables false

/-- The texts of numbers that are at least 0. -/
def ntX (xs : List Int) (j : Nat) : ByteArray := dcV (xs.getD j 0).toNat
noncomputable def wtV (xs : List Int) : ByteArray := if okW xs = true then jT (ntX xs) xs.length else ⟨#[]⟩
theorem wt_t {xs : List Int} (h : okW xs = true) : wtV xs = jT (ntX xs) xs.length := if_pos h
theorem wt_f {xs : List Int} (h : okW xs = false) : wtV xs = ⟨#[]⟩ := if_neg (by rw [h]; decide)
theorem okW_of {xs : List Int} (h : okW xs = true) : OkW xs := by
  by_cases h2 : OkW xs
  · exact h2
  · exact absurd (h.symm.trans (cb_f h2)) (by decide)
theorem ok_bounds {xs : List Int} (h : OkW xs) : ∀ j, 0 ≤ xs.getD j 0 ∧ xs.getD j 0 ≤ 32767 := by
  intro j
  have hsum : ∀ k, k ≤ xs.length → 0 ≤ sumI (xs.take k) ∧ ∀ i, i < k → xs.getD i 0 ≤ sumI (xs.take k) := by
    intro k
    induction k with
    | zero => intro _; exact ⟨by simp [sumI], fun i hi => absurd hi (Nat.not_lt_zero _)⟩
    | succ k ih =>
      intro hk
      have h1 := ih (by omega)
      have h2 := (h.2.2.1 k (by omega)).1
      rw [take_getD xs k (by omega), sumI_snoc]
      refine ⟨by omega, fun i hi => ?_⟩
      rcases Nat.lt_or_ge i k with h3 | h3
      · have := h1.2 i h3; omega
      · have : i = k := by omega
        subst this; omega
  rcases Nat.lt_or_ge j xs.length with hj | hj
  · have h1 := (hsum xs.length (Nat.le_refl _)).2 j hj
    rw [List.take_length] at h1
    have h2 := (h.2.2.1 j hj).1
    have h3 := h.2.2.2
    omega
  · rw [List.getD_eq_getElem?_getD, List.getElem?_eq_none hj]; simp
theorem ntX_size {xs : List Int} (h : ∀ j, 0 ≤ xs.getD j 0 ∧ xs.getD j 0 ≤ 32767) (j : Nat) : (ntX xs j).size ≤ 5 :=
  dcV_len 5 _ (by have := h j; show _ < 100000; omega) (by decide)
end Go.Proofs.YtgadcggeoonihaaDoor
