/-
  What FnNear says of distances.
-/
import Derived.Test.YtieghjpecoiodaaNR3
namespace Go.Proofs.Ytieghjpecoiodaa
open Go.RowKit
set_option maxRecDepth 100000
set_option linter.unusedVariables false

theorem df_tri (x y z : Nat → Int) (i : Nat) : df x z i ≤ df x y i + df y z i := by
  unfold df
  by_cases h1 : x i = y i <;> by_cases h2 : y i = z i <;> by_cases h3 : x i = z i
  · rw [if_pos h1, if_pos h2, if_pos h3]; omega
  · exact absurd (h1.trans h2) h3
  · rw [if_pos h1, if_neg h2, if_pos h3]; omega
  · rw [if_pos h1, if_neg h2, if_neg h3]; omega
  · rw [if_neg h1, if_pos h2, if_pos h3]; omega
  · rw [if_neg h1, if_pos h2, if_neg h3]; omega
  · rw [if_neg h1, if_neg h2, if_pos h3]; omega
  · rw [if_neg h1, if_neg h2, if_neg h3]; omega
theorem dist_tri (x y z : Nat → Int) (n : Nat) : dist x z n ≤ dist x y n + dist y z n := by
  induction n with
  | zero => exact Int.le_refl _
  | succ n ih =>
    have := df_tri x y z n
    show dist x z n + df x z n ≤ (dist x y n + df x y n) + (dist y z n + df y z n)
    omega
theorem dist_nn (x y : Nat → Int) (n : Nat) : 0 ≤ dist x y n ∧ dist x y n ≤ n := by
  induction n with
  | zero => exact ⟨Int.le_refl _, Int.le_refl _⟩
  | succ n ih =>
    have := df01 x y n
    show 0 ≤ dist x y n + df x y n ∧ dist x y n + df x y n ≤ _
    omega
theorem dist_stop (x y : Nat → Int) (m n : Nat) (hm : m ≤ n) (h : ∀ i, m ≤ i → i < n → x i = y i) : dist x y n = dist x y m := by
  induction n with
  | zero => rw [show m = 0 by omega]
  | succ n ih =>
    by_cases e : m = n + 1
    · rw [e]
    · show dist x y n + df x y n = _
      rw [ih (by omega) (fun i h1 h2 => h i h1 (by omega))]
      unfold df
      rw [if_pos (h n (by omega) (by omega))]; omega
theorem dist_congr {x y x' : Nat → Int} {n : Nat} (h : ∀ i, i < n → x' i = x i) : dist x' y n = dist x y n := by
  induction n with
  | zero => rfl
  | succ n ih =>
    show dist x' y n + df x' y n = dist x y n + df x y n
    rw [ih (fun i hi => h i (by omega))]
    unfold df
    rw [h n (by omega)]
theorem minI_mem (ws : List Wf) (z : Wf) (a : Int) (M : List Cs) (p : Cs) (hp : p ∈ M) : minI ws z a M ≤ dist z (seenV ws p) 4 := by
  induction M generalizing a with
  | nil => cases hp
  | cons q M ih =>
    show minI ws z (min a (dist z (seenV ws q) 4)) M ≤ _
    rcases List.mem_cons.1 hp with rfl | hp
    · exact Int.le_trans (minI_le _ _ _ _) (Int.min_le_right _ _)
    · exact ih _ hp
theorem minI_nn (ws : List Wf) (z : Wf) (a : Int) (M : List Cs) (ha : 0 ≤ a) : 0 ≤ minI ws z a M := by
  induction M generalizing a with
  | nil => exact ha
  | cons q M ih =>
    show 0 ≤ minI ws z (min a (dist z (seenV ws q) 4)) M
    exact ih _ (by have := (dist_nn z (seenV ws q) 4).1; omega)
theorem ldJ_nn (ws : List Wf) (L : List Cs) (a : Int) (j : Nat) (ha : 0 ≤ a) : 0 ≤ ldJ ws L a j := by
  induction j with
  | zero => exact ha
  | succ j ih => exact minI_nn _ _ _ _ ih
theorem ldJ_pair (ws : List Wf) (L : List Cs) (a : Int) {i j n : Nat} (hij : i < j) (hj : j < L.length) (hn : j < n) : ldJ ws L a n ≤ dist (seenV ws (L.getD j (0, false))) (seenV ws (L.getD i (0, false))) 4 := by
  refine Int.le_trans (ldJ_le ws L a (show j + 1 ≤ n by omega)) ?_
  refine minI_mem ws _ _ (L.take j) _ ?_
  rw [List.getD_eq_getElem?_getD, List.getElem?_eq_getElem (by omega)]
  rw [List.mem_take_iff_getElem]
  exact ⟨i, by omega, rfl⟩
theorem ld_two (ws : List Wf) (L : List Cs) (a : Int) {p q : Cs} (hp : p ∈ L) (hq : q ∈ L) (hne : p ≠ q) : ldJ ws L a L.length ≤ dist (seenV ws p) (seenV ws q) 4 := by
  obtain ⟨i, hi, ep⟩ := List.mem_iff_getElem.1 hp
  obtain ⟨j, hj, eq⟩ := List.mem_iff_getElem.1 hq
  have ei : L.getD i (0, false) = p := by rw [List.getD_eq_getElem?_getD, List.getElem?_eq_getElem hi]; exact ep
  have ej : L.getD j (0, false) = q := by rw [List.getD_eq_getElem?_getD, List.getElem?_eq_getElem hj]; exact eq
  rcases Nat.lt_trichotomy i j with h | h | h
  · have := ldJ_pair ws L a h hj hj
    rw [ei, ej, dist_comm] at this
    exact this
  · subst h; exact absurd (ep.symm.trans eq) hne
  · have := ldJ_pair ws L a h hi hi
    rw [ei, ej] at this
    exact this
theorem near_mem {ws : List Wf} {x : Nat → Int} {wr : Int} {L : List Cs} {q : Cs} : q ∈ nearL ws x wr L ↔ q ∈ L ∧ dist (seenV ws q) x 4 ≤ wr := by
  unfold nearL; rw [List.mem_filter, decide_eq_true_iff]
/-- What is decoded near a case. -/
theorem near_all {ws : List Wf} {x : Nat → Int} {wr : Int} {L : List Cs} {c : Cs} (nd : L.Nodup) (hc : c ∈ L) (hw : dist x (seenV ws c) 4 = wr) :
    (dnC ws x wr L = 0 ∧ dnV ws x wr L = c) ∨ (dnC ws x wr L = 8 ∧ dnV ws x wr L = (0, false) ∧ ldJ ws L 4 L.length ≤ 2 * wr) := by
  have hcn : c ∈ nearL ws x wr L := near_mem.2 ⟨hc, by rw [dist_comm]; omega⟩
  have hnd : (nearL ws x wr L).Nodup := nd.filter _
  have hpos : 0 < (nearL ws x wr L).length := List.length_pos_of_mem hcn
  by_cases h1 : (nearL ws x wr L).length = 1
  · left
    unfold dnC dnV
    rw [if_neg (by omega), if_pos h1, if_pos h1]
    refine ⟨rfl, ?_⟩
    generalize nearL ws x wr L = M at *
    match M, h1, hcn with
    | [y], _, hcn => rw [List.mem_singleton.1 hcn]; rfl
  · right
    unfold dnC dnV
    rw [if_neg (by omega), if_neg h1, if_neg h1]
    refine ⟨rfl, rfl, ?_⟩
    obtain ⟨q, hq, hne⟩ : ∃ q ∈ nearL ws x wr L, q ≠ c := by
      generalize nearL ws x wr L = M at *
      match M, h1, hcn, hnd with
      | y :: z :: M, _, hcn, hnd =>
        by_cases e : y = c
        · refine ⟨z, by simp, fun e2 => ?_⟩
          rw [List.nodup_cons] at hnd
          exact hnd.1 (by rw [e, ← e2]; simp)
        · exact ⟨y, by simp, e⟩
    obtain ⟨hqL, hqd⟩ := near_mem.1 hq
    have h2 := ld_two ws L 4 hqL hc hne
    have h3 := dist_tri (seenV ws q) x (seenV ws c) 4
    omega
end Go.Proofs.Ytieghjpecoiodaa
