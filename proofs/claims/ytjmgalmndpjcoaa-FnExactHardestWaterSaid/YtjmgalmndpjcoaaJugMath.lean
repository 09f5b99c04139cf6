/-
  Jugs and waters as numbers: how many waters there are, which ones are valid.
-/
import Derived.Test.YtjmgalmndpjcoaaPz2
namespace Go.Proofs.Ytjmgalmndpjcoaa
open Go.RowKit

/-- How many waters the first k jugs have. -/
def stTo (J : List Int) : Nat → Int
  | 0 => 1
  | k + 1 => stTo J k * (J.getD k 0 + 1)
def Each (J : List Int) (k : Nat) : Prop := ∀ j, j < k → 1 ≤ J.getD j 0 ∧ J.getD j 0 ≤ 60
def OkJ (J : List Int) : Prop := (1 ≤ J.length ∧ J.length ≤ 4) ∧ Each J J.length ∧ stTo J J.length ≤ 5000
def OkX (J : List Int) (x : Nat → Int) : Prop := ∀ i, i < 4 → 0 ≤ x i ∧ x i ≤ J.getD i 0
def OkZ (J : List Int) (x : Nat → Int) : Prop := OkJ J ∧ OkX J x
noncomputable def okJ (J : List Int) : Bool := cb (OkJ J)
noncomputable def okX (J : List Int) (x : Nat → Int) : Bool := cb (OkX J x)
noncomputable def okZ (J : List Int) (x : Nat → Int) : Bool := cb (OkZ J x)
/-- How many waters there are, 0 for jugs that are not valid. -/
noncomputable def stV (J : List Int) : Int := if okJ J = true then stTo J J.length else 0
theorem stTo_step (J : List Int) (k : Nat) : stTo J (k + 1) = stTo J k * (J.getD k 0 + 1) := rfl
theorem Each.mono {J : List Int} {k m : Nat} (h : Each J k) (hm : m ≤ k) : Each J m := fun j hj => h j (by omega)
theorem Each.snoc {J : List Int} {k : Nat} (h : Each J k) (h1 : 1 ≤ J.getD k 0 ∧ J.getD k 0 ≤ 60) : Each J (k + 1) := fun j hj => by
  by_cases e : j = k
  · subst e; exact h1
  · exact h j (by omega)
theorem stTo_bd {J : List Int} {k : Nat} (h : Each J k) : 1 ≤ stTo J k ∧ stTo J k ≤ 61 ^ k := by
  induction k with
  | zero => simp [stTo]
  | succ k ih =>
    have h1 := ih (h.mono (Nat.le_succ k))
    have h2 := h k (by omega)
    rw [stTo_step, Int.pow_succ]
    generalize J.getD k 0 = x at *
    generalize stTo J k = p at *
    refine ⟨?_, Int.mul_le_mul h1.2 (by omega) (by omega) (by omega)⟩
    have := Int.mul_le_mul (a := 1) (b := 1) (c := p) (d := x + 1) h1.1 (by omega) (by omega) (by omega)
    simpa using this
theorem stTo_bd4 {J : List Int} {k : Nat} (h : Each J k) (hk : k ≤ 4) : 1 ≤ stTo J k ∧ stTo J k ≤ 13845841 := by
  have h1 := stTo_bd h
  refine ⟨h1.1, Int.le_trans h1.2 ?_⟩
  have : k = 0 ∨ k = 1 ∨ k = 2 ∨ k = 3 ∨ k = 4 := by omega
  rcases this with rfl | rfl | rfl | rfl | rfl <;> decide
theorem stTo_mono {J : List Int} {k m : Nat} (h : Each J m) (hk : k ≤ m) : stTo J k ≤ stTo J m := by
  induction m with
  | zero => obtain rfl : k = 0 := by omega
            exact Int.le_refl _
  | succ m ih =>
    by_cases e : k = m + 1
    · subst e; exact Int.le_refl _
    · refine Int.le_trans (ih (h.mono (Nat.le_succ m)) (by omega)) ?_
      have h1 := stTo_bd (h.mono (Nat.le_succ m))
      have h2 := h m (by omega)
      rw [stTo_step]
      generalize J.getD m 0 = x at *
      generalize stTo J m = p at *
      have := Int.mul_le_mul_of_nonneg_left (a := 1) (b := x + 1) (c := p) (by omega) (by omega)
      simpa using this
theorem okJ_of {J : List Int} (h : OkJ J) : okJ J = true := cb_t h
theorem of_okJ {J : List Int} (h : okJ J = true) : OkJ J := of_cb h
theorem getD_ge {J : List Int} {i : Nat} (h : J.length ≤ i) : J.getD i 0 = 0 := by simp [List.getD_eq_getElem?_getD, List.getElem?_eq_none h]
theorem OkX.w16 {J : List Int} {x : Nat → Int} (hJ : Each J J.length) (h : OkX J x) : ∀ i, i < 4 → 0 ≤ x i ∧ x i ≤ 60 := fun i hi => by
  have h1 := h i hi
  by_cases hl : i < J.length
  · have := hJ i hl; omega
  · rw [getD_ge (by omega)] at h1; omega
theorem stV_pos {J : List Int} : (0 < stV J) ↔ OkJ J := by
  unfold stV
  by_cases h : okJ J = true
  · rw [if_pos h]
    have h1 := of_okJ h
    have := stTo_bd h1.2.1
    exact ⟨fun _ => h1, fun _ => by omega⟩
  · rw [if_neg h]
    exact ⟨fun h2 => absurd h2 (by omega), fun h2 => absurd (okJ_of h2) h⟩
theorem stV_bd (J : List Int) : 0 ≤ stV J ∧ stV J ≤ 5000 := by
  unfold stV
  by_cases h : okJ J = true
  · rw [if_pos h]
    have h1 := of_okJ h
    have := stTo_bd h1.2.1
    have h3 := h1.2.2
    omega
  · rw [if_neg h]; omega
theorem okZ_eq (J : List Int) (x : Nat → Int) : okZ J x = (okJ J && okX J x) := by
  unfold okZ okJ okX
  by_cases h1 : OkJ J
  · by_cases h2 : OkX J x
    · rw [cb_t h1, cb_t h2, cb_t (show OkZ J x from ⟨h1, h2⟩)]; rfl
    · rw [cb_t h1, cb_f h2, cb_f (fun h : OkZ J x => h2 h.2)]; rfl
  · rw [cb_f h1, cb_f (fun h : OkZ J x => h1 h.1)]; rfl
end Go.Proofs.Ytjmgalmndpjcoaa
