/-
  Glasses as numbers: which ones are valid, and how many tops they have.
-/
import Derived.Test.YtnpgnekofclciaaDoorJ2
namespace Go.Proofs.YtnpgnekofclciaaDoor
open Go.RowKit

def EachG (J : List Int) (k : Nat) : Prop := ∀ j, j < k → 1 ≤ J.getD j 0 ∧ J.getD j 0 ≤ 40
def OkG (J : List Int) : Prop := (1 ≤ J.length ∧ J.length ≤ 4) ∧ EachG J J.length ∧ stTo J J.length ≤ 3000
noncomputable def okG (J : List Int) : Bool := cb (OkG J)
/-- Valid tops. -/
noncomputable def okT (J : List Int) (x : Nat → Int) : Bool := okG J && okX J x
/-- How many tops there are, 0 for glasses that are not valid. -/
noncomputable def gV (J : List Int) : Int := if okG J = true then stTo J J.length else 0
/-- The greatest one of the first k + 1 numbers. -/
def mxTo (J : List Int) : Nat → Int
  | 0 => J.getD 0 0
  | k + 1 => if J.getD (k + 1) 0 ≤ mxTo J k then mxTo J k else J.getD (k + 1) 0
theorem EachG.each {J : List Int} {k : Nat} (h : EachG J k) : Each J k := fun j hj => by have := h j hj; omega
theorem EachG.mono {J : List Int} {k m : Nat} (h : EachG J k) (hm : m ≤ k) : EachG J m := fun j hj => h j (by omega)
theorem EachG.snoc {J : List Int} {k : Nat} (h : EachG J k) (h1 : 1 ≤ J.getD k 0 ∧ J.getD k 0 ≤ 40) : EachG J (k + 1) := fun j hj => by
  by_cases e : j = k
  · subst e; exact h1
  · exact h j (by omega)
theorem OkG.okJ {J : List Int} (h : OkG J) : OkJ J := ⟨h.1, h.2.1.each, by have := h.2.2; omega⟩
theorem okG_of {J : List Int} (h : OkG J) : okG J = true := cb_t h
theorem of_okG {J : List Int} (h : okG J = true) : OkG J := of_cb h
theorem mxTo_ge (J : List Int) (k : Nat) : ∀ j, j ≤ k → J.getD j 0 ≤ mxTo J k := by
  induction k with
  | zero => intro j hj; obtain rfl : j = 0 := by omega
            exact Int.le_refl _
  | succ k ih =>
    intro j hj
    unfold mxTo
    by_cases e : j = k + 1
    · subst e
      by_cases h : J.getD (k + 1) 0 ≤ mxTo J k
      · rw [if_pos h]; exact h
      · rw [if_neg h]; exact Int.le_refl _
    · have := ih j (by omega)
      by_cases h : J.getD (k + 1) 0 ≤ mxTo J k
      · rw [if_pos h]; exact this
      · rw [if_neg h]; omega
theorem mxTo_mem (J : List Int) (k : Nat) : ∃ j, j ≤ k ∧ mxTo J k = J.getD j 0 := by
  induction k with
  | zero => exact ⟨0, Nat.le_refl _, rfl⟩
  | succ k ih =>
    obtain ⟨j, hj, e⟩ := ih
    unfold mxTo
    by_cases h : J.getD (k + 1) 0 ≤ mxTo J k
    · rw [if_pos h]; exact ⟨j, by omega, e⟩
    · rw [if_neg h]; exact ⟨k + 1, Nat.le_refl _, rfl⟩
theorem mxTo_le {J : List Int} {k : Nat} {m : Int} : mxTo J k ≤ m ↔ ∀ j, j ≤ k → J.getD j 0 ≤ m := by
  constructor
  · intro h j hj
    have := mxTo_ge J k j hj
    omega
  · intro h
    obtain ⟨j, hj, e⟩ := mxTo_mem J k
    rw [e]; exact h j hj
theorem mxTo_bd {J : List Int} (hi : I16 J) (k : Nat) : -32768 ≤ mxTo J k ∧ mxTo J k ≤ 32767 := by
  obtain ⟨j, _, e⟩ := mxTo_mem J k
  rw [e]; exact hi j
theorem okG_no {J : List Int} (h : okJ J = false) : okG J = false := by
  unfold okG
  refine cb_f (fun h2 => ?_)
  rw [okJ_of h2.okJ] at h; cases h
theorem okG_big {J : List Int} (h : okJ J = true) (hm : ¬ mxTo J (J.length - 1) ≤ 40) : okG J = false := by
  unfold okG
  refine cb_f (fun h2 => hm (mxTo_le.2 fun j hj => ?_))
  have := (of_okJ h).1
  exact (h2.2.1 j (by omega)).2
theorem okG_few {J : List Int} (h : okJ J = true) (hm : mxTo J (J.length - 1) ≤ 40) : okG J = decide (stTo J J.length ≤ 3000) := by
  have h1 := of_okJ h
  have hE : EachG J J.length := fun j hj => ⟨(h1.2.1 j hj).1, mxTo_le.1 hm j (by omega)⟩
  by_cases h2 : stTo J J.length ≤ 3000
  · rw [okG_of ⟨h1.1, hE, h2⟩]; simp [h2]
  · rw [show okG J = false from cb_f (fun h3 => h2 h3.2.2)]; simp [h2]
theorem gV_pos {J : List Int} : (0 < gV J) ↔ OkG J := by
  unfold gV
  by_cases h : okG J = true
  · rw [if_pos h]
    have h1 := of_okG h
    have := stTo_bd h1.2.1.each
    exact ⟨fun _ => h1, fun _ => by omega⟩
  · rw [if_neg h]
    exact ⟨fun h2 => absurd h2 (by omega), fun h2 => absurd (okG_of h2) h⟩
theorem gV_bd (J : List Int) : 0 ≤ gV J ∧ gV J ≤ 3000 := by
  unfold gV
  by_cases h : okG J = true
  · rw [if_pos h]
    have h1 := of_okG h
    have := stTo_bd h1.2.1.each
    have h3 := h1.2.2
    omega
  · rw [if_neg h]; omega
end Go.Proofs.YtnpgnekofclciaaDoor
