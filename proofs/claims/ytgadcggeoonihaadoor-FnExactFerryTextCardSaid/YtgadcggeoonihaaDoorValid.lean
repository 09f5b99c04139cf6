/-
  The walks of the functions that report validity, in the program and in its model.
-/
import Derived.Test.YtgadcggeoonihaaDoorScale
namespace Go.Proofs.YtgadcggeoonihaaDoor
open Go.RowKit

def Srt (xs : List Int) : Prop := ∀ j, j < xs.length → 0 < j → xs.getD (j - 1) 0 ≤ xs.getD j 0
/-! ### validity of placings -/
def OkP (ps : List Int) : Prop := ∀ j, j < ps.length → -1 ≤ ps.getD j 0 ∧ ps.getD j 0 ≤ 1
noncomputable def okP (ps : List Int) : Bool := cb (OkP ps)
/-- weights and a placing that fit -/
def OkF (ws ps : List Int) : Prop := OkW ws ∧ ps.length = ws.length ∧ OkP ps
noncomputable def okF (ws ps : List Int) : Bool := cb (OkF ws ps)
theorem cb_and {p q r : Prop} (h : r ↔ p ∧ q) : cb r = (cb p && cb q) := by
  by_cases hp : p <;> by_cases hq : q
  · rw [cb_t hp, cb_t hq, cb_t (h.2 ⟨hp, hq⟩)]; rfl
  · rw [cb_t hp, cb_f hq, cb_f (fun k => hq (h.1 k).2)]; rfl
  · rw [cb_f hp, cb_f (fun k => hp (h.1 k).1)]; rfl
  · rw [cb_f hp, cb_f (fun k => hp (h.1 k).1)]; rfl
end Go.Proofs.YtgadcggeoonihaaDoor
