/-
  The walks of MovesFrom, in the program and in its model.
-/
import Derived.Test.YtjmgalmndpjcoaaMvDel
import Derived.Test.YtjmgalmndpjcoaaDoMoves
namespace Go.Proofs.Ytjmgalmndpjcoaa
open Go.RowKit
set_option maxRecDepth 100000
set_option linter.unusedVariables false

noncomputable def mfL (J : List Int) (x y : Nat → Int) (t : Bool) : List Mv := if okW2 J x y = true then kp J t y (allM J.length) else []
noncomputable def mfC (J : List Int) (x y : Nat → Int) : Int := if okW2 J x y = true then 0 else 1
/-- A list of moves that a call has made, or an empty one. -/
def OwnX (B : Nat) (w : World) (v : Value) (ms : List Mv) : Prop := ∃ a c, v = .slice a ms.length c ∧ (ms = [] ∨ ∃ g, a = some ⟨g, 0, none⟩ ∧ B ≤ g ∧ g < w.heap.size ∧ MAt w g 0 ms ∧ ∀ j, w.frozen? ⟨g, j, none⟩ = false)
def fits (m : Mv) : Bool := decide (-128 ≤ m.1 ∧ m.1 ≤ 127) && decide (-128 ≤ m.2.1 ∧ m.2.1 ≤ 127) && decide (-128 ≤ m.2.2 ∧ m.2.2 ≤ 127)
theorem allM_fits : (allM 1).all fits = true ∧ (allM 2).all fits = true ∧ (allM 3).all fits = true ∧ (allM 4).all fits = true := by decide
theorem mall_of {ms : List Mv} (h : ms.all fits = true) : Mall ms := fun j => by
  by_cases hj : j < ms.length
  · have e : mvI ms j = ms[j] := by simp [mvI, List.getD_eq_getElem?_getD, List.getElem?_eq_getElem hj]
    have := List.all_eq_true.1 h ms[j] (List.getElem_mem hj)
    rw [e]
    simp only [fits, Bool.and_eq_true, decide_eq_true_eq] at this
    exact ⟨this.1.1, this.1.2, this.2⟩
  · have e : mvI ms j = (0, 0, 0) := by simp [mvI, List.getD_eq_getElem?_getD, List.getElem?_eq_none (show ms.length ≤ j by omega)]
    rw [e]
    exact zero_M8
theorem allM_mall {n : Nat} (hn : 1 ≤ n ∧ n ≤ 4) : Mall (allM n) := by
  obtain ⟨a, b, c, d⟩ := allM_fits
  match n, hn with
  | 1, _ => exact mall_of a
  | 2, _ => exact mall_of b
  | 3, _ => exact mall_of c
  | 4, _ => exact mall_of d
end Go.Proofs.Ytjmgalmndpjcoaa
