/-
  The walks of SameFixed and its model.
-/
import Derived.Test.YtieghjpecoiodaaE3
import Derived.Laws.StructEq
import Derived.Laws.Small
import Derived.Laws.Pointers
namespace Go.Proofs.Ytieghjpecoiodaa
open Go.RowKit
set_option maxRecDepth 100000
set_option linter.unusedVariables false

theorem eqWd (a b c d a' b' c' d' : Int) (w : World) : (Op.equalIn 10000 40 (.agg #[.int .i8 a, .int .i8 b, .int .i8 c, .int .i8 d]) (.agg #[.int .i8 a', .int .i8 b', .int .i8 c', .int .i8 d'])).run Try.prog w = .ok (a == a' && b == b' && c == c' && d == d') w := by
  have u3 := Try.underlying24
  have a3 := Try.isAgg24
  have z3 := Try.sizeOf24
  rw [show (10000 : Nat) = 9999 + 1 from rfl, Op.equalIn]
  simp only [Sem.run_bind, run_underlying Try.underlying40, Result.andThen_ok]
  simp only [Std.Legacy.Range.forIn_eq_forIn_range', Std.Legacy.Range.size, Nat.sub_zero, Nat.add_sub_cancel, Nat.div_one, List.range'_succ, List.range'_zero, List.forIn_cons, List.forIn_nil]
  go_simp
  by_cases h1 : a = a' <;> by_cases h2 : b = b' <;> by_cases h3 : c = c' <;> by_cases h4 : d = d' <;> simp [h1, h2, h3, h4]
def Same4 (x y : Wf) : Prop := x 0 = y 0 ∧ x 1 = y 1 ∧ x 2 = y 2 ∧ x 3 = y 3
theorem eqWd_t {x y : Wf} (h : Same4 x y) (w : World) : (Op.equalIn 10000 40 (wordV x) (wordV y)).run Try.prog w = .ok true w := by
  rw [eqWd, h.1, h.2.1, h.2.2.1, h.2.2.2]; simp
theorem eqWd_f {x y : Wf} (h : ¬ Same4 x y) (w : World) : (Op.equalIn 10000 40 (wordV x) (wordV y)).run Try.prog w = .ok false w := by
  rw [eqWd]
  by_cases h1 : x 0 = y 0 <;> by_cases h2 : x 1 = y 1 <;> by_cases h3 : x 2 = y 2 <;> by_cases h4 : x 3 = y 3 <;> simp [h1, h2, h3, h4]
  exact h ⟨h1, h2, h3, h4⟩
def SameTo (ws us : List Wf) (k : Nat) : Prop := ∀ j, j < k → Same4 (wI ws j) (wI us j)
theorem SameTo.succ {ws us : List Wf} {k : Nat} (h : SameTo ws us k) (h2 : Same4 (wI ws k) (wI us k)) : SameTo ws us (k + 1) := fun j hj => by
  by_cases e : j = k
  · subst e; exact h2
  · exact h j (by omega)
def SameW (ws us : List Wf) : Prop := ws.length = us.length ∧ SameTo ws us ws.length
noncomputable def sameW (ws us : List Wf) : Bool := cb (SameW ws us)
def SameX (l k : Int) (ws : List Wf) (l' k' : Int) (us : List Wf) : Prop := l = l' ∧ k = k' ∧ SameW ws us
noncomputable def sameX (l k : Int) (ws : List Wf) (l' k' : Int) (us : List Wf) : Bool := cb (SameX l k ws l' k' us)
end Go.Proofs.Ytieghjpecoiodaa
