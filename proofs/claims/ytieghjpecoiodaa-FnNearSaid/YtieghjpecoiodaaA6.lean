/-
  The walk of SeenOf.
-/
import Derived.Test.YtieghjpecoiodaaA5
import Derived.Laws.StructEq
import Derived.Laws.Small
import Derived.Laws.Pointers
namespace Go.Proofs.Ytieghjpecoiodaa
open Go.RowKit Go.Shelf
set_option maxRecDepth 100000
set_option linter.unusedVariables false

attribute [local go_sem] Oper.semAt_some

theorem setAt {n : Nat} {a w : World} (h : Below n a w) {b : Nat} (hb : n ≤ b) (o : Nat) (v : Value) : Below n a (w.setCell ⟨b, o, none⟩ v) := h.setCell hb v
theorem eqCs (a : Int) (b : Bool) (a' : Int) (b' : Bool) (w : World) : (Op.equalIn 10000 37 (caseV a b) (caseV a' b')).run Try.prog w = .ok (a == a' && b == b') w := by
  have u3 := Try.underlying24
  have a3 := Try.isAgg24
  have z3 := Try.sizeOf24
  have u4 := Try.underlying4
  have a4 := Try.isAgg4
  have z4 := Try.sizeOf4
  have hS : Try.prog.underlying 37 = some (.struct (Try.prog.fieldsOf 37)) := by kernel_rfl
  have hp : Try.prog.stoodInHeld 37 = false := by kernel_rfl
  rw [show (10000 : Nat) = 9999 + 1 from rfl, run_equalIn_agg w 9999 37 _ _ hS hp]
  simp only [Program.fieldsOf, Try.underlying37]
  go_simp
  by_cases h1 : a = a' <;> by_cases h2 : b = b' <;> simp [h1, h2]
theorem slw_up {w W : World} {a : Option Addr} {ws : List Wf} (h : Slw w.heap.size w a ws) (hb : Below w.heap.size w W) : Slw W.heap.size W a ws := by
  rcases h with h | ⟨b, off, e, h1, h2⟩
  · exact .inl h
  · exact .inr ⟨b, off, e, Nat.lt_of_lt_of_le h1 hb.size, h2.below hb h1⟩
theorem own_of {w W : World} {a : Option Addr} {ws : List Wf} (h : Slw w.heap.size w a ws) (hb : Below w.heap.size w W) (h0 : 1 ≤ (ws.length : Int)) : ∃ b off, a = some ⟨b, off, none⟩ ∧ b < W.heap.size ∧ WAt W b off ws := by
  rcases h with rfl | ⟨b, off, rfl, h1, h2⟩
  · simp at h0
  · exact ⟨b, off, rfl, Nat.lt_of_lt_of_le h1 hb.size, h2.below hb h1⟩
/-- What SeenOf hands back. -/
noncomputable def soW (l k : Int) (ws : List Wf) (x : Cs) : Wf := if okX l k ws = true ∧ x ∈ upC k true ws.length then seenV ws x else fun _ => 0
noncomputable def soC (l k : Int) (ws : List Wf) (x : Cs) : Int := if okX l k ws = true then (if x ∈ upC k true ws.length then 0 else 2) else 1
end Go.Proofs.Ytieghjpecoiodaa
