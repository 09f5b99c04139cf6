/-
  The walk of WaysToWeigh in its model.
-/
import Derived.Test.YthbanajodohbbaaWaysFn
import Derived.RegionTactic
import Derived.ChangeAlike
namespace Go.Proofs.Ythbanajodohbbaa
open Go.RowKit Go.Maps

theorem setCell_new (w : World) (c : Array Value) (t : TypeId) (o : Nat) (v : Value) : (w.alloc (.cells c t)).setCell ⟨w.heap.size, o, none⟩ v = w.alloc (.cells (c.setIfInBounds o v) t) := by
  unfold World.setCell World.alloc
  congr 1
  apply Array.ext_getElem?
  intro i
  simp only [Array.getElem?_modify, Array.getElem?_push]
  by_cases h : i = w.heap.size
  · subst h; simp
  · simp [h, Ne.symm h]
def leastOf (both : Bool) : Int := if both then -1 else 0
theorem plOf_getD (both : Bool) (j : Nat) (h : j < (plOf both).length) : (plOf both).getD j 0 = leastOf both + j := by
  cases both
  · match j, h with
    | 0, _ => decide
    | 1, _ => decide
  · match j, h with
    | 0, _ => decide
    | 1, _ => decide
    | 2, _ => decide
theorem plOf_len (both : Bool) : ((plOf both).length : Int) = 2 - leastOf both := by cases both <;> decide
theorem leastOf_bd (both : Bool) : -1 ≤ leastOf both ∧ leastOf both ≤ 0 := by cases both <;> decide
theorem Try.info_i64t : (Try.prog.info? 2).map (fun i => (i.zero, i.size, i.bytes)) = some (some (.int .i64 0), 1, 8) := by kernel_rfl
/-- What the first m places have brought to s. -/
def partW (pl : List Int) (f : Int → Int) (wt s : Int) (m : Nat) : Int := ((pl.take m).map (fun x => f (s - x * wt))).sum
theorem partW_step (pl : List Int) (f : Int → Int) (wt s : Int) (m : Nat) (h : m < pl.length) : partW pl f wt s (m + 1) = partW pl f wt s m + f (s - pl.getD m 0 * wt) := by
  unfold partW
  rw [take_getD pl m h, List.map_append, List.sum_append]
  simp
theorem partW_bd (pl : List Int) (f : Int → Int) (wt s M : Int) (m : Nat) (hf : ∀ s, 0 ≤ f s ∧ f s ≤ M) (hl : pl.length ≤ 3) (hM : 0 ≤ M) : 0 ≤ partW pl f wt s m ∧ partW pl f wt s m ≤ 3 * M := by
  have h := sum_bd (pl.take m) (fun x => f (s - x * wt)) M (fun x _ => hf _)
  have h2 : (pl.take m).length ≤ 3 := by rw [List.length_take]; omega
  have h3 : ((pl.take m).length : Int) * M ≤ 3 * M := Int.mul_le_mul_of_nonneg_right (by omega) hM
  unfold partW
  omega
end Go.Proofs.Ythbanajodohbbaa
