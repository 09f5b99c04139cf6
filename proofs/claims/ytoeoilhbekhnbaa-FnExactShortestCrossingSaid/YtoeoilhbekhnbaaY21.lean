/-
  The walk of LoadsFrom.
-/
import Derived.Test.YtoeoilhbekhnbaaY20
import Derived.Test.YtoeoilhbekhnbaaY11
namespace Go.Proofs.Ytoeoilhbekhnbaa
open Go.RowKit Go.Shelf
set_option maxRecDepth 100000
set_option linter.unusedVariables false

attribute [local go_sem] Oper.semAt_some

theorem vbX_tt {l k : Int} {xs : List Int} {n : Int} {f : Bool} (h : vbX l k xs n f = true) : okY l k xs = true ∧ bkX l xs n f = true := by
  unfold vbX at h; simpa using h
theorem row_next {w w' : World} {base : Nat} {e : TypeId} {size : Nat} {v : Value} {n : Nat} {xs : List Value} (h : w.ownsRow base e size v n xs) (hb : Below w.heap.size w w') : w'.ownsRow base e size v n xs :=
  h.kept (row := none) ⟨hb.os, hb.tape, hb.output, hb.size, fun k hk _ => hb.block k hk⟩ (by cases h : v.ownBlock <;> simp)
/-- An append to a row that lies past nb, behind a box: what the walk owes. -/
theorem appended_far {W w1 : World} {n₀ nb B : Nat} {t e : TypeId} {size : Nat} {v v' : Value} {k m : Nat} {xs ys : List Value} {tmp : Obj}
    (hv : Boxed W B t v) (hte : t ≠ e) (hrow : W.ownsRow nb e size v k xs) (hn₀ : n₀ ≤ W.heap.size) (hB : n₀ ≤ B) (hnb : n₀ ≤ nb)
    (hown' : w1.ownsRow nb e size v' m ys) (hgrow : (W.alloc tmp).grownBy w1 v.ownBlock) :
    Boxed w1 B t v ∧ Boxed (w1.setCell ⟨B, 0, none⟩ v') B t v' ∧ (w1.setCell ⟨B, 0, none⟩ v').ownsRow nb e size v' m ys ∧ KeepsOthers W (w1.setCell ⟨B, 0, none⟩ v') ∧ Below n₀ W (w1.setCell ⟨B, 0, none⟩ v')
      ∧ ∀ q cs u, Blk W q cs u → q < nb → q ≠ B → Blk (w1.setCell ⟨B, 0, none⟩ v') q cs u := by
  have hv1 : Boxed w1 B t v := (hv.alloc tmp).kept hgrow (hv.not_row hte hrow)
  have hrw : ∀ j, v.ownBlock = some j → nb ≤ j ∧ ∀ o, (W.alloc tmp).heap[j]? = some o → o.isCells = true := fun j ej => by
    rcases (hrow.alloc tmp).2 with ⟨rfl, _⟩ | ⟨g, cap, cur, rfl, hb, hgb, _⟩
    · simp [Value.ownBlock] at ej
    · obtain rfl : g = j := by simpa [Value.ownBlock] using ej
      exact ⟨hb, fun o ho => by rw [hgb] at ho; cases ho; rfl⟩
  refine ⟨hv1, hv1.set v', hown'.kept (grownBy_setCell' w1 B v') (.inr (hv1.not_row hte hown').symm), ?_, ?_, ?_⟩
  · exact ((KeepsOthers.alloc W tmp).trans (KeepsOthers.of_grownBy hgrow fun j o ej hj => (hrw j ej).2 o hj)).trans (KeepsOthers.setCell _ _ _)
  · exact (((Below.refl n₀ W).alloc hn₀ tmp).grown hgrow (by simp; omega) fun j ej => by have := (hrw j ej).1; omega).setCell (p := ⟨B, 0, none⟩) hB v'
  · intro q cs u hq hlt hne
    have h1 := hq.alloc tmp
    have h2 : Blk w1 q cs u := (hgrow.block q h1.lt (fun e' => by have := (hrw q e'.symm).1; omega)).trans h1
    exact h2.setOther hne _ _
theorem Try.info_u16 : (Try.prog.info? 62).map (fun i => (i.zero, i.size, i.bytes)) = some (some (.int .u16 0), 1, 2) := by kernel_rfl
abbrev uvals (L : List Int) : List Value := L.map (Value.int .u16)
end Go.Proofs.Ytoeoilhbekhnbaa
