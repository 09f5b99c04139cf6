/-
  The program's Decode.
-/
import Derived.Test.YtieghjpecoiodaaB10
import Derived.Test.YtieghjpecoiodaaB3
import Derived.Deep.DeepCutAuto
namespace Go.Proofs.Ytieghjpecoiodaa
open Go.RowKit Go.Shelf Go.Maps Go.MapKept Go.ChangeMaps
set_option maxRecDepth 100000
set_option linter.unusedVariables false

/-- What Decode hands back. -/
noncomputable def deV (l k : Int) (ws : List Wf) (x : Nat → Int) : Cs := if okX l k ws = true ∧ okD l x = true then (fcQ ws (upC k true ws.length) (wordV x)).getD (0, false) else (0, false)
noncomputable def deC (l k : Int) (ws : List Wf) (x : Nat → Int) : Int := if okX l k ws = true ∧ okD l x = true then (if (fcQ ws (upC k true ws.length) (wordV x)).isSome then 0 else 6) else 1
theorem de_no {l k : Int} {ws : List Wf} {x : Nat → Int} (h : okX l k ws = false ∨ okD l x = false) : deV l k ws x = (0, false) ∧ deC l k ws x = 1 := by
  have hn : ¬ (okX l k ws = true ∧ okD l x = true) := fun e => by rcases h with h | h <;> simp [h] at e
  exact ⟨if_neg hn, if_neg hn⟩
theorem de_none {l k : Int} {ws : List Wf} {x : Nat → Int} (h : okX l k ws = true) (h2 : okD l x = true) (h3 : fcQ ws (upC k true ws.length) (wordV x) = none) : deV l k ws x = (0, false) ∧ deC l k ws x = 6 := by
  unfold deV deC; rw [if_pos ⟨h, h2⟩, if_pos ⟨h, h2⟩, h3]; exact ⟨rfl, rfl⟩
theorem de_some {l k : Int} {ws : List Wf} {x : Nat → Int} {q : Cs} (h : okX l k ws = true) (h2 : okD l x = true) (h3 : fcQ ws (upC k true ws.length) (wordV x) = some q) : deV l k ws x = q ∧ deC l k ws x = 0 := by
  unfold deV deC; rw [if_pos ⟨h, h2⟩, if_pos ⟨h, h2⟩, h3]; exact ⟨rfl, rfl⟩
theorem ten6 {a0 a1 a2 a3 a4 a5 b0 b1 b2 b3 : Value} {w : World} {p q : Nat} {t u : TypeId} (h : Blk w p #[a0, a1, a2, a3, a4, a5] t) (h2 : Blk w q #[b0, b1, b2, b3] u) :
    w.cell? ⟨p, 0, none⟩ = some a0 ∧ w.cell? ⟨p, 1, none⟩ = some a1 ∧ w.cell? ⟨p, 2, none⟩ = some a2 ∧ w.cell? ⟨p, 3, none⟩ = some a3 ∧ w.cell? ⟨p, 4, none⟩ = some a4 ∧ w.cell? ⟨p, 5, none⟩ = some a5 ∧ w.cell? ⟨q, 0, none⟩ = some b0 ∧ w.cell? ⟨q, 1, none⟩ = some b1 ∧ w.cell? ⟨q, 2, none⟩ = some b2 ∧ w.cell? ⟨q, 3, none⟩ = some b3 :=
  ⟨h.cell 0, h.cell 1, h.cell 2, h.cell 3, h.cell 4, h.cell 5, h2.cell 0, h2.cell 1, h2.cell 2, h2.cell 3⟩
theorem FR.st2 {w0 w : World} {b : Nat} {z0 z1 v0 v1 : Value} {t : TypeId} {L : List (Nat × Array Value × TypeId)} (h : FR w0 ((b, #[z0, z1], t) :: L) w) :
    FR w0 ((b, #[v0, v1], t) :: L) ((w.setCell ⟨b, 0, none⟩ v0).setCell ⟨b, 1, none⟩ v1) :=
  (h.setTop 0 v0).setTop 1 v1
end Go.Proofs.Ytieghjpecoiodaa
