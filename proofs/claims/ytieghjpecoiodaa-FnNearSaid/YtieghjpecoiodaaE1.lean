/-
  Lists of words and fixed plans: as they come in, copied, and compared.
-/
import Derived.Test.YtieghjpecoiodaaD1
import Derived.Deep.Slices
import Derived.StillTailTactics
import Derived.Deep.DeepCutAuto
namespace Go.Proofs.Ytieghjpecoiodaa
open Go.RowKit Go.ChangeShapes Go.WideShapes
set_option maxRecDepth 100000
set_option linter.unusedVariables false

abbrev Wf := Nat → Int
/-- The i-th word of a list. -/
def wI (ws : List Wf) (i : Nat) : Wf := ws.getD i (fun _ => 0)
/-- The words of a list lie in block b from off on. -/
def WAt (w : World) (b off : Nat) (ws : List Wf) : Prop := ∀ j, j < ws.length → ∀ i, i < 4 → w.cell? ⟨b, off + j * 4 + i, none⟩ = some (.int .i8 (wI ws j i))
theorem WAt.below {w w' : World} {b off B : Nat} {ws : List Wf} (h : WAt w b off ws) (hb : Below B w w') (hB : b < B) : WAt w' b off ws := fun j hj i hi => (hb.cell (p := ⟨b, off + j * 4 + i, none⟩) hB).trans (h j hj i hi)
theorem WAt.four {w : World} {b off : Nat} {ws : List Wf} (h : WAt w b off ws) (j : Nat) (hj : j < ws.length) :
    w.cell? ⟨b, off + j * 4, none⟩ = some (.int .i8 (wI ws j 0)) ∧ w.cell? ⟨b, off + j * 4 + 1, none⟩ = some (.int .i8 (wI ws j 1)) ∧ w.cell? ⟨b, off + j * 4 + 2, none⟩ = some (.int .i8 (wI ws j 2)) ∧ w.cell? ⟨b, off + j * 4 + 3, none⟩ = some (.int .i8 (wI ws j 3)) :=
  ⟨h j hj 0 (by decide), h j hj 1 (by decide), h j hj 2 (by decide), h j hj 3 (by decide)⟩
/-- A slice of words that came in: nothing is known of one without words. -/
def Slw (B : Nat) (w : World) (a : Option Addr) (ws : List Wf) : Prop := ws = [] ∨ ∃ b off, a = some ⟨b, off, none⟩ ∧ b < B ∧ WAt w b off ws
theorem Slw.below {B : Nat} {w w' : World} {a : Option Addr} {ws : List Wf} (h : Slw B w a ws) (hb : Below B w w') : Slw B w' a ws := by
  rcases h with h | ⟨b, off, e, hB, hc⟩
  · exact .inl h
  · exact .inr ⟨b, off, e, hB, hc.below hb hB⟩
def Wall (ws : List Wf) : Prop := ∀ j, W4 (wI ws j)
abbrev fixV (l k : Int) (a : Option Addr) (n c : Nat) : Value := .agg #[.int .i8 l, .int .i8 k, .slice a n c]
/-- The cells of a list of words. -/
def wcell (ws : List Wf) (i : Nat) : Value := .int .i8 (wI ws (i / 4) (i % 4))
def wcells (ws : List Wf) : Array Value := Array.ofFn (n := ws.length * 4) (fun i => wcell ws i)
theorem wcell_at (ws : List Wf) (j i : Nat) (h : i < 4) : wcell ws (j * 4 + i) = .int .i8 (wI ws j i) := by
  unfold wcell
  rw [show (j * 4 + i) / 4 = j by omega, show (j * 4 + i) % 4 = i by omega]
theorem wcells_get (ws : List Wf) (i : Nat) (h : i < ws.length * 4) : (wcells ws)[i]? = some (wcell ws i) := by
  unfold wcells
  rw [Array.getElem?_ofFn, dif_pos h]
theorem Blk.words {w : World} {b : Nat} {t : TypeId} {ws : List Wf} (h : Blk w b (wcells ws) t) : WAt w b 0 ws := fun j hj i hi => by
  rw [h.cell, Nat.zero_add, wcells_get _ _ (by omega), wcell_at _ _ _ hi]
theorem blk_of_row {w : World} {b : Nat} {t : TypeId} {ws : List Wf} (h : w.rowIs b t (ws.length * 4) (wcell ws)) : Blk w b (wcells ws) t := by
  obtain ⟨c, hc, hs, hf⟩ := h
  have e : c = wcells ws := by
    apply Array.ext
    · rw [hs]; simp [wcells]
    · intro i h1 h2
      have := hf i (by omega)
      have h3 := wcells_get ws i (by omega)
      rw [Array.getElem?_eq_getElem h1] at this
      rw [Array.getElem?_eq_getElem h2] at h3
      exact Option.some.inj (this.trans h3.symm)
  subst e
  exact hc
section
variable {H : Type} {enc : TypeId × Value → H} {w : World} {base : Nat} {r : Reach} {b0 : Nat}
theorem zero_W4 : W4 (fun _ => 0) := fun i _ => by show -128 ≤ (0 : Int) ∧ (0 : Int) ≤ 127; omega
theorem e1_mark : True := trivial
end
end Go.Proofs.Ytieghjpecoiodaa
