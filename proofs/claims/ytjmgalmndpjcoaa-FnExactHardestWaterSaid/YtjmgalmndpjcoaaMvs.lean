/-
  Lists of moves: as they come in, copied, and compared.
-/
import Derived.Test.YtjmgalmndpjcoaaMvLaw
import Derived.Deep.Slices
import Derived.StillTailTactics
namespace Go.Proofs.Ytjmgalmndpjcoaa
open Go.RowKit Go.ChangeShapes Go.WideShapes
set_option maxRecDepth 100000
set_option linter.unusedVariables false

/-- A move as three numbers. -/
abbrev Mv := Int × Int × Int
def mk3 (m : Mv) : Int := m.1
/-- The i-th move of a list. -/
def mvI (ms : List Mv) (i : Nat) : Mv := ms.getD i (0, 0, 0)
/-- The moves of a list lie in block b from off on. -/
def MAt (w : World) (b off : Nat) (ms : List Mv) : Prop := ∀ j, j < ms.length → w.cell? ⟨b, off + j * 3, none⟩ = some (.int .i8 (mvI ms j).1) ∧ w.cell? ⟨b, off + j * 3 + 1, none⟩ = some (.int .i8 (mvI ms j).2.1) ∧ w.cell? ⟨b, off + j * 3 + 2, none⟩ = some (.int .i8 (mvI ms j).2.2)
theorem MAt.below {w w' : World} {b off B : Nat} {ms : List Mv} (h : MAt w b off ms) (hb : Below B w w') (hB : b < B) : MAt w' b off ms := fun j hj =>
  ⟨(hb.cell (p := ⟨b, off + j * 3, none⟩) hB).trans (h j hj).1, (hb.cell (p := ⟨b, off + j * 3 + 1, none⟩) hB).trans (h j hj).2.1, (hb.cell (p := ⟨b, off + j * 3 + 2, none⟩) hB).trans (h j hj).2.2⟩
/-- A slice of moves that came in: nothing is known of one without moves. -/
def Slm (B : Nat) (w : World) (a : Option Addr) (ms : List Mv) : Prop := ms = [] ∨ ∃ b off, a = some ⟨b, off, none⟩ ∧ b < B ∧ MAt w b off ms
theorem Slm.below {B : Nat} {w w' : World} {a : Option Addr} {ms : List Mv} (h : Slm B w a ms) (hb : Below B w w') : Slm B w' a ms := by
  rcases h with h | ⟨b, off, e, hB, hc⟩
  · exact .inl h
  · exact .inr ⟨b, off, e, hB, hc.below hb hB⟩
def Mall (ms : List Mv) : Prop := ∀ j, M8 (mvI ms j).1 (mvI ms j).2.1 (mvI ms j).2.2
/-- The cells of a list of moves. -/
def mcell (ms : List Mv) (i : Nat) : Value := if i % 3 = 0 then .int .i8 (mvI ms (i / 3)).1 else if i % 3 = 1 then .int .i8 (mvI ms (i / 3)).2.1 else .int .i8 (mvI ms (i / 3)).2.2
def mcells (ms : List Mv) : Array Value := Array.ofFn (n := ms.length * 3) (fun i => mcell ms i)
theorem mcell_0 (ms : List Mv) (j : Nat) : mcell ms (j * 3) = .int .i8 (mvI ms j).1 := by
  unfold mcell; rw [if_pos (by omega), show j * 3 / 3 = j by omega]
theorem mcell_1 (ms : List Mv) (j : Nat) : mcell ms (j * 3 + 1) = .int .i8 (mvI ms j).2.1 := by
  unfold mcell; rw [if_neg (by omega), if_pos (by omega), show (j * 3 + 1) / 3 = j by omega]
theorem mcell_2 (ms : List Mv) (j : Nat) : mcell ms (j * 3 + 2) = .int .i8 (mvI ms j).2.2 := by
  unfold mcell; rw [if_neg (by omega), if_neg (by omega), show (j * 3 + 2) / 3 = j by omega]
theorem mcells_get (ms : List Mv) (i : Nat) (h : i < ms.length * 3) : (mcells ms)[i]? = some (mcell ms i) := by
  unfold mcells
  rw [Array.getElem?_ofFn, dif_pos h]
theorem Blk.moves {w : World} {b : Nat} {t : TypeId} {ms : List Mv} (h : Blk w b (mcells ms) t) : MAt w b 0 ms := fun j hj => by
  rw [h.cell, h.cell, h.cell, Nat.zero_add, mcells_get _ _ (by omega), mcells_get _ _ (by omega), mcells_get _ _ (by omega), mcell_0, mcell_1, mcell_2]
  exact ⟨rfl, rfl, rfl⟩
theorem blk_of_row {w : World} {b : Nat} {t : TypeId} {ms : List Mv} (h : w.rowIs b t (ms.length * 3) (mcell ms)) : Blk w b (mcells ms) t := by
  obtain ⟨c, hc, hs, hf⟩ := h
  have e : c = mcells ms := by
    apply Array.ext
    · rw [hs]; simp [mcells]
    · intro i h1 h2
      have := hf i (by omega)
      have h3 := mcells_get ms i (by omega)
      rw [Array.getElem?_eq_getElem h1] at this
      rw [Array.getElem?_eq_getElem h2] at h3
      exact Option.some.inj (this.trans h3.symm)
  subst e
  exact hc
section
variable {H : Type} {enc : TypeId × Value → H} {w : World} {base : Nat} {r : Reach} {b0 : Nat}
theorem zero_M8 : M8 0 0 0 := ⟨by omega, by omega, by omega⟩
end
end Go.Proofs.Ytjmgalmndpjcoaa
