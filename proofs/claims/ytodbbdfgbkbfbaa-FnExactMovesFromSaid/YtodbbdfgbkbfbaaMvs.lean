/-
  Lists of moves: as they come in, copied, and compared.
-/
import Derived.Test.YtodbbdfgbkbfbaaMvLaw
import Derived.Deep.Slices
import Derived.StillTailTactics
namespace Go.Proofs.Ytodbbdfgbkbfbaa
open Go.RowKit Go.ChangeShapes Go.WideShapes
set_option maxRecDepth 100000
set_option linter.unusedVariables false

/-- A move as three numbers. -/
abbrev Mv := Int × Int × Int
def mk3 (m : Mv) : Int := m.1
/-- The i-th move of a list. -/
def mvI (ms : List Mv) (i : Nat) : Mv := ms.getD i (0, 0, 0)
/-- The moves of a list lie in block b from off on. -/
def MAt (w : World) (b off : Nat) (ms : List Mv) : Prop := ∀ j, j < ms.length → w.cell? ⟨b, off + j * 3, none⟩ = some (.int .i8 (mvI ms j).1) ∧ w.cell? ⟨b, off + j * 3 + 1, none⟩ = some (.int .i8 (mvI ms j).2.1) ∧ w.cell? ⟨b, off + j * 3 + 2, none⟩ = some (.int .i8 (mvI ms j).2.2)
theorem MAt.below {w w' : World} {b off B : Nat} {ms : List Mv} (h : MAt w b off ms) (hb : Below B w w') (hB : b < B) : MAt w' b off ms := fun j hj =>
  ⟨(hb.cell (p := ⟨b, off + j * 3, none⟩) hB).trans (h j hj).1, (hb.cell (p := ⟨b, off + j * 3 + 1, none⟩) hB).trans (h j hj).2.1, (hb.cell (p := ⟨b, off + j * 3 + 2, none⟩) hB).trans (h j hj).2.2⟩
/-- A slice of moves that came in: nothing is known of one without moves. -/
def Slm (B : Nat) (w : World) (a : Option Addr) (ms : List Mv) : Prop := ms = [] ∨ ∃ b off, a = some ⟨b, off, none⟩ ∧ b < B ∧ MAt w b off ms
theorem Slm.below {B : Nat} {w w' : World} {a : Option Addr} {ms : List Mv} (h : Slm B w a ms) (hb : Below B w w') : Slm B w' a ms := by
  rcases h with h | ⟨b, off, e, hB, hc⟩
  · exact .inl h
  · exact .inr ⟨b, off, e, hB, hc.below hb hB⟩
def Mall (ms : List Mv) : Prop := ∀ j, M8 (mvI ms j).1 (mvI ms j).2.1 (mvI ms j).2.2
/-- The cells of a list of moves. -/
def mcell (ms : List Mv) (i : Nat) : Value := if i % 3 = 0 then .int .i8 (mvI ms (i / 3)).1 else if i % 3 = 1 then .int .i8 (mvI ms (i / 3)).2.1 else .int .i8 (mvI ms (i / 3)).2.2
def mcells (ms : List Mv) : Array Value := Array.ofFn (n := ms.length * 3) (fun i => mcell ms i)
theorem mcell_0 (ms : List Mv) (j : Nat) : mcell ms (j * 3) = .int .i8 (mvI ms j).1 := by
  unfold mcell; rw [if_pos (by omega), show j * 3 / 3 = j by omega]
theorem mcell_1 (ms : List Mv) (j : Nat) : mcell ms (j * 3 + 1) = .int .i8 (mvI ms j).2.1 := by
  unfold mcell; rw [if_neg (by omega), if_pos (by omega), show (j * 3 + 1) / 3 = j by omega]
theorem mcell_2 (ms : List Mv) (j : Nat) : mcell ms (j * 3 + 2) = .int .i8 (mvI ms j).2.2 := by
  unfold mcell; rw [if_neg (by omega), if_neg (by omega), show (j * 3 + 2) / 3 = j by omega]
theorem mcells_get (ms : List Mv) (i : Nat) (h : i < ms.length * 3) : (mcells ms)[i]? = some (mcell ms i) := by
  unfold mcells
  rw [Array.getElem?_ofFn, dif_pos h]
theorem Blk.moves {w : World} {b : Nat} {t : TypeId} {ms : List Mv} (h : Blk w b (mcells ms) t) : MAt w b 0 ms := fun j hj => by
  rw [h.cell, h.cell, h.cell, Nat.zero_add, mcells_get _ _ (by omega), mcells_get _ _ (by omega), mcells_get _ _ (by omega), mcell_0, mcell_1, mcell_2]
  exact ⟨rfl, rfl, rfl⟩
theorem blk_of_row {w : World} {b : Nat} {t : TypeId} {ms : List Mv} (h : w.rowIs b t (ms.length * 3) (mcell ms)) : Blk w b (mcells ms) t := by
  obtain ⟨c, hc, hs, hf⟩ := h
  have e : c = mcells ms := by
    apply Array.ext
    · rw [hs]; simp [mcells]
    · intro i h1 h2
      have := hf i (by omega)
      have h3 := mcells_get ms i (by omega)
      rw [Array.getElem?_eq_getElem h1] at this
      rw [Array.getElem?_eq_getElem h2] at h3
      exact Option.some.inj (this.trans h3.symm)
  subst e
  exact hc
section
variable {H : Type} {enc : TypeId × Value → H} {w : World} {base : Nat} {r : Reach} {b0 : Nat}
theorem move_cells {n : Nat} {cs : List Value} {y : DataW H × List MemPlace} (h : DataW.trod enc Try.prog w base (fun _ => true) true n 29 cs = some y) (hl : cs.length = 3) :
    ∃ m : Mv, cs = [.int .i8 m.1, .int .i8 m.2.1, .int .i8 m.2.2] ∧ M8 m.1 m.2.1 m.2.2 := by
  have hC1 : Try.prog.cellsOf 27 = 1 := by kernel_rfl
  obtain ⟨ys, n, _, _, _, hl2, hg⟩ := DataW.trod_struct Try.underlying29 h
  match cs, hl with
  | [c0, c1, c2], _ =>
  match ys, hl2 with
  | [y0, y1, y2], _ =>
    have h0 : DataW.trod enc Try.prog w base (fun _ => true) true n 27 (([c0, c1, c2].drop 0).take (Try.prog.cellsOf 27)) = some y0 := hg 0 _ rfl
    have h1 : DataW.trod enc Try.prog w base (fun _ => true) true n 27 (([c0, c1, c2].drop 1).take (Try.prog.cellsOf 27)) = some y1 := hg 1 _ rfl
    have h2 : DataW.trod enc Try.prog w base (fun _ => true) true n 27 (([c0, c1, c2].drop 2).take (Try.prog.cellsOf 27)) = some y2 := hg 2 _ rfl
    rw [hC1] at h0 h1 h2
    simp only [List.drop, List.take] at h0 h1 h2
    obtain ⟨a, e0, _, w0⟩ := DataW.trod_int Try.underlying27 h0
    obtain ⟨b, e1, _, w1⟩ := DataW.trod_int Try.underlying27 h1
    obtain ⟨c, e2, _, w2⟩ := DataW.trod_int Try.underlying27 h2
    simp only [List.cons.injEq, and_true] at e0 e1 e2
    subst e0 e1 e2
    exact ⟨(a, b, c), rfl, bounds_i8 w0, bounds_i8 w1, bounds_i8 w2⟩
theorem zero_M8 : M8 0 0 0 := ⟨by omega, by omega, by omega⟩
theorem open_moves {v : Value} {d : DataW H} {p : List MemPlace} (hv : Value.okWide Try.prog w r b0 43 v) (h : DataW.Trod enc Try.prog w base (fun _ => true) true 43 v d p) :
    ∃ a cap ms, v = .slice a (List.length ms) cap ∧ Slm w.heap.size w a ms ∧ Mall ms ∧ ms.length ≤ 9223372036854775807 := by
  obtain ⟨a, len, cap, rfl⟩ := okWide_slice Try.underlying43 hv
  obtain ⟨fuel, hf⟩ := h
  rcases Go.Deep.open_slice Try.underlying43 hf with ⟨e, _⟩ | ⟨x, l, c, m, n, D, Pl, e, _, hlc, hm, hmm, _, hx⟩
  · have e2 := List.cons.inj e |>.1
    cases e2
    exact ⟨none, 0, [], rfl, .inl rfl, fun j => by simpa [mvI] using zero_M8, by simp⟩
  · have e2 := List.cons.inj e |>.1
    cases e2
    have hC : Try.prog.cellsOf 29 = 3 := by kernel_rfl
    rw [hC] at hx
    have hlm : len ≤ m := by rw [hmm]; simpa using hlc
    have each : ∀ i, i < len → ∃ q : Mv, (w.cell? (x.add (i * 3)) = some (.int .i8 q.1) ∧ w.cell? ((x.add (i * 3)).add 1) = some (.int .i8 q.2.1) ∧ w.cell? ((x.add (i * 3)).add 2) = some (.int .i8 q.2.2)) ∧ M8 q.1 q.2.1 q.2.2 := by
      intro i hi
      obtain ⟨cs', h1, h2⟩ := hx i (by omega)
      obtain ⟨_, hlen, hcell⟩ := World.cells?_some h1
      obtain ⟨q, rfl, hq⟩ := move_cells h2 hlen
      have e0 := hcell 0 (by omega)
      have e1 := hcell 1 (by omega)
      have e2 := hcell 2 (by omega)
      exact ⟨q, ⟨by simpa [Addr.add] using e0, by simpa using e1, by simpa using e2⟩, hq⟩
    obtain ⟨q, hq⟩ := Go.Deep.choose_lt each
    refine ⟨some x, cap, (List.range len).map q, by simp, ?_, fun j => ?_, by simp; unfold maxLen at hm; omega⟩
    · by_cases h0 : len = 0
      · subst h0; exact .inl (by simp)
      · obtain ⟨b, off, spot⟩ := x
        have hc0 := (hq 0 (by omega)).1.1
        have hspot : spot = none := by simpa [Addr.add] using World.cell?_spot hc0
        subst hspot
        refine .inr ⟨b, off, rfl, ?_, fun j hj => ?_⟩
        · have := World.block_lt_of_cell? _ _ hc0; simpa [Addr.add] using this
        · simp at hj
          have h2 := (hq j hj).1
          have e1 : (⟨b, off, none⟩ : Addr).add (j * 3) = ⟨b, off + j * 3, none⟩ := Addr.add_lit _ _ _
          rw [e1, Addr.add_lit, Addr.add_lit] at h2
          have e2 : mvI ((List.range len).map q) j = q j := by simp [mvI, List.getD_eq_getElem?_getD, hj]
          rw [e2]
          exact h2
    · by_cases hj : j < len
      · have e2 : mvI ((List.range len).map q) j = q j := by simp [mvI, List.getD_eq_getElem?_getD, hj]
        rw [e2]
        exact (hq j hj).2
      · have e2 : mvI ((List.range len).map q) j = (0, 0, 0) := by simp [mvI, List.getD_eq_getElem?_getD, List.getElem?_eq_none (show (List.range len).length ≤ j by simp; omega)]
        rw [e2]
        exact zero_M8
end
end Go.Proofs.Ytodbbdfgbkbfbaa
