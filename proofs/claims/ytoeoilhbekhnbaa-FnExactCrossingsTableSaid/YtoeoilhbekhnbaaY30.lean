/-
  The model's search in memory.
-/
import Derived.Test.YtoeoilhbekhnbaaY29
import Derived.Test.YtoeoilhbekhnbaaY26
import Derived.Deep.DeepCutAuto
import Derived.Deep.RegionHeld3
import Derived.BigRegion
namespace Go.Proofs.Ytoeoilhbekhnbaa
open Go.RowKit
set_option maxRecDepth 100000
set_option linter.unusedVariables false

/-- The cells of a row of numbers. -/
def ncells (k : IntKind) (xs : List Int) : Array Value := Array.ofFn (n := xs.length) (fun i => .int k (xs.getD i 0))
theorem ncells_size (k : IntKind) (xs : List Int) : (ncells k xs).size = xs.length := by simp [ncells]
theorem ncells_get (k : IntKind) (xs : List Int) (i : Nat) (h : i < xs.length) : (ncells k xs)[i]? = some (.int k (xs.getD i 0)) := by
  unfold ncells
  rw [Array.getElem?_ofFn, dif_pos h]
theorem ncells_set (k : IntKind) (xs : List Int) (i : Nat) (v : Int) (h : i < xs.length) : (ncells k xs).setIfInBounds i (.int k v) = ncells k (xs.set i v) := by
  apply Array.ext
  · simp [ncells]
  · intro j h1 h2
    have e1 := ncells_get k (xs.set i v) j (by rw [ncells_size] at h2; exact h2)
    rw [Array.getElem?_eq_getElem h2] at e1
    have hj : j < (ncells k xs).size := by rw [ncells_size]; rw [ncells_size, List.length_set] at h2; exact h2
    have e2 := ncells_get k xs j (by rw [ncells_size] at hj; exact hj)
    rw [Array.getElem?_eq_getElem hj] at e2
    rw [Option.some.inj e1, getD_set _ _ _ _ h, Array.getElem_setIfInBounds hj]
    by_cases e : i = j
    · subst e; rw [if_pos rfl, if_pos rfl]
    · rw [if_neg e, if_neg (fun q => e q.symm)]
      exact Option.some.inj e2
theorem made_ncells (k : IntKind) (z : Int) (n : Nat) : madeCells #[Value.int k z] n = ncells k (List.replicate n z) := by
  apply Array.ext
  · simp [ncells, madeCells]
  · intro j h1 h2
    have hj : j < (List.replicate n z).length := by rw [ncells_size] at h2; exact h2
    have e1 := ncells_get k (List.replicate n z) j hj
    rw [Array.getElem?_eq_getElem h2] at e1
    rw [Option.some.inj e1]
    have hn : j < n := by simpa using hj
    simp [madeCells, List.getD_eq_getElem?_getD, hn, Nat.mod_one]
/-- The blocks of a search. -/
structure Five (S T Y Z U : Nat) : Prop where
  h1 : S ≠ T
  h2 : S ≠ Y
  h3 : S ≠ Z
  h4 : S ≠ U
  h5 : T ≠ Y
  h6 : T ≠ Z
  h7 : T ≠ U
  h8 : Y ≠ Z
  h9 : Y ≠ U
  h10 : Z ≠ U
/-- A search in memory. -/
structure Mem (w0 : World) (S T Y Z U N : Nat) (s : St) (w : World) : Prop where
  below : Below w0.heap.size w0 w
  five : Five S T Y Z U
  lo : w0.heap.size ≤ S ∧ w0.heap.size ≤ T ∧ w0.heap.size ≤ Y ∧ w0.heap.size ≤ Z ∧ w0.heap.size ≤ U
  bS : Blk w S #[.slice (some ⟨T, 0, none⟩) N N, .slice (some ⟨Y, 0, none⟩) N N, .slice (some ⟨Z, 0, none⟩) N N, .slice (some ⟨U, 0, none⟩) N N] 52
  bT : Blk w T (ncells .i16 s.tb) 58
  bY : Blk w Y (ncells .i64 s.wy) 2
  bZ : Blk w Z (ncells .i64 s.fr) 2
  bU : Blk w U (ncells .u16 s.by') 62
theorem Mem.next {w0 w w' : World} {S T Y Z U N : Nat} {s : St} (h : Mem w0 S T Y Z U N s w) (hb : Below w.heap.size w w') : Mem w0 S T Y Z U N s w' :=
  ⟨h.below.trans (hb.mono h.below.size), h.five, h.lo, h.bS.below hb h.bS.lt, h.bT.below hb h.bT.lt, h.bY.below hb h.bY.lt, h.bZ.below hb h.bZ.lt, h.bU.below hb h.bU.lt⟩
theorem Mem.setT {w0 w : World} {S T Y Z U N : Nat} {s : St} (h : Mem w0 S T Y Z U N s w) {i : Nat} (hi : i < s.tb.length) (v : Int) : Mem w0 S T Y Z U N { s with tb := s.tb.set i v } (w.setCell ⟨T, i, none⟩ (.int .i16 v)) :=
  ⟨h.below.setCell h.lo.2.1 _, h.five, h.lo, h.bS.setOther h.five.h1 _ _, by have := h.bT.set i (.int .i16 v); rwa [ncells_set _ _ _ _ hi] at this, h.bY.setOther h.five.h5.symm _ _, h.bZ.setOther h.five.h6.symm _ _, h.bU.setOther h.five.h7.symm _ _⟩
theorem Mem.setY {w0 w : World} {S T Y Z U N : Nat} {s : St} (h : Mem w0 S T Y Z U N s w) {i : Nat} (hi : i < s.wy.length) (v : Int) : Mem w0 S T Y Z U N { s with wy := s.wy.set i v } (w.setCell ⟨Y, i, none⟩ (.int .i64 v)) :=
  ⟨h.below.setCell h.lo.2.2.1 _, h.five, h.lo, h.bS.setOther h.five.h2 _ _, h.bT.setOther h.five.h5 _ _, by have := h.bY.set i (.int .i64 v); rwa [ncells_set _ _ _ _ hi] at this, h.bZ.setOther h.five.h8.symm _ _, h.bU.setOther h.five.h9.symm _ _⟩
theorem Mem.setZ {w0 w : World} {S T Y Z U N : Nat} {s : St} (h : Mem w0 S T Y Z U N s w) {i : Nat} (hi : i < s.fr.length) (v : Int) : Mem w0 S T Y Z U N { s with fr := s.fr.set i v } (w.setCell ⟨Z, i, none⟩ (.int .i64 v)) :=
  ⟨h.below.setCell h.lo.2.2.2.1 _, h.five, h.lo, h.bS.setOther h.five.h3 _ _, h.bT.setOther h.five.h6 _ _, h.bY.setOther h.five.h8 _ _, by have := h.bZ.set i (.int .i64 v); rwa [ncells_set _ _ _ _ hi] at this, h.bU.setOther h.five.h10.symm _ _⟩
theorem Mem.setU {w0 w : World} {S T Y Z U N : Nat} {s : St} (h : Mem w0 S T Y Z U N s w) {i : Nat} (hi : i < s.by'.length) (v : Int) : Mem w0 S T Y Z U N { s with by' := s.by'.set i v } (w.setCell ⟨U, i, none⟩ (.int .u16 v)) :=
  ⟨h.below.setCell h.lo.2.2.2.2 _, h.five, h.lo, h.bS.setOther h.five.h4 _ _, h.bT.setOther h.five.h7 _ _, h.bY.setOther h.five.h9 _ _, h.bZ.setOther h.five.h10 _ _, by have := h.bU.set i (.int .u16 v); rwa [ncells_set _ _ _ _ hi] at this⟩
end Go.Proofs.Ytoeoilhbekhnbaa
