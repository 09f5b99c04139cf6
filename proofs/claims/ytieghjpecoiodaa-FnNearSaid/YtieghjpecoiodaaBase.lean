/-
  Basis of the proofs: lists of numbers in memory, sums, and the small helpers of the laws (copying, comparing, marking).
-/
import Derived.Test.YtieghjpecoiodaaProg
import Derived.WalkKit
import Derived.Deep.OwnRows
import Derived.Deep.QuietTactic
import Derived.BigQuiet
import Derived.WalkLawsBesides
import Derived.WalkSpells
import Derived.IntWalk
import Derived.Lib.Hide
import Derived.Outline
namespace Go.Proofs.Ytieghjpecoiodaa
open Go.RowKit

/-- The cells from 'off' on in block b hold these numbers. -/
def At (k : IntKind) (w : World) (b off : Nat) (xs : List Int) : Prop := ∀ j, j < xs.length → w.cell? ⟨b, off + j, none⟩ = some (.int k (xs.getD j 0))
/-- Block b is a row of its own with these numbers. -/
def RowOf (k : IntKind) (t : TypeId) (w : World) (b : Nat) (xs : List Int) : Prop := w.rowIs b t xs.length (fun j => .int k (xs.getD j 0))
theorem RowOf.at {k : IntKind} {t : TypeId} {w : World} {b : Nat} {xs : List Int} (h : RowOf k t w b xs) : At k w b 0 xs := fun j hj => by
  have := World.rowIs.cell h hj
  simpa using this
theorem RowOf.lt {k : IntKind} {t : TypeId} {w : World} {b : Nat} {xs : List Int} (h : RowOf k t w b xs) : b < w.heap.size := World.rowIs.lt h
theorem RowOf.below {k : IntKind} {t : TypeId} {w w' : World} {b B : Nat} {xs : List Int} (h : RowOf k t w b xs) (hb : Below B w w') (hB : b < B) : RowOf k t w' b xs := World.rowIs.of_block h (hb.block b hB)
theorem At.below {k : IntKind} {w w' : World} {b off B : Nat} {xs : List Int} (h : At k w b off xs) (hb : Below B w w') (hB : b < B) : At k w' b off xs := fun j hj => (hb.cell (p := ⟨b, off + j, none⟩) hB).trans (h j hj)
/-- The call has only drawn. -/
def Dr (w w' : World) : Prop := ∃ q, w' = w.drewN q
theorem Dr.refl (w : World) : Dr w w := ⟨0, rfl⟩
theorem Dr.of (w : World) (q : Nat) : Dr w (w.drewN q) := ⟨q, rfl⟩
theorem Dr.below {w w' : World} (h : Dr w w') : Below w.heap.size w w' := by obtain ⟨q, rfl⟩ := h; exact below_drewN (Below.refl _ _) q
theorem retb {a b : Bool} (h : a = b) : Ending.returned (.bool a) = .returned (.bool b) := by rw [h]
theorem reti {k : IntKind} {a b : Int} (h : a = b) : Ending.returned (.int k a) = .returned (.int k b) := by rw [h]
theorem ret2 {k : IntKind} {a b : Int} {v u : Value} (h : a = b) (h2 : v = u) : Ending.returned (.tuple #[.int k a, v]) = .returned (.tuple #[.int k b, u]) := by rw [h, h2]
theorem take_getD (xs : List Int) (k : Nat) (hk : k < xs.length) : xs.take (k + 1) = xs.take k ++ [xs.getD k 0] := by
  rw [List.take_add_one, List.getElem?_eq_getElem hk]; simp [List.getD_eq_getElem?_getD, List.getElem?_eq_getElem hk]


theorem Try.info_toPlacing : (Try.prog.info? 24).map (fun i => (i.zero, i.size, i.bytes)) = some (some (.int .i8 0), 1, 1) := by kernel_rfl
theorem Try.info_toInt8S : (Try.prog.info? 24).map (fun i => (i.zero, i.size, i.bytes)) = some (some (.int .i8 0), 1, 1) := by kernel_rfl
theorem Try.info_toByteS : (Try.prog.info? 5).map (fun i => (i.zero, i.size, i.bytes)) = some (some (.int .u8 0), 1, 1) := by kernel_rfl
/-- What the laws write into the place j. -/
def marked (k : IntKind) (j : Nat) : Int := k.wrap ((j : Int) + 1)
theorem marked_def (k : IntKind) (j : Nat) : marked k j = k.wrap ((j : Int) + 1) := rfl
/-- Nothing has changed but block b. -/
structure Only (b : Nat) (w w' : World) : Prop where
  os : w'.os = w.os
  tape : w'.tape = w.tape
  output : w'.output = w.output
  size : w'.heap.size = w.heap.size
  block : ∀ k, k ≠ b → w'.heap[k]? = w.heap[k]?
theorem Only.refl (b : Nat) (w : World) : Only b w w := ⟨rfl, rfl, rfl, rfl, fun _ _ => rfl⟩
theorem Only.setCell {b : Nat} {w w' : World} (h : Only b w w') (o : Nat) (v : Value) : Only b w (w'.setCell ⟨b, o, none⟩ v) :=
  ⟨h.os, h.tape, h.output, by rw [← h.size]; simp, fun k hk => (Below.heap_setCell w' ⟨b, o, none⟩ v k hk).trans (h.block k hk)⟩
theorem Only.below {b B : Nat} {a w w' : World} (hb : Below B a w) (h : Only b w w') (hB : B ≤ b) : Below B a w' :=
  hb.trans ⟨h.os, h.tape, h.output, by rw [h.size]; exact Nat.le_refl _, fun k hk => h.block k (by omega)⟩
theorem Only.rowOf {b : Nat} {w w' : World} (h : Only b w w') {k : IntKind} {t : TypeId} {b' : Nat} {xs : List Int} (hr : RowOf k t w b' xs) (hne : b' ≠ b) : RowOf k t w' b' xs := World.rowIs.of_block hr (h.block b' hne)
theorem Only.at {b : Nat} {w w' : World} (h : Only b w w') {k : IntKind} {b' off : Nat} {xs : List Int} (hr : At k w b' off xs) (hne : b' ≠ b) : At k w' b' off xs := fun j hj => (World.cell?_of_block (w := w) (a := ⟨b', off + j, none⟩) (h.block b' hne)).trans (hr j hj)

end Go.Proofs.Ytieghjpecoiodaa
