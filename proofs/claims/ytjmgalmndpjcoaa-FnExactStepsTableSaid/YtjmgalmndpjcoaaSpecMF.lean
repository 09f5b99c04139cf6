/-
  The walk of MovesFrom's model.
-/
import Derived.Test.YtjmgalmndpjcoaaMovesFrom
import Derived.Deep.AppendLies
namespace Go.Proofs.Ytjmgalmndpjcoaa
open Go.RowKit
set_option maxRecDepth 100000
set_option linter.unusedVariables false

theorem ownsRow_below {w w' : World} {base : Nat} {e : TypeId} {size : Nat} {v : Value} {n : Nat} {xs : List Value} (h : w.ownsRow base e size v n xs) (hb : Below w.heap.size w w') : w'.ownsRow base e size v n xs := by
  refine ⟨h.1, ?_⟩
  rcases h.2 with hn | ⟨g, cap, cur, rfl, hB, hg, rest⟩
  · exact .inl hn
  · exact .inr ⟨g, cap, cur, rfl, hB, (hb.block g (Array.getElem?_eq_some_iff.1 hg).1).trans hg, rest⟩
theorem below_set4 {B : Nat} {w W : World} {v0 v1 v2 v3 : Value} (h : Below B w W) : Below B w ((((W.setCell ⟨B, 0, none⟩ v0).setCell ⟨B, 1, none⟩ v1).setCell ⟨B, 2, none⟩ v2).setCell ⟨B, 3, none⟩ v3) :=
  (((h.setCell (Nat.le_refl B) v0).setCell (Nat.le_refl B) v1).setCell (Nat.le_refl B) v2).setCell (Nat.le_refl B) v3
/-- What the loop of the model keeps. -/
structure SfK (b off c : Nat) (J : List Int) (x y : Nat → Int) (t : Bool) (gl : Nat) (ms : List Mv) (w wr : World) : Prop where
  b0 : Blk wr w.heap.size #[.slice (some ⟨b, off, none⟩) J.length c, .int .i16 (x 0), .int .i16 (x 1), .int .i16 (x 2), .int .i16 (x 3), .bool t] 32
  b1 : Blk wr (w.heap.size + 1) #[.int .i16 (y 0), .int .i16 (y 1), .int .i16 (y 2), .int .i16 (y 3)] 30
  bel : Below w.heap.size w wr
  li : MAt wr gl 0 ms
  ll : gl < wr.heap.size
theorem SfK.below {b off c : Nat} {J : List Int} {x y : Nat → Int} {t : Bool} {gl : Nat} {ms : List Mv} {w wr w' : World} (h : SfK b off c J x y t gl ms w wr) (hb : Below wr.heap.size wr w') : SfK b off c J x y t gl ms w w' :=
  ⟨h.b0.below hb h.b0.lt, h.b1.below hb h.b1.lt, h.bel.trans (hb.mono h.bel.size), h.li.below hb h.ll, Nat.lt_of_lt_of_le h.ll hb.size⟩
theorem SfK.grown {b off c : Nat} {J : List Int} {x y : Nat → Int} {t : Bool} {gl : Nat} {ms : List Mv} {w wr w' : World} {row : Option Nat} (h : SfK b off c J x y t gl ms w wr) (hg : wr.grownBy w' row) (h1 : ∀ k, row = some k → w.heap.size + 1 + 1 ≤ k) (h2 : row ≠ some gl) : SfK b off c J x y t gl ms w w' := by
  have q0 : some w.heap.size ≠ row := fun e => by have := h1 _ e.symm; omega
  have q1 : some (w.heap.size + 1) ≠ row := fun e => by have := h1 _ e.symm; omega
  have fb : ∀ q, wr.cell? ⟨gl, q, none⟩ = w'.cell? ⟨gl, q, none⟩ := fun q => (hg.cell_far ⟨gl, q, none⟩ h.ll (fun e => h2 e.symm)).symm
  refine ⟨(hg.block _ h.b0.lt q0).trans h.b0, (hg.block _ h.b1.lt q1).trans h.b1, h.bel.grown hg h.bel.size (fun k e => by have := h1 _ e; omega), fun j hj => ?_, Nat.lt_of_lt_of_le h.ll hg.size⟩
  rw [← fb, ← fb, ← fb]
  exact h.li j hj
end Go.Proofs.Ytjmgalmndpjcoaa
