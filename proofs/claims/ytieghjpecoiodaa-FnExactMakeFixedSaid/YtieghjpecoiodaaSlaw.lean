/-
  What is common to the laws of functions whose answers are slices.
-/
import Derived.Test.YtieghjpecoiodaaOwn
namespace Go.Proofs.Ytieghjpecoiodaa
open Go.RowKit

theorem Calls.emptyOf {P : Program} {f : FuncId} {args : Array Value} {w : World} {k : IntKind} {B : Nat} {xs : List Int} {c : Int}
    (h : Calls P f args w fun e w' => ∃ v, e = .returned (.tuple #[v, .int .i64 c]) ∧ OwnV k B w' v xs ∧ Below w.heap.size w w') (hx : xs = []) :
    Calls P f args w fun e w' => ∃ a n, e = .returned (.tuple #[.slice a 0 n, .int .i64 c]) ∧ Below w.heap.size w w' := by
  subst hx
  refine h.mono fun e w' ⟨v, he, ho, hb⟩ => ?_
  rcases ho with ⟨_, a, n, rfl⟩ | ⟨b, n, rfl, _⟩
  · exact ⟨a, n, he, hb⟩
  · exact ⟨_, n, he, hb⟩
theorem Calls.fullOf {P : Program} {f : FuncId} {args : Array Value} {w : World} {k : IntKind} {B : Nat} {xs : List Int} {c : Int}
    (h : Calls P f args w fun e w' => ∃ v, e = .returned (.tuple #[v, .int .i64 c]) ∧ OwnV k B w' v xs ∧ Below w.heap.size w w') (hx : ¬ xs = []) :
    Calls P f args w fun e w' => ∃ b n, e = .returned (.tuple #[.slice (some ⟨b, 0, none⟩) xs.length n, .int .i64 c]) ∧ (B ≤ b ∧ b < w'.heap.size ∧ At k w' b 0 xs ∧ ∀ j, w'.frozen? ⟨b, j, none⟩ = false) ∧ Below w.heap.size w w' := by
  refine h.mono fun e w' ⟨v, he, ho, hb⟩ => ?_
  rcases ho with ⟨h0, _⟩ | ⟨b, n, rfl, h1⟩
  · exact absurd h0 hx
  · exact ⟨b, n, he, h1, hb⟩
theorem frozen_below {w w' : World} {b B : Nat} (h : ∀ j, w.frozen? ⟨b, j, none⟩ = false) (hb : Below B w w') (hB : b < B) : ∀ j, w'.frozen? ⟨b, j, none⟩ = false := fun j => by
  rw [hb.frozen (p := ⟨b, j, none⟩) hB]; exact h j
theorem MarkedAt.only {k : IntKind} {w w' : World} {b n b' : Nat} (h : MarkedAt k w b n) (ho : Only b' w w') (hne : b ≠ b') : MarkedAt k w' b n := fun j hj =>
  (World.cell?_of_block (w := w) (a := ⟨b, j, none⟩) (ho.block b hne)).trans (h j hj)
end Go.Proofs.Ytieghjpecoiodaa
