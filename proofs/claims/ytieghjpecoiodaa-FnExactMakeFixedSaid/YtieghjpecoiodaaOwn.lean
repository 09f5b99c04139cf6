/-
  Slices that a call has made: what they hold, and what marking and comparing do with them.
-/
import Derived.Test.YtieghjpecoiodaaLaw
namespace Go.Proofs.Ytieghjpecoiodaa
open Go.RowKit

/-- A slice that a call has made, in blocks from B on, with these numbers. -/
def OwnV (k : IntKind) (B : Nat) (w : World) (v : Value) (xs : List Int) : Prop :=
  (xs = [] ∧ ∃ a c, v = .slice a 0 c) ∨ ∃ b c, v = .slice (some ⟨b, 0, none⟩) xs.length c ∧ B ≤ b ∧ b < w.heap.size ∧ At k w b 0 xs ∧ ∀ j, w.frozen? ⟨b, j, none⟩ = false
theorem OwnV.nil (k : IntKind) (B : Nat) (w : World) (a : Option Addr) (c : Nat) : OwnV k B w (.slice a 0 c) [] := .inl ⟨rfl, a, c, rfl⟩
theorem OwnV.row {k : IntKind} {t : TypeId} {B : Nat} {w : World} {b c : Nat} {xs : List Int} (h : RowOf k t w b xs) (hB : B ≤ b) : OwnV k B w (.slice (some ⟨b, 0, none⟩) xs.length c) xs :=
  .inr ⟨b, c, rfl, hB, h.lt, h.at, fun j => World.rowIs.frozen h j⟩
theorem OwnV.below {k : IntKind} {B C : Nat} {w w' : World} {v : Value} {xs : List Int} (h : OwnV k B w v xs) (hb : Below C w w') (hC : w.heap.size ≤ C) : OwnV k B w' v xs := by
  rcases h with h | ⟨b, c, rfl, h1, h2, h3, h4⟩
  · exact .inl h
  · refine .inr ⟨b, c, rfl, h1, Nat.lt_of_lt_of_le h2 hb.size, h3.below hb (by omega), fun j => ?_⟩
    rw [hb.frozen (p := ⟨b, j, none⟩) (by show b < C; omega)]; exact h4 j
theorem OwnV.mono {k : IntKind} {B B' : Nat} {w : World} {v : Value} {xs : List Int} (h : OwnV k B w v xs) (hB : B' ≤ B) : OwnV k B' w v xs := by
  rcases h with h | ⟨b, c, h0, h1, h2⟩
  · exact .inl h
  · exact .inr ⟨b, c, h0, by omega, h2⟩
theorem OwnV.ofOwns {k : IntKind} {t : TypeId} {B n : Nat} {w : World} {v : Value} {xs : List Int} (hn : n = xs.length) (h : w.ownsRow B t 1 v n (xs.map (Value.int k))) : OwnV k B w v xs := by
  subst hn
  rcases h.2 with ⟨hv, hx⟩ | ⟨g, cap, cur, hv, hB, hg, hnc, _, hs, htake⟩
  · left
    have : xs = [] := by simpa using hx
    subst this
    exact ⟨rfl, none, 0, hv⟩
  · right
    have hlt : g < w.heap.size := by
      obtain ⟨hlt, _⟩ := Array.getElem?_eq_some_iff.1 hg; exact hlt
    refine ⟨g, cap, hv, hB, hlt, fun j hj => ?_, fun j => ?_⟩
    · have h1 : (cur.toList.take (xs.length * 1))[j]? = (xs.map (Value.int k))[j]? := by rw [htake]
      rw [Nat.mul_one, List.getElem?_take_of_lt hj, List.getElem?_map, List.getElem?_eq_getElem hj] at h1
      simp only [Option.map_some] at h1
      have h2 : cur[j]? = some (.int k xs[j]) := by simpa using h1
      rw [Nat.zero_add]
      simp [World.cell?, hg, h2, List.getD_eq_getElem?_getD, List.getElem?_eq_getElem hj]
    · simp [World.frozen?, hg]

/-- The first n cells of block b are marked. -/
def MarkedAt (k : IntKind) (w : World) (b n : Nat) : Prop := ∀ j, j < n → w.cell? ⟨b, j, none⟩ = some (.int k (marked k j))
theorem MarkedAt.below {k : IntKind} {w w' : World} {b n B : Nat} (h : MarkedAt k w b n) (hb : Below B w w') (hB : b < B) : MarkedAt k w' b n := fun j hj => (hb.cell (p := ⟨b, j, none⟩) hB).trans (h j hj)

end Go.Proofs.Ytieghjpecoiodaa
