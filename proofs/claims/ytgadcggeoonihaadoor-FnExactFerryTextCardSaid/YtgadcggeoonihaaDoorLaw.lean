/-
  What the laws are handed (a slice of numbers that came in), and the laws' own helpers in one form.
-/
import Derived.Test.YtgadcggeoonihaaDoorValid
namespace Go.Proofs.YtgadcggeoonihaaDoor
open Go.RowKit

/-- A slice that came in reads as these numbers; its cells lie below block B. -/
def Sl (k : IntKind) (B : Nat) (w : World) (a : Option Addr) (xs : List Int) : Prop :=
  xs = [] ∨ ∃ b off, a = some ⟨b, off, none⟩ ∧ b < B ∧ At k w b off xs
theorem Sl.below {k : IntKind} {B : Nat} {w w' : World} {a : Option Addr} {xs : List Int} (h : Sl k B w a xs) (hb : Below B w w') : Sl k B w' a xs := by
  rcases h with h | ⟨b, off, rfl, hB, hc⟩
  · exact .inl h
  · exact .inr ⟨b, off, rfl, hB, hc.below hb hB⟩
theorem sl_of {k : IntKind} {w : World} {a : Option Addr} {len cap : Nat} {zs : List Int}
    (h : (a = none ∧ len = 0 ∧ cap = 0 ∧ zs = []) ∨ ∃ x, a = some x ∧ len ≤ cap ∧ cap ≤ maxLen ∧ zs.length = cap ∧ (∀ i, i < zs.length → w.cell? (x.add i) = some (.int k (zs.getD i 0))) ∧ ∀ n ∈ zs, (Lit.int k n).wf = true) :
    ∃ xs : List Int, xs.length = len ∧ Sl k w.heap.size w a xs ∧ ∀ n ∈ xs, (Lit.int k n).wf = true := by
  rcases h with ⟨rfl, rfl, rfl, rfl⟩ | ⟨x, rfl, hl, hm, hz, hcell, hwf⟩
  · exact ⟨[], rfl, .inl rfl, fun n hn => by simp at hn⟩
  · refine ⟨zs.take len, by simp; omega, ?_, fun n hn => hwf n (List.mem_of_mem_take hn)⟩
    by_cases h0 : len = 0
    · subst h0; exact .inl (by simp)
    · obtain ⟨b, off, spot⟩ := x
      have hc0 := hcell 0 (by omega)
      have hspot : spot = none := by simpa [Addr.add] using World.cell?_spot hc0
      subst hspot
      refine .inr ⟨b, off, rfl, ?_, fun j hj => ?_⟩
      · have := World.block_lt_of_cell? _ _ hc0; simpa [Addr.add] using this
      · have hj' : j < len := by simp at hj; omega
        have h2 := hcell j (by omega)
        have e : (Addr.add ⟨b, off, none⟩ j) = ⟨b, off + j, none⟩ := by simp [Addr.add]
        rw [e] at h2
        rw [h2]
        simp [hj']
theorem i16_of {xs : List Int} (h : ∀ n ∈ xs, (Lit.int .i16 n).wf = true) : I16 xs := by
  intro j
  by_cases hj : j < xs.length
  · have := h _ (List.getElem_mem hj)
    have e : xs.getD j 0 = xs[j] := by rw [List.getD_eq_getElem?_getD, List.getElem?_eq_getElem hj]; rfl
    rw [e]
    simp only [Lit.wf, Bool.and_eq_true, decide_eq_true_eq] at this
    exact ⟨this.1, this.2⟩
  · rw [List.getD_eq_getElem?_getD, List.getElem?_eq_none (by omega)]; simp
theorem i8_of {xs : List Int} (h : ∀ n ∈ xs, (Lit.int .i8 n).wf = true) : I8 xs := by
  intro j
  by_cases hj : j < xs.length
  · have := h _ (List.getElem_mem hj)
    have e : xs.getD j 0 = xs[j] := by rw [List.getD_eq_getElem?_getD, List.getElem?_eq_getElem hj]; rfl
    rw [e]
    simp only [Lit.wf, Bool.and_eq_true, decide_eq_true_eq] at this
    exact ⟨this.1, this.2⟩
  · rw [List.getD_eq_getElem?_getD, List.getElem?_eq_none (by omega)]; simp
theorem Calls.same_below {P : Program} {f : FuncId} {args : Array Value} {w : World} {v : Ending}
    (h : Calls P f args w fun e w' => e = v ∧ w = w') : Calls P f args w fun e w' => e = v ∧ Below w.heap.size w w' :=
  h.mono fun _ _ ⟨a, b⟩ => ⟨a, b ▸ Below.refl _ _⟩
theorem i64_of {n : Int} (h : (Lit.int .i64 n).wf = true) : -9223372036854775808 ≤ n ∧ n ≤ 9223372036854775807 := by
  simp only [Lit.wf, Bool.and_eq_true, decide_eq_true_eq] at h
  exact ⟨h.1, h.2⟩

end Go.Proofs.YtgadcggeoonihaaDoor
