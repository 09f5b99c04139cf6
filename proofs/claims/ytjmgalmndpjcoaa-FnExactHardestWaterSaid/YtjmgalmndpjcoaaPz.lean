/-
  Puzzles and waters as they come in: their values, and what they read as.
-/
import Derived.Test.YtjmgalmndpjcoaaBase
import Derived.OpenShut
import Derived.Laws.IdiomArrays
import Derived.Laws.Rows
import Derived.Lib.SmallJoins
namespace Go.Proofs.Ytjmgalmndpjcoaa
open Go.RowKit Go.ChangeShapes Go.WideShapes
set_option maxRecDepth 100000

/-- The value of a water. -/
abbrev watV (x : Nat → Int) : Value := .agg #[.int .i16 (x 0), .int .i16 (x 1), .int .i16 (x 2), .int .i16 (x 3)]
/-- The value of a puzzle. -/
abbrev puzV (a : Option Addr) (n c : Nat) (x : Nat → Int) (t : Bool) : Value := .agg #[.slice a n c, .int .i16 (x 0), .int .i16 (x 1), .int .i16 (x 2), .int .i16 (x 3), .bool t]
/-- The value of a move. -/
abbrev movV (k f t : Int) : Value := .agg #[.int .i8 k, .int .i8 f, .int .i8 t]
/-- Four numbers by their places. -/
def four (a b c d : Int) (i : Nat) : Int := match i with | 0 => a | 1 => b | 2 => c | 3 => d | _ => 0
def W16 (x : Nat → Int) : Prop := ∀ i, i < 4 → -32768 ≤ x i ∧ x i ≤ 32767
/-- A slice of integers that came in. -/
def IsRow (k : IntKind) (w : World) (a : Option Addr) (len cap : Nat) (zs : List Int) : Prop :=
  (a = none ∧ len = 0 ∧ cap = 0 ∧ zs = []) ∨
  ∃ x, a = some x ∧ len ≤ cap ∧ cap ≤ maxLen ∧ zs.length = cap ∧ (∀ i, i < zs.length → w.cell? (x.add i) = some (.int k (zs.getD i 0))) ∧ ∀ n ∈ zs, (Lit.int k n).wf = true

theorem IsRow.len_le {k : IntKind} {w : World} {a : Option Addr} {len cap : Nat} {zs : List Int} (h : IsRow k w a len cap zs) : len ≤ 9223372036854775807 := by
  rcases h with ⟨_, rfl, _⟩ | ⟨x, _, hl, hm, _⟩
  · omega
  · unfold maxLen at hm; omega

section
variable {H : Type} {enc : TypeId × Value → H} {w : World} {base : Nat} {r : Reach} {b0 : Nat}
theorem row_of_ints {k : IntKind} {t e : TypeId} {fuel : Nat} {v : Value} {x : DataW H × List MemPlace} (ht : Try.prog.underlying t = some (.slice e)) (he : Try.prog.underlying e = some (.int k)) (hc : Try.prog.cellsOf e = 1)
    (h : DataW.trod enc Try.prog w base (fun _ => true) true fuel t [v] = some x) : ∃ a len cap zs, v = .slice a len cap ∧ IsRow k w a len cap zs := by
  rcases open_ints ht he hc h with ⟨hcs, _⟩ | ⟨x, l, c, zs, hcs, _, hl, hm, hz, _, hcell, hwz⟩
  · simp only [List.cons.injEq, and_true] at hcs
    exact ⟨none, 0, 0, [], hcs, .inl ⟨rfl, rfl, rfl, rfl⟩⟩
  · simp only [List.cons.injEq, and_true] at hcs
    exact ⟨some x, l, c, zs, hcs, .inr ⟨x, rfl, hl, hm, by simpa using hz, hcell, hwz⟩⟩
theorem four_of {m : Nat} {t : TypeId} {c0 c1 c2 c3 : Value} {y : DataW H × List MemPlace} (ht : Try.prog.underlying t = some (.array 4 23)) (hf : DataW.trod enc Try.prog w base (fun _ => true) true m t [c0, c1, c2, c3] = some y) :
    ∃ x : Nat → Int, c0 = .int .i16 (x 0) ∧ c1 = .int .i16 (x 1) ∧ c2 = .int .i16 (x 2) ∧ c3 = .int .i16 (x 3) ∧ W16 x := by
  have hC1 : Try.prog.cellsOf 23 = 1 := by kernel_rfl
  obtain ⟨y0, y1, y2, y3, n, _, h0, h1, h2, h3⟩ := trod_array4 ht hC1 hf
  obtain ⟨a, e0, _, w0⟩ := DataW.trod_int Try.underlying23 h0
  obtain ⟨b, e1, _, w1⟩ := DataW.trod_int Try.underlying23 h1
  obtain ⟨c, e2, _, w2⟩ := DataW.trod_int Try.underlying23 h2
  obtain ⟨d, e3, _, w3⟩ := DataW.trod_int Try.underlying23 h3
  simp only [List.cons.injEq, and_true] at e0 e1 e2 e3
  refine ⟨four a b c d, e0, e1, e2, e3, fun i hi => ?_⟩
  match i, hi with
  | 0, _ => exact bounds_i16 w0
  | 1, _ => exact bounds_i16 w1
  | 2, _ => exact bounds_i16 w2
  | 3, _ => exact bounds_i16 w3
theorem open_water {v : Value} {d : DataW H} {p : List MemPlace} (hv : Value.okWide Try.prog w r b0 24 v) (h : DataW.Trod enc Try.prog w base (fun _ => true) true 24 v d p) :
    ∃ x : Nat → Int, v = watV x ∧ W16 x := by
  obtain ⟨cs, rfl, hsz, _⟩ : ∃ cs, v = .agg cs ∧ cs.size = Try.prog.cellsOf 24 ∧ Row.okWide Try.prog w r b0 24 cs := by
    simpa [Value.okWide, Try.underlying24] using hv
  have hC : Try.prog.cellsOf 24 = 4 := by kernel_rfl
  obtain ⟨l⟩ := cs
  match l, hsz.trans hC with
  | [c0, c1, c2, c3], _ =>
    obtain ⟨fuel, hf⟩ := h
    obtain ⟨x, rfl, rfl, rfl, rfl, hw⟩ := four_of Try.underlying24 hf
    exact ⟨x, rfl, hw⟩
theorem open_puzzle {v : Value} {d : DataW H} {p : List MemPlace} (hv : Value.okWide Try.prog w r b0 26 v) (h : DataW.Trod enc Try.prog w base (fun _ => true) true 26 v d p) :
    ∃ a len cap zs x t, v = puzV a len cap x t ∧ IsRow .i16 w a len cap zs ∧ W16 x := by
  obtain ⟨cs, rfl, hsz⟩ := okWide_struct Try.underlying26 hv
  have hC : Try.prog.cellsOf 26 = 6 := by kernel_rfl
  have hC1 : Try.prog.cellsOf 22 = 1 := by kernel_rfl
  have hC2 : Try.prog.cellsOf 24 = 4 := by kernel_rfl
  have hC3 : Try.prog.cellsOf 4 = 1 := by kernel_rfl
  obtain ⟨l⟩ := cs
  match l, hsz.trans hC with
  | [c0, c1, c2, c3, c4, c5], _ =>
    obtain ⟨fuel, hf⟩ := h
    obtain ⟨ys, n, _, _, _, hl, hg⟩ := DataW.trod_struct Try.underlying26 hf
    match ys, hl with
    | [y0, y1, y2], _ =>
      have h0 : DataW.trod enc Try.prog w base (fun _ => true) true n 22 (([c0, c1, c2, c3, c4, c5].drop 0).take (Try.prog.cellsOf 22)) = some y0 := hg 0 _ rfl
      have h1 : DataW.trod enc Try.prog w base (fun _ => true) true n 24 (([c0, c1, c2, c3, c4, c5].drop 1).take (Try.prog.cellsOf 24)) = some y1 := hg 1 _ rfl
      have h2 : DataW.trod enc Try.prog w base (fun _ => true) true n 4 (([c0, c1, c2, c3, c4, c5].drop 5).take (Try.prog.cellsOf 4)) = some y2 := hg 2 _ rfl
      rw [hC1] at h0
      rw [hC2] at h1
      rw [hC3] at h2
      simp only [List.drop, List.take] at h0 h1 h2
      obtain ⟨a, len, cap, zs, rfl, hr⟩ := row_of_ints Try.underlying22 Try.underlying23 (by kernel_rfl) h0
      obtain ⟨x, rfl, rfl, rfl, rfl, hw⟩ := four_of Try.underlying24 h1
      obtain ⟨b, e, _⟩ := DataW.trod_bool Try.underlying4 h2
      simp only [List.cons.injEq, and_true] at e
      subst e
      exact ⟨a, len, cap, zs, x, b, rfl, hr, hw⟩
end
end Go.Proofs.Ytjmgalmndpjcoaa
