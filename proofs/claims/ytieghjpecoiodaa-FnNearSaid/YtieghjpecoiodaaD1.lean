/-
  Words of four letters as they come in: their values and cells; the law's helpers that copy and compare them.
-/
import Derived.Test.YtieghjpecoiodaaC1
namespace Go.Proofs.Ytieghjpecoiodaa
open Go.RowKit Go.ChangeShapes Go.WideShapes
set_option maxRecDepth 100000
set_option linter.unusedVariables false

/-- The value of a word. -/
abbrev wordV (x : Nat → Int) : Value := .agg #[.int .i8 (x 0), .int .i8 (x 1), .int .i8 (x 2), .int .i8 (x 3)]
/-- The cells of a word. -/
abbrev wordC (x : Nat → Int) : Array Value := #[.int .i8 (x 0), .int .i8 (x 1), .int .i8 (x 2), .int .i8 (x 3)]
def W4 (x : Nat → Int) : Prop := ∀ i, i < 4 → -128 ≤ x i ∧ x i ≤ 127
def quad (a b c d : Int) (i : Nat) : Int := match i with | 0 => a | 1 => b | 2 => c | 3 => d | _ => 0
theorem W4.quad {x : Nat → Int} (h : W4 x) : (-128 ≤ x 0 ∧ x 0 ≤ 127) ∧ (-128 ≤ x 1 ∧ x 1 ≤ 127) ∧ (-128 ≤ x 2 ∧ x 2 ≤ 127) ∧ (-128 ≤ x 3 ∧ x 3 ≤ 127) := ⟨h 0 (by decide), h 1 (by decide), h 2 (by decide), h 3 (by decide)⟩
theorem wordC_get (x : Nat → Int) (i : Nat) (h : i < 4) : (wordC x)[i]? = some (.int .i8 (x i)) := by
  match i, h with
  | 0, _ => rfl
  | 1, _ => rfl
  | 2, _ => rfl
  | 3, _ => rfl
theorem Blk.word {w : World} {b : Nat} {x : Nat → Int} {t : TypeId} (h : Blk w b (wordC x) t) (i : Nat) (hi : i < 4) : w.cell? ⟨b, i, none⟩ = some (.int .i8 (x i)) := (h.cell i).trans (wordC_get x i hi)
theorem bcell {W w1 : World} (hb : Below W.heap.size W w1) : (∀ b o, b < W.heap.size → w1.cell? ⟨b, o, none⟩ = W.cell? ⟨b, o, none⟩) ∧ (∀ b o, b < W.heap.size → w1.frozen? ⟨b, o, none⟩ = W.frozen? ⟨b, o, none⟩) :=
  ⟨fun b o h => hb.cell (p := ⟨b, o, none⟩) h, fun b o h => hb.frozen (p := ⟨b, o, none⟩) h⟩
section
variable {H : Type} {enc : TypeId × Value → H} {w : World} {base : Nat} {r : Reach} {b0 : Nat}
theorem word_cells {m : Nat} {t : TypeId} {c0 c1 c2 c3 : Value} {y : DataW H × List MemPlace} (ht : Try.prog.underlying t = some (.array 4 24)) (hf : DataW.trod enc Try.prog w base (fun _ => true) true m t [c0, c1, c2, c3] = some y) :
    ∃ x : Nat → Int, c0 = .int .i8 (x 0) ∧ c1 = .int .i8 (x 1) ∧ c2 = .int .i8 (x 2) ∧ c3 = .int .i8 (x 3) ∧ W4 x := by
  have hC1 : Try.prog.cellsOf 24 = 1 := by kernel_rfl
  obtain ⟨y0, y1, y2, y3, n, _, h0, h1, h2, h3⟩ := trod_array4 ht hC1 hf
  obtain ⟨a, e0, _, w0⟩ := DataW.trod_int Try.underlying24 h0
  obtain ⟨b, e1, _, w1⟩ := DataW.trod_int Try.underlying24 h1
  obtain ⟨c, e2, _, w2⟩ := DataW.trod_int Try.underlying24 h2
  obtain ⟨d, e3, _, w3⟩ := DataW.trod_int Try.underlying24 h3
  simp only [List.cons.injEq, and_true] at e0 e1 e2 e3
  refine ⟨quad a b c d, e0, e1, e2, e3, fun i hi => ?_⟩
  match i, hi with
  | 0, _ => exact bounds_i8 w0
  | 1, _ => exact bounds_i8 w1
  | 2, _ => exact bounds_i8 w2
  | 3, _ => exact bounds_i8 w3
theorem open_word {v : Value} {d : DataW H} {p : List MemPlace} (hv : Value.okWide Try.prog w r b0 39 v) (h : DataW.Trod enc Try.prog w base (fun _ => true) true 39 v d p) :
    ∃ x : Nat → Int, v = wordV x ∧ W4 x := by
  obtain ⟨cs, rfl, hsz, _⟩ : ∃ cs, v = .agg cs ∧ cs.size = Try.prog.cellsOf 39 ∧ Row.okWide Try.prog w r b0 39 cs := by
    simpa [Value.okWide, Try.underlying39] using hv
  have hC : Try.prog.cellsOf 39 = 4 := by kernel_rfl
  obtain ⟨l⟩ := cs
  match l, hsz.trans hC with
  | [c0, c1, c2, c3], _ =>
    obtain ⟨fuel, hf⟩ := h
    obtain ⟨x, rfl, rfl, rfl, rfl, hw⟩ := word_cells Try.underlying39 hf
    exact ⟨x, rfl, hw⟩
end
theorem eqWord_same (x : Nat → Int) (w : World) :
    Calls Try.prog 61 #[wordV x, wordV x] w fun e w' => e = .returned (.bool true) ∧ Below w.heap.size w w' := by
  go_enter Try.func61, Try.ntmps61
  go_wp2
  refine wp_loop_rounds 5 ?_
  iterate 4 (rw [rounds_succ]; go_wp2; go_quiet (fail); go_wp2)
  rw [rounds_succ]
  go_wp2
  go_ret
  refine ⟨rfl, ?_⟩
  repeat (first | exact Below.refl _ _ | refine below_drewN ?_ _ | refine Below.alloc ?_ (by simp <;> omega) _)
theorem eqWord_fr {w0 W : World} {L : List (Nat × Array Value × TypeId)} (h : FR w0 L W) (x : Nat → Int) :
    Calls Try.prog 61 #[wordV x, wordV x] W fun e w' => e = .returned (.bool true) ∧ FR w0 L w' := Calls.fr h (eqWord_same x W)
end Go.Proofs.Ytieghjpecoiodaa
