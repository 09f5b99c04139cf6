/-
  States of four numbers as they come in: their values and cells; the law's helpers that copy and compare them.
-/
import Derived.Test.YtijaghkbmgkjnaaDoorC1
namespace Go.Proofs.YtijaghkbmgkjnaaDoor
open Go.RowKit Go.ChangeShapes Go.WideShapes
set_option maxRecDepth 100000
set_option linter.unusedVariables false

theorem Dr.blk {w w' : World} (h : Dr w w') {b : Nat} {cs : Array Value} {t : TypeId} (hb : Blk w b cs t) : Blk w' b cs t := by obtain ⟨q, rfl⟩ := h; exact hb
theorem blk_dr {w : World} {b : Nat} {cs : Array Value} {t : TypeId} (h : Blk w b cs t) (q : Nat) : Blk (w.drewN q) b cs t := h
theorem Blk.drew {w : World} {b : Nat} {cs : Array Value} {t : TypeId} (h : Blk w b cs t) : Blk w.drew b cs t := h
/-- The value of a state. -/
abbrev staV (x : Nat → Int) : Value := .agg #[.int .i64 (x 0), .int .i64 (x 1), .int .i64 (x 2), .int .i64 (x 3)]
/-- The cells of a state. -/
abbrev staC (x : Nat → Int) : Array Value := #[.int .i64 (x 0), .int .i64 (x 1), .int .i64 (x 2), .int .i64 (x 3)]
def I64 (n : Int) : Prop := -9223372036854775808 ≤ n ∧ n ≤ 9223372036854775807
def S4 (x : Nat → Int) : Prop := ∀ i, i < 4 → -9223372036854775808 ≤ x i ∧ x i ≤ 9223372036854775807
def quad (a b c d : Int) (i : Nat) : Int := match i with | 0 => a | 1 => b | 2 => c | 3 => d | _ => 0
theorem staC_get (x : Nat → Int) (i : Nat) (h : i < 4) : (staC x)[i]? = some (.int .i64 (x i)) := by
  match i, h with
  | 0, _ => rfl
  | 1, _ => rfl
  | 2, _ => rfl
  | 3, _ => rfl
theorem Blk.sta {w : World} {b : Nat} {x : Nat → Int} {t : TypeId} (h : Blk w b (staC x) t) (i : Nat) (hi : i < 4) : w.cell? ⟨b, i, none⟩ = some (.int .i64 (x i)) := (h.cell i).trans (staC_get x i hi)
theorem bounds_i64 {n : Int} (h : (Lit.int .i64 n).wf = true) : -9223372036854775808 ≤ n ∧ n ≤ 9223372036854775807 := by
  simp only [Lit.wf, Bool.and_eq_true, decide_eq_true_eq] at h
  exact ⟨h.1, h.2⟩
section
variable {H : Type} {enc : TypeId × Value → H} {w : World} {base : Nat} {r : Reach} {b0 : Nat}
theorem sta_cells {m : Nat} {t : TypeId} {c0 c1 c2 c3 : Value} {y : DataW H × List MemPlace} (ht : Tryd.prog.underlying t = some (.array 4 2)) (hf : DataW.trod enc Tryd.prog w base (fun _ => true) true m t [c0, c1, c2, c3] = some y) :
    ∃ x : Nat → Int, c0 = .int .i64 (x 0) ∧ c1 = .int .i64 (x 1) ∧ c2 = .int .i64 (x 2) ∧ c3 = .int .i64 (x 3) ∧ S4 x := by
  have hC1 : Tryd.prog.cellsOf 2 = 1 := by kernel_rfl
  obtain ⟨y0, y1, y2, y3, n, _, h0, h1, h2, h3⟩ := trod_array4 ht hC1 hf
  obtain ⟨a, e0, _, w0⟩ := DataW.trod_int Tryd.underlying2 h0
  obtain ⟨b, e1, _, w1⟩ := DataW.trod_int Tryd.underlying2 h1
  obtain ⟨c, e2, _, w2⟩ := DataW.trod_int Tryd.underlying2 h2
  obtain ⟨d, e3, _, w3⟩ := DataW.trod_int Tryd.underlying2 h3
  simp only [List.cons.injEq, and_true] at e0 e1 e2 e3
  refine ⟨quad a b c d, e0, e1, e2, e3, fun i hi => ?_⟩
  match i, hi with
  | 0, _ => exact bounds_i64 w0
  | 1, _ => exact bounds_i64 w1
  | 2, _ => exact bounds_i64 w2
  | 3, _ => exact bounds_i64 w3
theorem z1_mark : True := trivial
end
end Go.Proofs.YtijaghkbmgkjnaaDoor
