/-
  States of four numbers as they come in: their values and cells; the law's helpers that copy and compare them.
-/
import Derived.Test.YtkikkpahfplkaaaC1
namespace Go.Proofs.Ytkikkpahfplkaaa
open Go.RowKit Go.ChangeShapes Go.WideShapes
set_option maxRecDepth 100000
set_option linter.unusedVariables false

theorem Dr.blk {w w' : World} (h : Dr w w') {b : Nat} {cs : Array Value} {t : TypeId} (hb : Blk w b cs t) : Blk w' b cs t := by obtain ⟨q, rfl⟩ := h; exact hb
theorem blk_dr {w : World} {b : Nat} {cs : Array Value} {t : TypeId} (h : Blk w b cs t) (q : Nat) : Blk (w.drewN q) b cs t := h
theorem Blk.drew {w : World} {b : Nat} {cs : Array Value} {t : TypeId} (h : Blk w b cs t) : Blk w.drew b cs t := h
/-- The value of a state. -/
abbrev staV (x : Nat → Int) : Value := .agg #[.int .i64 (x 0), .int .i64 (x 1), .int .i64 (x 2), .int .i64 (x 3)]
/-- The cells of a state. -/
abbrev staC (x : Nat → Int) : Array Value := #[.int .i64 (x 0), .int .i64 (x 1), .int .i64 (x 2), .int .i64 (x 3)]
def I64 (n : Int) : Prop := -9223372036854775808 ≤ n ∧ n ≤ 9223372036854775807
def S4 (x : Nat → Int) : Prop := ∀ i, i < 4 → -9223372036854775808 ≤ x i ∧ x i ≤ 9223372036854775807
def quad (a b c d : Int) (i : Nat) : Int := match i with | 0 => a | 1 => b | 2 => c | 3 => d | _ => 0
theorem staC_get (x : Nat → Int) (i : Nat) (h : i < 4) : (staC x)[i]? = some (.int .i64 (x i)) := by
  match i, h with
  | 0, _ => rfl
  | 1, _ => rfl
  | 2, _ => rfl
  | 3, _ => rfl
theorem Blk.sta {w : World} {b : Nat} {x : Nat → Int} {t : TypeId} (h : Blk w b (staC x) t) (i : Nat) (hi : i < 4) : w.cell? ⟨b, i, none⟩ = some (.int .i64 (x i)) := (h.cell i).trans (staC_get x i hi)
theorem bounds_i64 {n : Int} (h : (Lit.int .i64 n).wf = true) : -9223372036854775808 ≤ n ∧ n ≤ 9223372036854775807 := by
  simp only [Lit.wf, Bool.and_eq_true, decide_eq_true_eq] at h
  exact ⟨h.1, h.2⟩
section
variable {H : Type} {enc : TypeId × Value → H} {w : World} {base : Nat} {r : Reach} {b0 : Nat}
theorem sta_cells {m : Nat} {t : TypeId} {c0 c1 c2 c3 : Value} {y : DataW H × List MemPlace} (ht : Try.prog.underlying t = some (.array 4 2)) (hf : DataW.trod enc Try.prog w base (fun _ => true) true m t [c0, c1, c2, c3] = some y) :
    ∃ x : Nat → Int, c0 = .int .i64 (x 0) ∧ c1 = .int .i64 (x 1) ∧ c2 = .int .i64 (x 2) ∧ c3 = .int .i64 (x 3) ∧ S4 x := by
  have hC1 : Try.prog.cellsOf 2 = 1 := by kernel_rfl
  obtain ⟨y0, y1, y2, y3, n, _, h0, h1, h2, h3⟩ := trod_array4 ht hC1 hf
  obtain ⟨a, e0, _, w0⟩ := DataW.trod_int Try.underlying2 h0
  obtain ⟨b, e1, _, w1⟩ := DataW.trod_int Try.underlying2 h1
  obtain ⟨c, e2, _, w2⟩ := DataW.trod_int Try.underlying2 h2
  obtain ⟨d, e3, _, w3⟩ := DataW.trod_int Try.underlying2 h3
  simp only [List.cons.injEq, and_true] at e0 e1 e2 e3
  refine ⟨quad a b c d, e0, e1, e2, e3, fun i hi => ?_⟩
  match i, hi with
  | 0, _ => exact bounds_i64 w0
  | 1, _ => exact bounds_i64 w1
  | 2, _ => exact bounds_i64 w2
  | 3, _ => exact bounds_i64 w3
theorem open_state {v : Value} {d : DataW H} {p : List MemPlace} (hv : Value.okWide Try.prog w r b0 22 v) (h : DataW.Trod enc Try.prog w base (fun _ => true) true 22 v d p) :
    ∃ x : Nat → Int, v = staV x ∧ S4 x := by
  obtain ⟨cs, rfl, hsz, _⟩ : ∃ cs, v = .agg cs ∧ cs.size = Try.prog.cellsOf 22 ∧ Row.okWide Try.prog w r b0 22 cs := by
    simpa [Value.okWide, Try.underlying22] using hv
  have hC : Try.prog.cellsOf 22 = 4 := by kernel_rfl
  obtain ⟨l⟩ := cs
  match l, hsz.trans hC with
  | [c0, c1, c2, c3], _ =>
    obtain ⟨fuel, hf⟩ := h
    obtain ⟨x, rfl, rfl, rfl, rfl, hw⟩ := sta_cells Try.underlying22 hf
    exact ⟨x, rfl, hw⟩
theorem z1_mark : True := trivial
end
theorem index_sta0 (x : Nat → Int) (w : World) : (Instr.index 23 (staV x) (.int .i64 0)).run Try.prog w = .ok (.int .i64 (x 0)) w := by kernel_rfl
theorem index_sta1 (x : Nat → Int) (w : World) : (Instr.index 23 (staV x) (.int .i64 1)).run Try.prog w = .ok (.int .i64 (x 1)) w := by kernel_rfl
theorem index_sta2 (x : Nat → Int) (w : World) : (Instr.index 23 (staV x) (.int .i64 2)).run Try.prog w = .ok (.int .i64 (x 2)) w := by kernel_rfl
theorem index_sta3 (x : Nat → Int) (w : World) : (Instr.index 23 (staV x) (.int .i64 3)).run Try.prog w = .ok (.int .i64 (x 3)) w := by kernel_rfl
theorem index_sta (x : Nat → Int) (i : Nat) (hi : i < 4) (w : World) : (Instr.index 23 (staV x) (.int .i64 i)).run Try.prog w = .ok (.int .i64 (x i)) w := by
  match i, hi with
  | 0, _ => exact index_sta0 x w
  | 1, _ => exact index_sta1 x w
  | 2, _ => exact index_sta2 x w
  | 3, _ => exact index_sta3 x w
theorem toState_any (x : Nat → Int) (w : World) :
    Calls Try.prog 5 #[staV x] w fun e w' => e = .returned (staV x) ∧ Below w.heap.size w w' := by
  go_enter Try.func5, Try.ntmps5
  go_wp2
  refine wp_loop_rounds 5 ?_
  iterate 5 (rw [rounds_succ]; go_wp2)
  exact bodyPost_ret (v := staV x) (by simp [results, Try.results5, go_sem]) rfl ⟨rfl, (((Below.refl _ _).alloc (Nat.le_refl _) _).alloc (by simp) _).alloc (by simp; omega) _⟩
theorem toState_fr {w0 W : World} {L : List (Nat × Array Value × TypeId)} (h : FR w0 L W) (x : Nat → Int) :
    Calls Try.prog 5 #[staV x] W fun e w' => e = .returned (staV x) ∧ FR w0 L w' := Calls.fr h (toState_any x W)
theorem eqState_same (x : Nat → Int) (w : World) :
    Calls Try.prog 7 #[staV x, staV x] w fun e w' => e = .returned (.bool true) ∧ Below w.heap.size w w' := by
  go_enter Try.func7, Try.ntmps7
  go_wp2
  refine wp_loop_rounds 5 ?_
  iterate 4 (rw [rounds_succ]; go_wp2; go_quiet (fail); go_wp2)
  rw [rounds_succ]
  go_wp2
  go_ret
  refine ⟨rfl, ?_⟩
  repeat (first | exact Below.refl _ _ | refine below_drewN ?_ _ | refine Below.alloc ?_ (by simp <;> omega) _)
theorem eqState_fr {w0 W : World} {L : List (Nat × Array Value × TypeId)} (h : FR w0 L W) (x : Nat → Int) :
    Calls Try.prog 7 #[staV x, staV x] W fun e w' => e = .returned (.bool true) ∧ FR w0 L w' := Calls.fr h (eqState_same x W)
end Go.Proofs.Ytkikkpahfplkaaa
