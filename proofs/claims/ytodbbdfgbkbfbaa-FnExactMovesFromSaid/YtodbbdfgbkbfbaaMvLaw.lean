/-
  Moves as they come in, and the law's helpers on them.
-/
import Derived.Test.YtodbbdfgbkbfbaaFrame
namespace Go.Proofs.Ytodbbdfgbkbfbaa
open Go.RowKit Go.ChangeShapes Go.WideShapes
set_option maxRecDepth 100000
set_option linter.unusedVariables false

/-- The numbers of a move fit. -/
def M8 (k f g : Int) : Prop := (-128 ≤ k ∧ k ≤ 127) ∧ (-128 ≤ f ∧ f ≤ 127) ∧ (-128 ≤ g ∧ g ≤ 127)
theorem M8.bk {k f g : Int} (h : M8 k f g) : -128 ≤ k ∧ k ≤ 127 := by unfold M8 at h; exact h.1
theorem M8.bf {k f g : Int} (h : M8 k f g) : -128 ≤ f ∧ f ≤ 127 := by unfold M8 at h; exact h.2.1
theorem M8.bg {k f g : Int} (h : M8 k f g) : -128 ≤ g ∧ g ≤ 127 := by unfold M8 at h; exact h.2.2
section
variable {H : Type} {enc : TypeId × Value → H} {w : World} {base : Nat} {r : Reach} {b0 : Nat}
theorem open_move {v : Value} {d : DataW H} {p : List MemPlace} (hv : Value.okWide Try.prog w r b0 29 v) (h : DataW.Trod enc Try.prog w base (fun _ => true) true 29 v d p) :
    ∃ k f g, v = movV k f g ∧ M8 k f g := by
  obtain ⟨cs, rfl, hsz⟩ := okWide_struct Try.underlying29 hv
  have hC : Try.prog.cellsOf 29 = 3 := by kernel_rfl
  have hC1 : Try.prog.cellsOf 27 = 1 := by kernel_rfl
  obtain ⟨l⟩ := cs
  match l, hsz.trans hC with
  | [c0, c1, c2], _ =>
    obtain ⟨fuel, hf⟩ := h
    obtain ⟨ys, n, _, _, _, hl, hg⟩ := DataW.trod_struct Try.underlying29 hf
    match ys, hl with
    | [y0, y1, y2], _ =>
      have h0 : DataW.trod enc Try.prog w base (fun _ => true) true n 27 (([c0, c1, c2].drop 0).take (Try.prog.cellsOf 27)) = some y0 := hg 0 _ rfl
      have h1 : DataW.trod enc Try.prog w base (fun _ => true) true n 27 (([c0, c1, c2].drop 1).take (Try.prog.cellsOf 27)) = some y1 := hg 1 _ rfl
      have h2 : DataW.trod enc Try.prog w base (fun _ => true) true n 27 (([c0, c1, c2].drop 2).take (Try.prog.cellsOf 27)) = some y2 := hg 2 _ rfl
      rw [hC1] at h0 h1 h2
      simp only [List.drop, List.take] at h0 h1 h2
      obtain ⟨a, e0, _, w0⟩ := DataW.trod_int Try.underlying27 h0
      obtain ⟨b, e1, _, w1⟩ := DataW.trod_int Try.underlying27 h1
      obtain ⟨c, e2, _, w2⟩ := DataW.trod_int Try.underlying27 h2
      simp only [List.cons.injEq, and_true] at e0 e1 e2
      subst e0 e1 e2
      exact ⟨a, b, c, rfl, bounds_i8 w0, bounds_i8 w1, bounds_i8 w2⟩
end
theorem toMove_any (k f g : Int) (w : World) :
    Calls Try.prog 10 #[movV k f g] w fun e w' => e = .returned (movV k f g) ∧ Below w.heap.size w w' := by
  go_enter Try.func10, Try.ntmps10
  go_wp2
  exact bodyPost_ret (v := movV k f g) (by simp [results, Try.results10, go_sem]) rfl ⟨rfl, (((Below.refl _ _).alloc (Nat.le_refl _) _).alloc (by simp) _).alloc (by simp; omega) _⟩
theorem toMove_fr {w0 W : World} {L : List (Nat × Array Value × TypeId)} {R : List (Nat × List Int)} (h : FR w0 L R W) (k f g : Int) :
    Calls Try.prog 10 #[movV k f g] W fun e w' => e = .returned (movV k f g) ∧ FR w0 L R w' := by
  refine (toMove_any k f g W).mono ?_
  rintro e w' ⟨rfl, hb⟩
  exact ⟨rfl, h.next hb⟩
end Go.Proofs.Ytodbbdfgbkbfbaa
