/-
  A scope whose gotos are followed one after the other; the next word.
-/
import Derived.Test.YtieghjpecoiodaaD4
import Derived.ScopeJumps
import Derived.WalkMore
namespace Go.Proofs.Ytieghjpecoiodaa
open Go Go.RowKit
set_option maxRecDepth 100000
set_option linter.unusedVariables false
/-- As Q; a goto goes on behind its label, at most so many times. -/
def jumpEnd (P : Program) (c : Code) (Q : Exit → Act → World → Prop) : Nat → Exit → Act → World → Prop
  | 0, .goto _, _, _ => False
  | n + 1, .goto l, a, w => ∃ rest, findLabel c l = some rest ∧ rest.wp P (jumpEnd P c Q n) a w
  | _, e, a, w => Q e a w
theorem wp_scope_fuel {P : Program} {c : Code} {Q : Exit → Act → World → Prop} {a : Act} {w : World} (n : Nat) (h : c.wp P (jumpEnd P c Q n) a w) : (Code.scope c).wp P Q a w := by
  intro b k cs
  have key : ∀ n r a w, Code.wp P r (jumpEnd P c Q n) a w → ∃ e a' w', Q e a' w' ∧ Arrives P (lone (b.at a (.code r :: .inScope c :: k)) cs w) b k cs e a' w' := by
    intro n
    induction n with
    | zero =>
      intro r a w h
      obtain ⟨e, a₁, w₁, hq, harr⟩ := h b (.inScope c :: k) cs
      cases e with
      | normal => exact ⟨.normal, a₁, w₁, hq, Steps.trans harr (.one step_inScope)⟩
      | exit id => exact ⟨.exit id, a₁, w₁, hq, fun k' hk => harr k' (by simp [exitTo, hk])⟩
      | goto l' => exact hq.elim
      | ret => exact ⟨_, a₁, w₁, hq, harr⟩
      | panic ch => exact ⟨_, a₁, w₁, hq, harr⟩
      | outgrown => exact ⟨_, a₁, w₁, hq, harr⟩
    | succ n ih =>
      intro r a w h
      obtain ⟨e, a₁, w₁, hq, harr⟩ := h b (.inScope c :: k) cs
      cases e with
      | normal => exact ⟨.normal, a₁, w₁, hq, Steps.trans harr (.one step_inScope)⟩
      | exit id => exact ⟨.exit id, a₁, w₁, hq, fun k' hk => harr k' (by simp [exitTo, hk])⟩
      | goto l' =>
        obtain ⟨rest, hf, hr⟩ := hq
        obtain ⟨e₂, a₂, w₂, hq₂, harr₂⟩ := ih rest a₁ w₁ hr
        exact ⟨e₂, a₂, w₂, hq₂, .of_steps (harr _ (by simp [gotoIn, hf])) harr₂⟩
      | ret => exact ⟨_, a₁, w₁, hq, harr⟩
      | panic ch => exact ⟨_, a₁, w₁, hq, harr⟩
      | outgrown => exact ⟨_, a₁, w₁, hq, harr⟩
  obtain ⟨e, a₁, w₁, hq, harr⟩ := key n c a w h
  exact ⟨e, a₁, w₁, hq, .of_steps (.one step_scope) harr⟩
/-- The next letter. -/
def nx1 (v : Int) : Int := if v = 1 then -1 else v + 1
theorem nx1_t {v : Int} (h : v = 1) : nx1 v = -1 := by unfold nx1; rw [if_pos h]
theorem nx1_f {v : Int} (h : v ≠ 1) : nx1 v = v + 1 := by unfold nx1; rw [if_neg h]
/-- The next word. -/
def nxD (n : Nat) (x : Nat → Int) : Nat → Int := match n with
  | 1 => quad (nx1 (x 0)) (x 1) (x 2) (x 3)
  | 2 => quad (nx1 (x 0)) (nx1 (x 1)) (x 2) (x 3)
  | 3 => quad (nx1 (x 0)) (nx1 (x 1)) (nx1 (x 2)) (x 3)
  | _ => quad (nx1 (x 0)) (nx1 (x 1)) (nx1 (x 2)) (nx1 (x 3))
set_option maxHeartbeats 8000000 in
theorem turned_1 (x : Nat → Int) (w : World) (hx : S4 x) :
    Calls Try.prog 60 #[wordV x, .int .i64 1] w fun e w' => e = .returned (wordV (quad (nx1 (x 0)) (x 1) (x 2) (x 3))) ∧ Below w.heap.size w w' := by
  obtain ⟨h0, h1, h2, h3⟩ := hx
  go_enter Try.func60, Try.ntmps60
  go_wp2
  refine wp_scope_fuel 13 ?_
  go_wp2
  go_step3
  by_cases e0 : x 0 = 1
  · have q0 : (x 0 == 1) = true := by simpa using e0
    have E0 := Lib.hid (nx1_t e0)
    clear e0
    go_wp2
    go_step3
    refine ⟨_, rfl, ?_⟩
    go_wp2
    go_step3
    go_wp2
    go_step3
    refine ⟨_, rfl, ?_⟩
    go_wp2
    simp only [jumpEnd]
    exact bodyPost_ret (v := .agg #[.int .i8 (-1), .int .i8 (x 1), .int .i8 (x 2), .int .i8 (x 3)]) (by simp [results, Try.results60, go_sem]) rfl ⟨by simp only [wordV, quad, E0.out], by repeat (first | exact Below.refl _ _ | refine Below.setCell ?_ (by simp <;> omega) _ | refine Below.alloc ?_ (by simp <;> omega) _)⟩
  · have q0 : (x 0 == 1) = false := by simpa using e0
    have E0 := Lib.hid (nx1_f e0)
    clear e0
    go_wp2
    go_step3
    refine ⟨_, rfl, ?_⟩
    go_wp2
    go_step3
    refine ⟨_, rfl, ?_⟩
    go_wp2
    simp only [jumpEnd]
    exact bodyPost_ret (v := .agg #[.int .i8 (x 0 + 1), .int .i8 (x 1), .int .i8 (x 2), .int .i8 (x 3)]) (by simp [results, Try.results60, go_sem]) rfl ⟨by simp only [wordV, quad, E0.out], by repeat (first | exact Below.refl _ _ | refine Below.setCell ?_ (by simp <;> omega) _ | refine Below.alloc ?_ (by simp <;> omega) _)⟩
set_option maxHeartbeats 8000000 in
theorem turned_2 (x : Nat → Int) (w : World) (hx : S4 x) :
    Calls Try.prog 60 #[wordV x, .int .i64 2] w fun e w' => e = .returned (wordV (quad (nx1 (x 0)) (nx1 (x 1)) (x 2) (x 3))) ∧ Below w.heap.size w w' := by
  obtain ⟨h0, h1, h2, h3⟩ := hx
  go_enter Try.func60, Try.ntmps60
  go_wp2
  refine wp_scope_fuel 13 ?_
  go_wp2
  go_step3
  by_cases e0 : x 0 = 1
  · have q0 : (x 0 == 1) = true := by simpa using e0
    have E0 := Lib.hid (nx1_t e0)
    clear e0
    go_wp2
    go_step3
    refine ⟨_, rfl, ?_⟩
    go_wp2
    go_step3
    go_wp2
    go_step3
    refine ⟨_, rfl, ?_⟩
    by_cases e1 : x 1 = 1
    · have q1 : (x 1 == 1) = true := by simpa using e1
      have E1 := Lib.hid (nx1_t e1)
      clear e1
      go_wp2
      go_step3
      refine ⟨_, rfl, ?_⟩
      go_wp2
      go_step3
      go_wp2
      go_step3
      refine ⟨_, rfl, ?_⟩
      go_wp2
      simp only [jumpEnd]
      exact bodyPost_ret (v := .agg #[.int .i8 (-1), .int .i8 (-1), .int .i8 (x 2), .int .i8 (x 3)]) (by simp [results, Try.results60, go_sem]) rfl ⟨by simp only [wordV, quad, E0.out, E1.out], by repeat (first | exact Below.refl _ _ | refine Below.setCell ?_ (by simp <;> omega) _ | refine Below.alloc ?_ (by simp <;> omega) _)⟩
    · have q1 : (x 1 == 1) = false := by simpa using e1
      have E1 := Lib.hid (nx1_f e1)
      clear e1
      go_wp2
      go_step3
      refine ⟨_, rfl, ?_⟩
      go_wp2
      go_step3
      refine ⟨_, rfl, ?_⟩
      go_wp2
      simp only [jumpEnd]
      exact bodyPost_ret (v := .agg #[.int .i8 (-1), .int .i8 (x 1 + 1), .int .i8 (x 2), .int .i8 (x 3)]) (by simp [results, Try.results60, go_sem]) rfl ⟨by simp only [wordV, quad, E0.out, E1.out], by repeat (first | exact Below.refl _ _ | refine Below.setCell ?_ (by simp <;> omega) _ | refine Below.alloc ?_ (by simp <;> omega) _)⟩
  · have q0 : (x 0 == 1) = false := by simpa using e0
    have E0 := Lib.hid (nx1_f e0)
    clear e0
    go_wp2
    go_step3
    refine ⟨_, rfl, ?_⟩
    go_wp2
    go_step3
    refine ⟨_, rfl, ?_⟩
    by_cases e1 : x 1 = 1
    · have q1 : (x 1 == 1) = true := by simpa using e1
      have E1 := Lib.hid (nx1_t e1)
      clear e1
      go_wp2
      go_step3
      refine ⟨_, rfl, ?_⟩
      go_wp2
      go_step3
      go_wp2
      go_step3
      refine ⟨_, rfl, ?_⟩
      go_wp2
      simp only [jumpEnd]
      exact bodyPost_ret (v := .agg #[.int .i8 (x 0 + 1), .int .i8 (-1), .int .i8 (x 2), .int .i8 (x 3)]) (by simp [results, Try.results60, go_sem]) rfl ⟨by simp only [wordV, quad, E0.out, E1.out], by repeat (first | exact Below.refl _ _ | refine Below.setCell ?_ (by simp <;> omega) _ | refine Below.alloc ?_ (by simp <;> omega) _)⟩
    · have q1 : (x 1 == 1) = false := by simpa using e1
      have E1 := Lib.hid (nx1_f e1)
      clear e1
      go_wp2
      go_step3
      refine ⟨_, rfl, ?_⟩
      go_wp2
      go_step3
      refine ⟨_, rfl, ?_⟩
      go_wp2
      simp only [jumpEnd]
      exact bodyPost_ret (v := .agg #[.int .i8 (x 0 + 1), .int .i8 (x 1 + 1), .int .i8 (x 2), .int .i8 (x 3)]) (by simp [results, Try.results60, go_sem]) rfl ⟨by simp only [wordV, quad, E0.out, E1.out], by repeat (first | exact Below.refl _ _ | refine Below.setCell ?_ (by simp <;> omega) _ | refine Below.alloc ?_ (by simp <;> omega) _)⟩
set_option maxHeartbeats 8000000 in
theorem turned_3 (x : Nat → Int) (w : World) (hx : S4 x) :
    Calls Try.prog 60 #[wordV x, .int .i64 3] w fun e w' => e = .returned (wordV (quad (nx1 (x 0)) (nx1 (x 1)) (nx1 (x 2)) (x 3))) ∧ Below w.heap.size w w' := by
  obtain ⟨h0, h1, h2, h3⟩ := hx
  go_enter Try.func60, Try.ntmps60
  go_wp2
  refine wp_scope_fuel 13 ?_
  go_wp2
  go_step3
  by_cases e0 : x 0 = 1
  · have q0 : (x 0 == 1) = true := by simpa using e0
    have E0 := Lib.hid (nx1_t e0)
    clear e0
    go_wp2
    go_step3
    refine ⟨_, rfl, ?_⟩
    go_wp2
    go_step3
    go_wp2
    go_step3
    refine ⟨_, rfl, ?_⟩
    by_cases e1 : x 1 = 1
    · have q1 : (x 1 == 1) = true := by simpa using e1
      have E1 := Lib.hid (nx1_t e1)
      clear e1
      go_wp2
      go_step3
      refine ⟨_, rfl, ?_⟩
      go_wp2
      go_step3
      go_wp2
      go_step3
      refine ⟨_, rfl, ?_⟩
      by_cases e2 : x 2 = 1
      · have q2 : (x 2 == 1) = true := by simpa using e2
        have E2 := Lib.hid (nx1_t e2)
        clear e2
        go_wp2
        go_step3
        refine ⟨_, rfl, ?_⟩
        go_wp2
        go_step3
        go_wp2
        go_step3
        refine ⟨_, rfl, ?_⟩
        go_wp2
        simp only [jumpEnd]
        exact bodyPost_ret (v := .agg #[.int .i8 (-1), .int .i8 (-1), .int .i8 (-1), .int .i8 (x 3)]) (by simp [results, Try.results60, go_sem]) rfl ⟨by simp only [wordV, quad, E0.out, E1.out, E2.out], by repeat (first | exact Below.refl _ _ | refine Below.setCell ?_ (by simp <;> omega) _ | refine Below.alloc ?_ (by simp <;> omega) _)⟩
      · have q2 : (x 2 == 1) = false := by simpa using e2
        have E2 := Lib.hid (nx1_f e2)
        clear e2
        go_wp2
        go_step3
        refine ⟨_, rfl, ?_⟩
        go_wp2
        go_step3
        refine ⟨_, rfl, ?_⟩
        go_wp2
        simp only [jumpEnd]
        exact bodyPost_ret (v := .agg #[.int .i8 (-1), .int .i8 (-1), .int .i8 (x 2 + 1), .int .i8 (x 3)]) (by simp [results, Try.results60, go_sem]) rfl ⟨by simp only [wordV, quad, E0.out, E1.out, E2.out], by repeat (first | exact Below.refl _ _ | refine Below.setCell ?_ (by simp <;> omega) _ | refine Below.alloc ?_ (by simp <;> omega) _)⟩
    · have q1 : (x 1 == 1) = false := by simpa using e1
      have E1 := Lib.hid (nx1_f e1)
      clear e1
      go_wp2
      go_step3
      refine ⟨_, rfl, ?_⟩
      go_wp2
      go_step3
      refine ⟨_, rfl, ?_⟩
      by_cases e2 : x 2 = 1
      · have q2 : (x 2 == 1) = true := by simpa using e2
        have E2 := Lib.hid (nx1_t e2)
        clear e2
        go_wp2
        go_step3
        refine ⟨_, rfl, ?_⟩
        go_wp2
        go_step3
        go_wp2
        go_step3
        refine ⟨_, rfl, ?_⟩
        go_wp2
        simp only [jumpEnd]
        exact bodyPost_ret (v := .agg #[.int .i8 (-1), .int .i8 (x 1 + 1), .int .i8 (-1), .int .i8 (x 3)]) (by simp [results, Try.results60, go_sem]) rfl ⟨by simp only [wordV, quad, E0.out, E1.out, E2.out], by repeat (first | exact Below.refl _ _ | refine Below.setCell ?_ (by simp <;> omega) _ | refine Below.alloc ?_ (by simp <;> omega) _)⟩
      · have q2 : (x 2 == 1) = false := by simpa using e2
        have E2 := Lib.hid (nx1_f e2)
        clear e2
        go_wp2
        go_step3
        refine ⟨_, rfl, ?_⟩
        go_wp2
        go_step3
        refine ⟨_, rfl, ?_⟩
        go_wp2
        simp only [jumpEnd]
        exact bodyPost_ret (v := .agg #[.int .i8 (-1), .int .i8 (x 1 + 1), .int .i8 (x 2 + 1), .int .i8 (x 3)]) (by simp [results, Try.results60, go_sem]) rfl ⟨by simp only [wordV, quad, E0.out, E1.out, E2.out], by repeat (first | exact Below.refl _ _ | refine Below.setCell ?_ (by simp <;> omega) _ | refine Below.alloc ?_ (by simp <;> omega) _)⟩
  · have q0 : (x 0 == 1) = false := by simpa using e0
    have E0 := Lib.hid (nx1_f e0)
    clear e0
    go_wp2
    go_step3
    refine ⟨_, rfl, ?_⟩
    go_wp2
    go_step3
    refine ⟨_, rfl, ?_⟩
    by_cases e1 : x 1 = 1
    · have q1 : (x 1 == 1) = true := by simpa using e1
      have E1 := Lib.hid (nx1_t e1)
      clear e1
      go_wp2
      go_step3
      refine ⟨_, rfl, ?_⟩
      go_wp2
      go_step3
      go_wp2
      go_step3
      refine ⟨_, rfl, ?_⟩
      by_cases e2 : x 2 = 1
      · have q2 : (x 2 == 1) = true := by simpa using e2
        have E2 := Lib.hid (nx1_t e2)
        clear e2
        go_wp2
        go_step3
        refine ⟨_, rfl, ?_⟩
        go_wp2
        go_step3
        go_wp2
        go_step3
        refine ⟨_, rfl, ?_⟩
        go_wp2
        simp only [jumpEnd]
        exact bodyPost_ret (v := .agg #[.int .i8 (x 0 + 1), .int .i8 (-1), .int .i8 (-1), .int .i8 (x 3)]) (by simp [results, Try.results60, go_sem]) rfl ⟨by simp only [wordV, quad, E0.out, E1.out, E2.out], by repeat (first | exact Below.refl _ _ | refine Below.setCell ?_ (by simp <;> omega) _ | refine Below.alloc ?_ (by simp <;> omega) _)⟩
      · have q2 : (x 2 == 1) = false := by simpa using e2
        have E2 := Lib.hid (nx1_f e2)
        clear e2
        go_wp2
        go_step3
        refine ⟨_, rfl, ?_⟩
        go_wp2
        go_step3
        refine ⟨_, rfl, ?_⟩
        go_wp2
        simp only [jumpEnd]
        exact bodyPost_ret (v := .agg #[.int .i8 (x 0 + 1), .int .i8 (-1), .int .i8 (x 2 + 1), .int .i8 (x 3)]) (by simp [results, Try.results60, go_sem]) rfl ⟨by simp only [wordV, quad, E0.out, E1.out, E2.out], by repeat (first | exact Below.refl _ _ | refine Below.setCell ?_ (by simp <;> omega) _ | refine Below.alloc ?_ (by simp <;> omega) _)⟩
    · have q1 : (x 1 == 1) = false := by simpa using e1
      have E1 := Lib.hid (nx1_f e1)
      clear e1
      go_wp2
      go_step3
      refine ⟨_, rfl, ?_⟩
      go_wp2
      go_step3
      refine ⟨_, rfl, ?_⟩
      by_cases e2 : x 2 = 1
      · have q2 : (x 2 == 1) = true := by simpa using e2
        have E2 := Lib.hid (nx1_t e2)
        clear e2
        go_wp2
        go_step3
        refine ⟨_, rfl, ?_⟩
        go_wp2
        go_step3
        go_wp2
        go_step3
        refine ⟨_, rfl, ?_⟩
        go_wp2
        simp only [jumpEnd]
        exact bodyPost_ret (v := .agg #[.int .i8 (x 0 + 1), .int .i8 (x 1 + 1), .int .i8 (-1), .int .i8 (x 3)]) (by simp [results, Try.results60, go_sem]) rfl ⟨by simp only [wordV, quad, E0.out, E1.out, E2.out], by repeat (first | exact Below.refl _ _ | refine Below.setCell ?_ (by simp <;> omega) _ | refine Below.alloc ?_ (by simp <;> omega) _)⟩
      · have q2 : (x 2 == 1) = false := by simpa using e2
        have E2 := Lib.hid (nx1_f e2)
        clear e2
        go_wp2
        go_step3
        refine ⟨_, rfl, ?_⟩
        go_wp2
        go_step3
        refine ⟨_, rfl, ?_⟩
        go_wp2
        simp only [jumpEnd]
        exact bodyPost_ret (v := .agg #[.int .i8 (x 0 + 1), .int .i8 (x 1 + 1), .int .i8 (x 2 + 1), .int .i8 (x 3)]) (by simp [results, Try.results60, go_sem]) rfl ⟨by simp only [wordV, quad, E0.out, E1.out, E2.out], by repeat (first | exact Below.refl _ _ | refine Below.setCell ?_ (by simp <;> omega) _ | refine Below.alloc ?_ (by simp <;> omega) _)⟩
set_option maxHeartbeats 8000000 in
theorem turned_4 (x : Nat → Int) (w : World) (hx : S4 x) :
    Calls Try.prog 60 #[wordV x, .int .i64 4] w fun e w' => e = .returned (wordV (quad (nx1 (x 0)) (nx1 (x 1)) (nx1 (x 2)) (nx1 (x 3)))) ∧ Below w.heap.size w w' := by
  obtain ⟨h0, h1, h2, h3⟩ := hx
  go_enter Try.func60, Try.ntmps60
  go_wp2
  refine wp_scope_fuel 13 ?_
  go_wp2
  go_step3
  by_cases e0 : x 0 = 1
  · have q0 : (x 0 == 1) = true := by simpa using e0
    have E0 := Lib.hid (nx1_t e0)
    clear e0
    go_wp2
    go_step3
    refine ⟨_, rfl, ?_⟩
    go_wp2
    go_step3
    go_wp2
    go_step3
    refine ⟨_, rfl, ?_⟩
    by_cases e1 : x 1 = 1
    · have q1 : (x 1 == 1) = true := by simpa using e1
      have E1 := Lib.hid (nx1_t e1)
      clear e1
      go_wp2
      go_step3
      refine ⟨_, rfl, ?_⟩
      go_wp2
      go_step3
      go_wp2
      go_step3
      refine ⟨_, rfl, ?_⟩
      by_cases e2 : x 2 = 1
      · have q2 : (x 2 == 1) = true := by simpa using e2
        have E2 := Lib.hid (nx1_t e2)
        clear e2
        go_wp2
        go_step3
        refine ⟨_, rfl, ?_⟩
        go_wp2
        go_step3
        go_wp2
        go_step3
        refine ⟨_, rfl, ?_⟩
        by_cases e3 : x 3 = 1
        · have q3 : (x 3 == 1) = true := by simpa using e3
          have E3 := Lib.hid (nx1_t e3)
          clear e3
          go_wp2
          go_step3
          refine ⟨_, rfl, ?_⟩
          go_wp2
          go_step3
          go_wp2
          go_step3
          refine ⟨_, rfl, ?_⟩
          go_wp2
          simp only [jumpEnd]
          exact bodyPost_ret (v := .agg #[.int .i8 (-1), .int .i8 (-1), .int .i8 (-1), .int .i8 (-1)]) (by simp [results, Try.results60, go_sem]) rfl ⟨by simp only [wordV, quad, E0.out, E1.out, E2.out, E3.out], by repeat (first | exact Below.refl _ _ | refine Below.setCell ?_ (by simp <;> omega) _ | refine Below.alloc ?_ (by simp <;> omega) _)⟩
        · have q3 : (x 3 == 1) = false := by simpa using e3
          have E3 := Lib.hid (nx1_f e3)
          clear e3
          go_wp2
          go_step3
          refine ⟨_, rfl, ?_⟩
          go_wp2
          go_step3
          refine ⟨_, rfl, ?_⟩
          go_wp2
          simp only [jumpEnd]
          exact bodyPost_ret (v := .agg #[.int .i8 (-1), .int .i8 (-1), .int .i8 (-1), .int .i8 (x 3 + 1)]) (by simp [results, Try.results60, go_sem]) rfl ⟨by simp only [wordV, quad, E0.out, E1.out, E2.out, E3.out], by repeat (first | exact Below.refl _ _ | refine Below.setCell ?_ (by simp <;> omega) _ | refine Below.alloc ?_ (by simp <;> omega) _)⟩
      · have q2 : (x 2 == 1) = false := by simpa using e2
        have E2 := Lib.hid (nx1_f e2)
        clear e2
        go_wp2
        go_step3
        refine ⟨_, rfl, ?_⟩
        go_wp2
        go_step3
        refine ⟨_, rfl, ?_⟩
        by_cases e3 : x 3 = 1
        · have q3 : (x 3 == 1) = true := by simpa using e3
          have E3 := Lib.hid (nx1_t e3)
          clear e3
          go_wp2
          go_step3
          refine ⟨_, rfl, ?_⟩
          go_wp2
          go_step3
          go_wp2
          go_step3
          refine ⟨_, rfl, ?_⟩
          go_wp2
          simp only [jumpEnd]
          exact bodyPost_ret (v := .agg #[.int .i8 (-1), .int .i8 (-1), .int .i8 (x 2 + 1), .int .i8 (-1)]) (by simp [results, Try.results60, go_sem]) rfl ⟨by simp only [wordV, quad, E0.out, E1.out, E2.out, E3.out], by repeat (first | exact Below.refl _ _ | refine Below.setCell ?_ (by simp <;> omega) _ | refine Below.alloc ?_ (by simp <;> omega) _)⟩
        · have q3 : (x 3 == 1) = false := by simpa using e3
          have E3 := Lib.hid (nx1_f e3)
          clear e3
          go_wp2
          go_step3
          refine ⟨_, rfl, ?_⟩
          go_wp2
          go_step3
          refine ⟨_, rfl, ?_⟩
          go_wp2
          simp only [jumpEnd]
          exact bodyPost_ret (v := .agg #[.int .i8 (-1), .int .i8 (-1), .int .i8 (x 2 + 1), .int .i8 (x 3 + 1)]) (by simp [results, Try.results60, go_sem]) rfl ⟨by simp only [wordV, quad, E0.out, E1.out, E2.out, E3.out], by repeat (first | exact Below.refl _ _ | refine Below.setCell ?_ (by simp <;> omega) _ | refine Below.alloc ?_ (by simp <;> omega) _)⟩
    · have q1 : (x 1 == 1) = false := by simpa using e1
      have E1 := Lib.hid (nx1_f e1)
      clear e1
      go_wp2
      go_step3
      refine ⟨_, rfl, ?_⟩
      go_wp2
      go_step3
      refine ⟨_, rfl, ?_⟩
      by_cases e2 : x 2 = 1
      · have q2 : (x 2 == 1) = true := by simpa using e2
        have E2 := Lib.hid (nx1_t e2)
        clear e2
        go_wp2
        go_step3
        refine ⟨_, rfl, ?_⟩
        go_wp2
        go_step3
        go_wp2
        go_step3
        refine ⟨_, rfl, ?_⟩
        by_cases e3 : x 3 = 1
        · have q3 : (x 3 == 1) = true := by simpa using e3
          have E3 := Lib.hid (nx1_t e3)
          clear e3
          go_wp2
          go_step3
          refine ⟨_, rfl, ?_⟩
          go_wp2
          go_step3
          go_wp2
          go_step3
          refine ⟨_, rfl, ?_⟩
          go_wp2
          simp only [jumpEnd]
          exact bodyPost_ret (v := .agg #[.int .i8 (-1), .int .i8 (x 1 + 1), .int .i8 (-1), .int .i8 (-1)]) (by simp [results, Try.results60, go_sem]) rfl ⟨by simp only [wordV, quad, E0.out, E1.out, E2.out, E3.out], by repeat (first | exact Below.refl _ _ | refine Below.setCell ?_ (by simp <;> omega) _ | refine Below.alloc ?_ (by simp <;> omega) _)⟩
        · have q3 : (x 3 == 1) = false := by simpa using e3
          have E3 := Lib.hid (nx1_f e3)
          clear e3
          go_wp2
          go_step3
          refine ⟨_, rfl, ?_⟩
          go_wp2
          go_step3
          refine ⟨_, rfl, ?_⟩
          go_wp2
          simp only [jumpEnd]
          exact bodyPost_ret (v := .agg #[.int .i8 (-1), .int .i8 (x 1 + 1), .int .i8 (-1), .int .i8 (x 3 + 1)]) (by simp [results, Try.results60, go_sem]) rfl ⟨by simp only [wordV, quad, E0.out, E1.out, E2.out, E3.out], by repeat (first | exact Below.refl _ _ | refine Below.setCell ?_ (by simp <;> omega) _ | refine Below.alloc ?_ (by simp <;> omega) _)⟩
      · have q2 : (x 2 == 1) = false := by simpa using e2
        have E2 := Lib.hid (nx1_f e2)
        clear e2
        go_wp2
        go_step3
        refine ⟨_, rfl, ?_⟩
        go_wp2
        go_step3
        refine ⟨_, rfl, ?_⟩
        by_cases e3 : x 3 = 1
        · have q3 : (x 3 == 1) = true := by simpa using e3
          have E3 := Lib.hid (nx1_t e3)
          clear e3
          go_wp2
          go_step3
          refine ⟨_, rfl, ?_⟩
          go_wp2
          go_step3
          go_wp2
          go_step3
          refine ⟨_, rfl, ?_⟩
          go_wp2
          simp only [jumpEnd]
          exact bodyPost_ret (v := .agg #[.int .i8 (-1), .int .i8 (x 1 + 1), .int .i8 (x 2 + 1), .int .i8 (-1)]) (by simp [results, Try.results60, go_sem]) rfl ⟨by simp only [wordV, quad, E0.out, E1.out, E2.out, E3.out], by repeat (first | exact Below.refl _ _ | refine Below.setCell ?_ (by simp <;> omega) _ | refine Below.alloc ?_ (by simp <;> omega) _)⟩
        · have q3 : (x 3 == 1) = false := by simpa using e3
          have E3 := Lib.hid (nx1_f e3)
          clear e3
          go_wp2
          go_step3
          refine ⟨_, rfl, ?_⟩
          go_wp2
          go_step3
          refine ⟨_, rfl, ?_⟩
          go_wp2
          simp only [jumpEnd]
          exact bodyPost_ret (v := .agg #[.int .i8 (-1), .int .i8 (x 1 + 1), .int .i8 (x 2 + 1), .int .i8 (x 3 + 1)]) (by simp [results, Try.results60, go_sem]) rfl ⟨by simp only [wordV, quad, E0.out, E1.out, E2.out, E3.out], by repeat (first | exact Below.refl _ _ | refine Below.setCell ?_ (by simp <;> omega) _ | refine Below.alloc ?_ (by simp <;> omega) _)⟩
  · have q0 : (x 0 == 1) = false := by simpa using e0
    have E0 := Lib.hid (nx1_f e0)
    clear e0
    go_wp2
    go_step3
    refine ⟨_, rfl, ?_⟩
    go_wp2
    go_step3
    refine ⟨_, rfl, ?_⟩
    by_cases e1 : x 1 = 1
    · have q1 : (x 1 == 1) = true := by simpa using e1
      have E1 := Lib.hid (nx1_t e1)
      clear e1
      go_wp2
      go_step3
      refine ⟨_, rfl, ?_⟩
      go_wp2
      go_step3
      go_wp2
      go_step3
      refine ⟨_, rfl, ?_⟩
      by_cases e2 : x 2 = 1
      · have q2 : (x 2 == 1) = true := by simpa using e2
        have E2 := Lib.hid (nx1_t e2)
        clear e2
        go_wp2
        go_step3
        refine ⟨_, rfl, ?_⟩
        go_wp2
        go_step3
        go_wp2
        go_step3
        refine ⟨_, rfl, ?_⟩
        by_cases e3 : x 3 = 1
        · have q3 : (x 3 == 1) = true := by simpa using e3
          have E3 := Lib.hid (nx1_t e3)
          clear e3
          go_wp2
          go_step3
          refine ⟨_, rfl, ?_⟩
          go_wp2
          go_step3
          go_wp2
          go_step3
          refine ⟨_, rfl, ?_⟩
          go_wp2
          simp only [jumpEnd]
          exact bodyPost_ret (v := .agg #[.int .i8 (x 0 + 1), .int .i8 (-1), .int .i8 (-1), .int .i8 (-1)]) (by simp [results, Try.results60, go_sem]) rfl ⟨by simp only [wordV, quad, E0.out, E1.out, E2.out, E3.out], by repeat (first | exact Below.refl _ _ | refine Below.setCell ?_ (by simp <;> omega) _ | refine Below.alloc ?_ (by simp <;> omega) _)⟩
        · have q3 : (x 3 == 1) = false := by simpa using e3
          have E3 := Lib.hid (nx1_f e3)
          clear e3
          go_wp2
          go_step3
          refine ⟨_, rfl, ?_⟩
          go_wp2
          go_step3
          refine ⟨_, rfl, ?_⟩
          go_wp2
          simp only [jumpEnd]
          exact bodyPost_ret (v := .agg #[.int .i8 (x 0 + 1), .int .i8 (-1), .int .i8 (-1), .int .i8 (x 3 + 1)]) (by simp [results, Try.results60, go_sem]) rfl ⟨by simp only [wordV, quad, E0.out, E1.out, E2.out, E3.out], by repeat (first | exact Below.refl _ _ | refine Below.setCell ?_ (by simp <;> omega) _ | refine Below.alloc ?_ (by simp <;> omega) _)⟩
      · have q2 : (x 2 == 1) = false := by simpa using e2
        have E2 := Lib.hid (nx1_f e2)
        clear e2
        go_wp2
        go_step3
        refine ⟨_, rfl, ?_⟩
        go_wp2
        go_step3
        refine ⟨_, rfl, ?_⟩
        by_cases e3 : x 3 = 1
        · have q3 : (x 3 == 1) = true := by simpa using e3
          have E3 := Lib.hid (nx1_t e3)
          clear e3
          go_wp2
          go_step3
          refine ⟨_, rfl, ?_⟩
          go_wp2
          go_step3
          go_wp2
          go_step3
          refine ⟨_, rfl, ?_⟩
          go_wp2
          simp only [jumpEnd]
          exact bodyPost_ret (v := .agg #[.int .i8 (x 0 + 1), .int .i8 (-1), .int .i8 (x 2 + 1), .int .i8 (-1)]) (by simp [results, Try.results60, go_sem]) rfl ⟨by simp only [wordV, quad, E0.out, E1.out, E2.out, E3.out], by repeat (first | exact Below.refl _ _ | refine Below.setCell ?_ (by simp <;> omega) _ | refine Below.alloc ?_ (by simp <;> omega) _)⟩
        · have q3 : (x 3 == 1) = false := by simpa using e3
          have E3 := Lib.hid (nx1_f e3)
          clear e3
          go_wp2
          go_step3
          refine ⟨_, rfl, ?_⟩
          go_wp2
          go_step3
          refine ⟨_, rfl, ?_⟩
          go_wp2
          simp only [jumpEnd]
          exact bodyPost_ret (v := .agg #[.int .i8 (x 0 + 1), .int .i8 (-1), .int .i8 (x 2 + 1), .int .i8 (x 3 + 1)]) (by simp [results, Try.results60, go_sem]) rfl ⟨by simp only [wordV, quad, E0.out, E1.out, E2.out, E3.out], by repeat (first | exact Below.refl _ _ | refine Below.setCell ?_ (by simp <;> omega) _ | refine Below.alloc ?_ (by simp <;> omega) _)⟩
    · have q1 : (x 1 == 1) = false := by simpa using e1
      have E1 := Lib.hid (nx1_f e1)
      clear e1
      go_wp2
      go_step3
      refine ⟨_, rfl, ?_⟩
      go_wp2
      go_step3
      refine ⟨_, rfl, ?_⟩
      by_cases e2 : x 2 = 1
      · have q2 : (x 2 == 1) = true := by simpa using e2
        have E2 := Lib.hid (nx1_t e2)
        clear e2
        go_wp2
        go_step3
        refine ⟨_, rfl, ?_⟩
        go_wp2
        go_step3
        go_wp2
        go_step3
        refine ⟨_, rfl, ?_⟩
        by_cases e3 : x 3 = 1
        · have q3 : (x 3 == 1) = true := by simpa using e3
          have E3 := Lib.hid (nx1_t e3)
          clear e3
          go_wp2
          go_step3
          refine ⟨_, rfl, ?_⟩
          go_wp2
          go_step3
          go_wp2
          go_step3
          refine ⟨_, rfl, ?_⟩
          go_wp2
          simp only [jumpEnd]
          exact bodyPost_ret (v := .agg #[.int .i8 (x 0 + 1), .int .i8 (x 1 + 1), .int .i8 (-1), .int .i8 (-1)]) (by simp [results, Try.results60, go_sem]) rfl ⟨by simp only [wordV, quad, E0.out, E1.out, E2.out, E3.out], by repeat (first | exact Below.refl _ _ | refine Below.setCell ?_ (by simp <;> omega) _ | refine Below.alloc ?_ (by simp <;> omega) _)⟩
        · have q3 : (x 3 == 1) = false := by simpa using e3
          have E3 := Lib.hid (nx1_f e3)
          clear e3
          go_wp2
          go_step3
          refine ⟨_, rfl, ?_⟩
          go_wp2
          go_step3
          refine ⟨_, rfl, ?_⟩
          go_wp2
          simp only [jumpEnd]
          exact bodyPost_ret (v := .agg #[.int .i8 (x 0 + 1), .int .i8 (x 1 + 1), .int .i8 (-1), .int .i8 (x 3 + 1)]) (by simp [results, Try.results60, go_sem]) rfl ⟨by simp only [wordV, quad, E0.out, E1.out, E2.out, E3.out], by repeat (first | exact Below.refl _ _ | refine Below.setCell ?_ (by simp <;> omega) _ | refine Below.alloc ?_ (by simp <;> omega) _)⟩
      · have q2 : (x 2 == 1) = false := by simpa using e2
        have E2 := Lib.hid (nx1_f e2)
        clear e2
        go_wp2
        go_step3
        refine ⟨_, rfl, ?_⟩
        go_wp2
        go_step3
        refine ⟨_, rfl, ?_⟩
        by_cases e3 : x 3 = 1
        · have q3 : (x 3 == 1) = true := by simpa using e3
          have E3 := Lib.hid (nx1_t e3)
          clear e3
          go_wp2
          go_step3
          refine ⟨_, rfl, ?_⟩
          go_wp2
          go_step3
          go_wp2
          go_step3
          refine ⟨_, rfl, ?_⟩
          go_wp2
          simp only [jumpEnd]
          exact bodyPost_ret (v := .agg #[.int .i8 (x 0 + 1), .int .i8 (x 1 + 1), .int .i8 (x 2 + 1), .int .i8 (-1)]) (by simp [results, Try.results60, go_sem]) rfl ⟨by simp only [wordV, quad, E0.out, E1.out, E2.out, E3.out], by repeat (first | exact Below.refl _ _ | refine Below.setCell ?_ (by simp <;> omega) _ | refine Below.alloc ?_ (by simp <;> omega) _)⟩
        · have q3 : (x 3 == 1) = false := by simpa using e3
          have E3 := Lib.hid (nx1_f e3)
          clear e3
          go_wp2
          go_step3
          refine ⟨_, rfl, ?_⟩
          go_wp2
          go_step3
          refine ⟨_, rfl, ?_⟩
          go_wp2
          simp only [jumpEnd]
          exact bodyPost_ret (v := .agg #[.int .i8 (x 0 + 1), .int .i8 (x 1 + 1), .int .i8 (x 2 + 1), .int .i8 (x 3 + 1)]) (by simp [results, Try.results60, go_sem]) rfl ⟨by simp only [wordV, quad, E0.out, E1.out, E2.out, E3.out], by repeat (first | exact Below.refl _ _ | refine Below.setCell ?_ (by simp <;> omega) _ | refine Below.alloc ?_ (by simp <;> omega) _)⟩
theorem turned_any (n : Nat) (x : Nat → Int) (w : World) (hn : 1 ≤ n ∧ n ≤ 4) (hx : S4 x) :
    Calls Try.prog 60 #[wordV x, .int .i64 (n : Int)] w fun e w' => e = .returned (wordV (nxD n x)) ∧ Below w.heap.size w w' := by
  rcases four_in hn with rfl | rfl | rfl | rfl
  · exact turned_1 x w hx
  · exact turned_2 x w hx
  · exact turned_3 x w hx
  · exact turned_4 x w hx
end Go.Proofs.Ytieghjpecoiodaa
