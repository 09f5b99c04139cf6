/-
  The model's next word.
-/
import Derived.Test.YtieghjpecoiodaaD6
namespace Go.Proofs.Ytieghjpecoiodaa
open Go.RowKit
set_option maxRecDepth 100000
set_option linter.unusedVariables false

theorem l04Next_any (v : Int) (w : World) (hv : -1 ≤ v ∧ v ≤ 1) : Calls Try.prog 56 #[.int .i8 v] w fun e w' => e = .returned (.int .i8 (nx1 v)) ∧ w = w' := by
  by_cases h : v = 1
  · rw [nx1_t h]
    subst h
    go_enter Try.func56, Try.ntmps56
    go_wp2
    go_ret
    exact ⟨rfl, rfl⟩
  · rw [nx1_f h]
    have hq : (v == 1) = false := by simpa using h
    clear h
    go_enter Try.func56, Try.ntmps56
    go_wp2
    go_ret
    exact ⟨rfl, rfl⟩
set_option maxHeartbeats 4000000 in
theorem l04NextWord_any (n : Nat) (x : Nat → Int) (w : World) (hn : 1 ≤ n ∧ n ≤ 4) (hx : S4 x) :
    Calls Try.prog 41 #[.int .i64 (n : Int), wordV x] w fun e w' => e = .returned (wordV (nxD n x)) ∧ Below w.heap.size w w' := by
  have F0 := (FR.start w).box (wordC x) 40
  have HN := Lib.hid (fun v W h => l04Next_any v W h)
  obtain ⟨h0, h1, h2, h3⟩ := hx
  obtain ⟨c0, c1, c2, c3, c4⟩ := (F0.blk _ List.mem_cons_self).four
  clear F0
  rcases four_in hn with rfl | rfl | rfl | rfl
  · go_enter Try.func41, Try.ntmps41
    go_wp2
    refine wp_loop_rounds 2 ?_
    rw [rounds_succ]
    go_wp2_with fail
    refine (HN.out (x 0) _ (by omega)).mono ?_
    rintro e w2 ⟨rfl, rfl⟩
    go_wp2
    rw [rounds_succ]
    go_wp2
    exact bodyPost_ret (v := .agg #[.int .i8 (nx1 (x 0)), .int .i8 (x 1), .int .i8 (x 2), .int .i8 (x 3)]) (by simp [results, Try.results41, go_sem]) rfl ⟨rfl, by repeat (first | exact Below.refl _ _ | refine Below.setCell ?_ (by simp <;> omega) _ | refine Below.alloc ?_ (by simp <;> omega) _)⟩
  · go_enter Try.func41, Try.ntmps41
    go_wp2
    refine wp_loop_rounds 3 ?_
    rw [rounds_succ]
    go_wp2_with fail
    refine (HN.out (x 0) _ (by omega)).mono ?_
    rintro e w2 ⟨rfl, rfl⟩
    go_wp2
    rw [rounds_succ]
    go_wp2_with fail
    refine (HN.out (x 1) _ (by omega)).mono ?_
    rintro e w2 ⟨rfl, rfl⟩
    go_wp2
    rw [rounds_succ]
    go_wp2
    exact bodyPost_ret (v := .agg #[.int .i8 (nx1 (x 0)), .int .i8 (nx1 (x 1)), .int .i8 (x 2), .int .i8 (x 3)]) (by simp [results, Try.results41, go_sem]) rfl ⟨rfl, by repeat (first | exact Below.refl _ _ | refine Below.setCell ?_ (by simp <;> omega) _ | refine Below.alloc ?_ (by simp <;> omega) _)⟩
  · go_enter Try.func41, Try.ntmps41
    go_wp2
    refine wp_loop_rounds 4 ?_
    rw [rounds_succ]
    go_wp2_with fail
    refine (HN.out (x 0) _ (by omega)).mono ?_
    rintro e w2 ⟨rfl, rfl⟩
    go_wp2
    rw [rounds_succ]
    go_wp2_with fail
    refine (HN.out (x 1) _ (by omega)).mono ?_
    rintro e w2 ⟨rfl, rfl⟩
    go_wp2
    rw [rounds_succ]
    go_wp2_with fail
    refine (HN.out (x 2) _ (by omega)).mono ?_
    rintro e w2 ⟨rfl, rfl⟩
    go_wp2
    rw [rounds_succ]
    go_wp2
    exact bodyPost_ret (v := .agg #[.int .i8 (nx1 (x 0)), .int .i8 (nx1 (x 1)), .int .i8 (nx1 (x 2)), .int .i8 (x 3)]) (by simp [results, Try.results41, go_sem]) rfl ⟨rfl, by repeat (first | exact Below.refl _ _ | refine Below.setCell ?_ (by simp <;> omega) _ | refine Below.alloc ?_ (by simp <;> omega) _)⟩
  · go_enter Try.func41, Try.ntmps41
    go_wp2
    refine wp_loop_rounds 5 ?_
    rw [rounds_succ]
    go_wp2_with fail
    refine (HN.out (x 0) _ (by omega)).mono ?_
    rintro e w2 ⟨rfl, rfl⟩
    go_wp2
    rw [rounds_succ]
    go_wp2_with fail
    refine (HN.out (x 1) _ (by omega)).mono ?_
    rintro e w2 ⟨rfl, rfl⟩
    go_wp2
    rw [rounds_succ]
    go_wp2_with fail
    refine (HN.out (x 2) _ (by omega)).mono ?_
    rintro e w2 ⟨rfl, rfl⟩
    go_wp2
    rw [rounds_succ]
    go_wp2_with fail
    refine (HN.out (x 3) _ (by omega)).mono ?_
    rintro e w2 ⟨rfl, rfl⟩
    go_wp2
    rw [rounds_succ]
    go_wp2
    exact bodyPost_ret (v := .agg #[.int .i8 (nx1 (x 0)), .int .i8 (nx1 (x 1)), .int .i8 (nx1 (x 2)), .int .i8 (nx1 (x 3))]) (by simp [results, Try.results41, go_sem]) rfl ⟨rfl, by repeat (first | exact Below.refl _ _ | refine Below.setCell ?_ (by simp <;> omega) _ | refine Below.alloc ?_ (by simp <;> omega) _)⟩
end Go.Proofs.Ytieghjpecoiodaa
