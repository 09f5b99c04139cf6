/-
  Numbers of words: the powers of three, WordAt and NumberOfWord, and their models.
-/
import Derived.Test.YtieghjpecoiodaaD2
namespace Go.Proofs.Ytieghjpecoiodaa
open Go.RowKit
set_option maxRecDepth 100000
set_option linter.unusedVariables false

def p3 (n : Nat) : Int := match n with | 0 => 1 | 1 => 3 | 2 => 9 | 3 => 27 | _ => 81
theorem five_of {n : Nat} (h : n ≤ 4) : n = 0 ∨ n = 1 ∨ n = 2 ∨ n = 3 ∨ n = 4 := by omega
theorem four_in {n : Nat} (h : 1 ≤ n ∧ n ≤ 4) : n = 1 ∨ n = 2 ∨ n = 3 ∨ n = 4 := by omega
theorem l03Power_any (n : Nat) (w : World) (h : n ≤ 4) : Calls Try.prog 38 #[.int .i64 (n : Int)] w fun e w' => e = .returned (.int .i64 (p3 n)) ∧ w = w' := by
  rcases five_of h with rfl | rfl | rfl | rfl | rfl
  · go_enter Try.func38, Try.ntmps38
    go_wp2
    refine wp_loop_rounds 1 ?_
    iterate 1 (rw [rounds_succ]; go_wp2)
    go_ret
    exact ⟨rfl, rfl⟩
  · go_enter Try.func38, Try.ntmps38
    go_wp2
    refine wp_loop_rounds 2 ?_
    iterate 2 (rw [rounds_succ]; go_wp2)
    go_ret
    exact ⟨rfl, rfl⟩
  · go_enter Try.func38, Try.ntmps38
    go_wp2
    refine wp_loop_rounds 3 ?_
    iterate 3 (rw [rounds_succ]; go_wp2)
    go_ret
    exact ⟨rfl, rfl⟩
  · go_enter Try.func38, Try.ntmps38
    go_wp2
    refine wp_loop_rounds 4 ?_
    iterate 4 (rw [rounds_succ]; go_wp2)
    go_ret
    exact ⟨rfl, rfl⟩
  · go_enter Try.func38, Try.ntmps38
    go_wp2
    refine wp_loop_rounds 5 ?_
    iterate 5 (rw [rounds_succ]; go_wp2)
    go_ret
    exact ⟨rfl, rfl⟩
theorem countWords_any (n : Nat) (w : World) (h : n ≤ 4) : Calls Try.prog 58 #[.int .i64 (n : Int)] w fun e w' => e = .returned (.int .i64 (p3 n)) ∧ w = w' := by
  rcases five_of h with rfl | rfl | rfl | rfl | rfl
  · go_enter Try.func58, Try.ntmps58
    go_wp2
    refine wp_loop_rounds 1 ?_
    iterate 1 (rw [rounds_succ]; go_wp2)
    go_ret
    exact ⟨rfl, rfl⟩
  · go_enter Try.func58, Try.ntmps58
    go_wp2
    refine wp_loop_rounds 2 ?_
    iterate 2 (rw [rounds_succ]; go_wp2)
    go_ret
    exact ⟨rfl, rfl⟩
  · go_enter Try.func58, Try.ntmps58
    go_wp2
    refine wp_loop_rounds 3 ?_
    iterate 3 (rw [rounds_succ]; go_wp2)
    go_ret
    exact ⟨rfl, rfl⟩
  · go_enter Try.func58, Try.ntmps58
    go_wp2
    refine wp_loop_rounds 4 ?_
    iterate 4 (rw [rounds_succ]; go_wp2)
    go_ret
    exact ⟨rfl, rfl⟩
  · go_enter Try.func58, Try.ntmps58
    go_wp2
    refine wp_loop_rounds 5 ?_
    iterate 5 (rw [rounds_succ]; go_wp2)
    go_ret
    exact ⟨rfl, rfl⟩
theorem tm3 (n : Int) (h : 0 ≤ n ∧ n ≤ 80) : (0 ≤ n.tmod 3 ∧ n.tmod 3 ≤ 2) ∧ 0 ≤ n.tdiv 3 ∧ n.tdiv 3 ≤ 80 := by
  rw [Int.tmod_eq_emod_of_nonneg h.1, Int.tdiv_eq_ediv_of_nonneg h.1]; omega
/-- The letters of the word with a number. -/
def dgs (l : Nat) (n : Int) : Nat → Int := match l with
  | 1 => quad (n.tmod 3 - 1) 0 0 0
  | 2 => quad ((n.tdiv 3).tmod 3 - 1) (n.tmod 3 - 1) 0 0
  | 3 => quad (((n.tdiv 3).tdiv 3).tmod 3 - 1) ((n.tdiv 3).tmod 3 - 1) (n.tmod 3 - 1) 0
  | _ => quad ((((n.tdiv 3).tdiv 3).tdiv 3).tmod 3 - 1) (((n.tdiv 3).tdiv 3).tmod 3 - 1) ((n.tdiv 3).tmod 3 - 1) (n.tmod 3 - 1)
set_option maxHeartbeats 2000000 in
theorem l04At_any (l : Nat) (n : Int) (w : World) (hl : 1 ≤ l ∧ l ≤ 4) (hn : 0 ≤ n ∧ n ≤ 80) : Calls Try.prog 39 #[.int .i64 (l : Int), .int .i64 n] w fun e w' => e = .returned (wordV (dgs l n)) ∧ Below w.heap.size w w' := by
  obtain ⟨⟨b0, b0'⟩, q1⟩ := tm3 n hn
  obtain ⟨⟨b1, b1'⟩, q2⟩ := tm3 _ q1
  obtain ⟨⟨b2, b2'⟩, q3⟩ := tm3 _ q2
  obtain ⟨⟨b3, b3'⟩, q4⟩ := tm3 _ q3
  have hE1 : dgs 1 n = quad (n.tmod 3 - 1) 0 0 0 := rfl
  have hE2 : dgs 2 n = quad ((n.tdiv 3).tmod 3 - 1) (n.tmod 3 - 1) 0 0 := rfl
  have hE3 : dgs 3 n = quad (((n.tdiv 3).tdiv 3).tmod 3 - 1) ((n.tdiv 3).tmod 3 - 1) (n.tmod 3 - 1) 0 := rfl
  have hE4 : dgs 4 n = quad ((((n.tdiv 3).tdiv 3).tdiv 3).tmod 3 - 1) (((n.tdiv 3).tdiv 3).tmod 3 - 1) ((n.tdiv 3).tmod 3 - 1) (n.tmod 3 - 1) := rfl
  obtain ⟨n0, rfl⟩ : ∃ m, m = n := ⟨_, rfl⟩
  generalize hd3 : (((n0.tdiv 3).tdiv 3).tdiv 3).tmod 3 = d3 at *
  generalize hd2 : ((n0.tdiv 3).tdiv 3).tmod 3 = d2 at *
  generalize hd1 : (n0.tdiv 3).tmod 3 = d1 at *
  generalize hd0 : n0.tmod 3 = d0 at *
  generalize hq3 : ((n0.tdiv 3).tdiv 3).tdiv 3 = n3 at *
  generalize hq2 : (n0.tdiv 3).tdiv 3 = n2 at *
  generalize hq1 : n0.tdiv 3 = n1 at *
  rcases four_in hl with rfl | rfl | rfl | rfl
  · rw [hE1]
    clear hE1 hE2 hE3 hE4
    go_enter Try.func39, Try.ntmps39
    go_wp2
    refine wp_loop_rounds 2 ?_
    iterate 2 (rw [rounds_succ]; go_wp2)
    exact bodyPost_ret (v := .agg #[.int .i8 (d0 - 1), .int .i8 (0), .int .i8 (0), .int .i8 (0)]) (by simp [results, Try.results39, go_sem]) rfl ⟨rfl, by repeat (first | exact Below.refl _ _ | refine Below.setCell ?_ (by simp <;> omega) _ | refine Below.alloc ?_ (by simp <;> omega) _)⟩
  · rw [hE2]
    clear hE1 hE2 hE3 hE4
    go_enter Try.func39, Try.ntmps39
    go_wp2
    refine wp_loop_rounds 3 ?_
    iterate 3 (rw [rounds_succ]; go_wp2)
    exact bodyPost_ret (v := .agg #[.int .i8 (d1 - 1), .int .i8 (d0 - 1), .int .i8 (0), .int .i8 (0)]) (by simp [results, Try.results39, go_sem]) rfl ⟨rfl, by repeat (first | exact Below.refl _ _ | refine Below.setCell ?_ (by simp <;> omega) _ | refine Below.alloc ?_ (by simp <;> omega) _)⟩
  · rw [hE3]
    clear hE1 hE2 hE3 hE4
    go_enter Try.func39, Try.ntmps39
    go_wp2
    refine wp_loop_rounds 4 ?_
    iterate 4 (rw [rounds_succ]; go_wp2)
    exact bodyPost_ret (v := .agg #[.int .i8 (d2 - 1), .int .i8 (d1 - 1), .int .i8 (d0 - 1), .int .i8 (0)]) (by simp [results, Try.results39, go_sem]) rfl ⟨rfl, by repeat (first | exact Below.refl _ _ | refine Below.setCell ?_ (by simp <;> omega) _ | refine Below.alloc ?_ (by simp <;> omega) _)⟩
  · rw [hE4]
    clear hE1 hE2 hE3 hE4
    go_enter Try.func39, Try.ntmps39
    go_wp2
    refine wp_loop_rounds 5 ?_
    iterate 5 (rw [rounds_succ]; go_wp2)
    exact bodyPost_ret (v := .agg #[.int .i8 (d3 - 1), .int .i8 (d2 - 1), .int .i8 (d1 - 1), .int .i8 (d0 - 1)]) (by simp [results, Try.results39, go_sem]) rfl ⟨rfl, by repeat (first | exact Below.refl _ _ | refine Below.setCell ?_ (by simp <;> omega) _ | refine Below.alloc ?_ (by simp <;> omega) _)⟩
set_option maxHeartbeats 2000000 in
theorem wordAt_any (l : Nat) (n : Int) (w : World) (hl : 1 ≤ l ∧ l ≤ 4) (hn : 0 ≤ n ∧ n ≤ 80) : Calls Try.prog 59 #[.int .i64 (l : Int), .int .i64 n] w fun e w' => e = .returned (wordV (dgs l n)) ∧ Below w.heap.size w w' := by
  obtain ⟨⟨b0, b0'⟩, q1⟩ := tm3 n hn
  obtain ⟨⟨b1, b1'⟩, q2⟩ := tm3 _ q1
  obtain ⟨⟨b2, b2'⟩, q3⟩ := tm3 _ q2
  obtain ⟨⟨b3, b3'⟩, q4⟩ := tm3 _ q3
  have hE1 : dgs 1 n = quad (n.tmod 3 - 1) 0 0 0 := rfl
  have hE2 : dgs 2 n = quad ((n.tdiv 3).tmod 3 - 1) (n.tmod 3 - 1) 0 0 := rfl
  have hE3 : dgs 3 n = quad (((n.tdiv 3).tdiv 3).tmod 3 - 1) ((n.tdiv 3).tmod 3 - 1) (n.tmod 3 - 1) 0 := rfl
  have hE4 : dgs 4 n = quad ((((n.tdiv 3).tdiv 3).tdiv 3).tmod 3 - 1) (((n.tdiv 3).tdiv 3).tmod 3 - 1) ((n.tdiv 3).tmod 3 - 1) (n.tmod 3 - 1) := rfl
  obtain ⟨n0, rfl⟩ : ∃ m, m = n := ⟨_, rfl⟩
  generalize hd3 : (((n0.tdiv 3).tdiv 3).tdiv 3).tmod 3 = d3 at *
  generalize hd2 : ((n0.tdiv 3).tdiv 3).tmod 3 = d2 at *
  generalize hd1 : (n0.tdiv 3).tmod 3 = d1 at *
  generalize hd0 : n0.tmod 3 = d0 at *
  generalize hq3 : ((n0.tdiv 3).tdiv 3).tdiv 3 = n3 at *
  generalize hq2 : (n0.tdiv 3).tdiv 3 = n2 at *
  generalize hq1 : n0.tdiv 3 = n1 at *
  rcases four_in hl with rfl | rfl | rfl | rfl
  · rw [hE1]
    clear hE1 hE2 hE3 hE4
    go_enter Try.func59, Try.ntmps59
    go_wp2
    refine wp_loop_rounds 2 ?_
    iterate 2 (rw [rounds_succ]; go_wp2)
    exact bodyPost_ret (v := .agg #[.int .i8 (d0 - 1), .int .i8 (0), .int .i8 (0), .int .i8 (0)]) (by simp [results, Try.results59, go_sem]) rfl ⟨rfl, by repeat (first | exact Below.refl _ _ | refine Below.setCell ?_ (by simp <;> omega) _ | refine Below.alloc ?_ (by simp <;> omega) _)⟩
  · rw [hE2]
    clear hE1 hE2 hE3 hE4
    go_enter Try.func59, Try.ntmps59
    go_wp2
    refine wp_loop_rounds 3 ?_
    iterate 3 (rw [rounds_succ]; go_wp2)
    exact bodyPost_ret (v := .agg #[.int .i8 (d1 - 1), .int .i8 (d0 - 1), .int .i8 (0), .int .i8 (0)]) (by simp [results, Try.results59, go_sem]) rfl ⟨rfl, by repeat (first | exact Below.refl _ _ | refine Below.setCell ?_ (by simp <;> omega) _ | refine Below.alloc ?_ (by simp <;> omega) _)⟩
  · rw [hE3]
    clear hE1 hE2 hE3 hE4
    go_enter Try.func59, Try.ntmps59
    go_wp2
    refine wp_loop_rounds 4 ?_
    iterate 4 (rw [rounds_succ]; go_wp2)
    exact bodyPost_ret (v := .agg #[.int .i8 (d2 - 1), .int .i8 (d1 - 1), .int .i8 (d0 - 1), .int .i8 (0)]) (by simp [results, Try.results59, go_sem]) rfl ⟨rfl, by repeat (first | exact Below.refl _ _ | refine Below.setCell ?_ (by simp <;> omega) _ | refine Below.alloc ?_ (by simp <;> omega) _)⟩
  · rw [hE4]
    clear hE1 hE2 hE3 hE4
    go_enter Try.func59, Try.ntmps59
    go_wp2
    refine wp_loop_rounds 5 ?_
    iterate 5 (rw [rounds_succ]; go_wp2)
    exact bodyPost_ret (v := .agg #[.int .i8 (d3 - 1), .int .i8 (d2 - 1), .int .i8 (d1 - 1), .int .i8 (d0 - 1)]) (by simp [results, Try.results59, go_sem]) rfl ⟨rfl, by repeat (first | exact Below.refl _ _ | refine Below.setCell ?_ (by simp <;> omega) _ | refine Below.alloc ?_ (by simp <;> omega) _)⟩
/-- What WordAt says. -/
def WaO (l n : Int) : Prop := (1 ≤ l ∧ l ≤ 4) ∧ 0 ≤ n ∧ n ≤ p3 l.toNat - 1
noncomputable def waC (l n : Int) : Int := if cb (WaO l n) = true then 0 else 2
noncomputable def waX (l n : Int) : Nat → Int := if cb (WaO l n) = true then dgs l.toNat n else quad 0 0 0 0
theorem p3_bd (n : Nat) : 1 ≤ p3 n ∧ p3 n ≤ 81 := by
  unfold p3; split <;> omega
end Go.Proofs.Ytieghjpecoiodaa
