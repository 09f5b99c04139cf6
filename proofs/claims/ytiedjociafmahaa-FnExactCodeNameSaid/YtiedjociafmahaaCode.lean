/-
  The walk of the law of CodeName: the nine codes, and every other number.
-/
import Derived.Test.YtiedjociafmahaaScale
namespace Go.Proofs.Ytiedjociafmahaa
open Go.RowKit

theorem codeName_0 (w : World) : Calls Try.prog 8 #[.int .i64 0] w fun e w' => e = .returned (.bool true) ∧ Below w.heap.size w w' := by
  go_enter Try.func8, Try.ntmps8
  go_wp2_with (go_in)
  go_ret
  exact ⟨rfl, (Below.refl _ _).alloc (Nat.le_refl _) _⟩
theorem codeName_1 (w : World) : Calls Try.prog 8 #[.int .i64 1] w fun e w' => e = .returned (.bool true) ∧ Below w.heap.size w w' := by
  go_enter Try.func8, Try.ntmps8
  go_wp2_with (go_in)
  go_ret
  exact ⟨rfl, (Below.refl _ _).alloc (Nat.le_refl _) _⟩
theorem codeName_2 (w : World) : Calls Try.prog 8 #[.int .i64 2] w fun e w' => e = .returned (.bool true) ∧ Below w.heap.size w w' := by
  go_enter Try.func8, Try.ntmps8
  go_wp2_with (go_in)
  go_ret
  exact ⟨rfl, (Below.refl _ _).alloc (Nat.le_refl _) _⟩
theorem codeName_3 (w : World) : Calls Try.prog 8 #[.int .i64 3] w fun e w' => e = .returned (.bool true) ∧ Below w.heap.size w w' := by
  go_enter Try.func8, Try.ntmps8
  go_wp2_with (go_in)
  go_ret
  exact ⟨rfl, (Below.refl _ _).alloc (Nat.le_refl _) _⟩
theorem codeName_4 (w : World) : Calls Try.prog 8 #[.int .i64 4] w fun e w' => e = .returned (.bool true) ∧ Below w.heap.size w w' := by
  go_enter Try.func8, Try.ntmps8
  go_wp2_with (go_in)
  go_ret
  exact ⟨rfl, (Below.refl _ _).alloc (Nat.le_refl _) _⟩
theorem codeName_5 (w : World) : Calls Try.prog 8 #[.int .i64 5] w fun e w' => e = .returned (.bool true) ∧ Below w.heap.size w w' := by
  go_enter Try.func8, Try.ntmps8
  go_wp2_with (go_in)
  go_ret
  exact ⟨rfl, (Below.refl _ _).alloc (Nat.le_refl _) _⟩
theorem codeName_6 (w : World) : Calls Try.prog 8 #[.int .i64 6] w fun e w' => e = .returned (.bool true) ∧ Below w.heap.size w w' := by
  go_enter Try.func8, Try.ntmps8
  go_wp2_with (go_in)
  go_ret
  exact ⟨rfl, (Below.refl _ _).alloc (Nat.le_refl _) _⟩
theorem codeName_7 (w : World) : Calls Try.prog 8 #[.int .i64 7] w fun e w' => e = .returned (.bool true) ∧ Below w.heap.size w w' := by
  go_enter Try.func8, Try.ntmps8
  go_wp2_with (go_in)
  go_ret
  exact ⟨rfl, (Below.refl _ _).alloc (Nat.le_refl _) _⟩
theorem codeName_8 (w : World) : Calls Try.prog 8 #[.int .i64 8] w fun e w' => e = .returned (.bool true) ∧ Below w.heap.size w w' := by
  go_enter Try.func8, Try.ntmps8
  go_wp2_with (go_in)
  go_ret
  exact ⟨rfl, (Below.refl _ _).alloc (Nat.le_refl _) _⟩
theorem codeName_other (n : Int) (w : World) (h : ¬ (0 ≤ n ∧ n ≤ 8)) : Calls Try.prog 8 #[.int .i64 n] w fun e w' => e = .returned (.bool true) ∧ Below w.heap.size w w' := by
  have k0 : (n == 0) = false := by simp; omega
  have k1 : (n == 1) = false := by simp; omega
  have k2 : (n == 2) = false := by simp; omega
  have k3 : (n == 3) = false := by simp; omega
  have k4 : (n == 4) = false := by simp; omega
  have k5 : (n == 5) = false := by simp; omega
  have k6 : (n == 6) = false := by simp; omega
  have k7 : (n == 7) = false := by simp; omega
  have k8 : (n == 8) = false := by simp; omega
  have hin : ∀ W, Calls Try.prog 34 #[.int .i64 n, .int .i64 0, .int .i64 8] W fun e w' => e = .returned (.bool false) ∧ W = w' := fun W => l00In_f n 0 8 W h
  have H := Lib.hid hin
  clear hin h
  go_enter Try.func8, Try.ntmps8
  go_wp2_with (first | (go_at_call 34; refine (H.out _).mono ?_; rintro e w' ⟨rfl, rfl⟩) | go_in)
  go_ret
  exact ⟨rfl, (Below.refl _ _).alloc (Nat.le_refl _) _⟩
theorem walk_FnExactCodeName (n0 : Int) (w : World) :
    Calls Try.prog 8 #[.int .i64 n0] w fun e w' => e = .returned (.bool true) ∧ Below w.heap.size w w' := by
  by_cases h : 0 ≤ n0 ∧ n0 ≤ 8
  · have : n0 = 0 ∨ n0 = 1 ∨ n0 = 2 ∨ n0 = 3 ∨ n0 = 4 ∨ n0 = 5 ∨ n0 = 6 ∨ n0 = 7 ∨ n0 = 8 := by omega
    rcases this with rfl | rfl | rfl | rfl | rfl | rfl | rfl | rfl | rfl
    · exact codeName_0 w
    · exact codeName_1 w
    · exact codeName_2 w
    · exact codeName_3 w
    · exact codeName_4 w
    · exact codeName_5 w
    · exact codeName_6 w
    · exact codeName_7 w
    · exact codeName_8 w
  · exact codeName_other n0 w h
end Go.Proofs.Ytiedjociafmahaa
