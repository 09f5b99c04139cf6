/-
  In how many letters two words differ: the program's distance and the model's.
-/
import Derived.Test.YtieghjpecoiodaaD2
namespace Go.Proofs.Ytieghjpecoiodaa
open Go.RowKit
set_option maxRecDepth 100000
set_option linter.unusedVariables false

def df (x y : Nat → Int) (i : Nat) : Int := if x i = y i then 0 else 1
def dist (x y : Nat → Int) : Nat → Int
  | 0 => 0
  | n + 1 => dist x y n + df x y n
theorem dist_in (x y : Nat → Int) (n : Nat) : 0 ≤ dist x y n ∧ dist x y n ≤ n := by
  induction n with
  | zero => exact ⟨Int.le_refl _, Int.le_refl _⟩
  | succ n ih =>
    have h : 0 ≤ df x y n ∧ df x y n ≤ 1 := by unfold df; split <;> omega
    show 0 ≤ dist x y n + df x y n ∧ dist x y n + df x y n ≤ ((n + 1 : Nat) : Int)
    omega
theorem index_wd0 (x : Nat → Int) (w : World) : (Instr.index 40 (wordV x) (.int .i64 0)).run Try.prog w = .ok (.int .i8 (x 0)) w := by kernel_rfl
theorem index_wd1 (x : Nat → Int) (w : World) : (Instr.index 40 (wordV x) (.int .i64 1)).run Try.prog w = .ok (.int .i8 (x 1)) w := by kernel_rfl
theorem index_wd2 (x : Nat → Int) (w : World) : (Instr.index 40 (wordV x) (.int .i64 2)).run Try.prog w = .ok (.int .i8 (x 2)) w := by kernel_rfl
theorem index_wd3 (x : Nat → Int) (w : World) : (Instr.index 40 (wordV x) (.int .i64 3)).run Try.prog w = .ok (.int .i8 (x 3)) w := by kernel_rfl
set_option maxHeartbeats 2000000 in
theorem distance_any (x y : Nat → Int) (w : World) :
    Calls Try.prog 25 #[wordV x, wordV y] w fun e w' => e = .returned (.int .i64 (dist x y 4)) ∧ Below w.heap.size w w' := by
  have F0 := ((FR.start w).box (wordC x) 40).box (wordC y) 40
  simp only [World.size_alloc] at F0
  have HB := Lib.hid F0.below
  have HK := Lib.hid (And.intro (F0.blk _ (List.mem_cons_of_mem _ List.mem_cons_self)) (F0.blk _ List.mem_cons_self))
  obtain ⟨a0, a1, a2, a3, -⟩ := (F0.blk _ (List.mem_cons_of_mem _ List.mem_cons_self)).four
  clear F0
  go_enter Try.func25, Try.ntmps25
  go_wp2
  go_loop [5, 6, 7, 9] (fun cv s6 s7 iv => ∃ i : Nat, iv = .int .i64 (i : Int) ∧ i ≤ 4 ∧ cv = .int .i64 (dist x y i)) (fun _ _ _ iv => 4 - (intOf iv).toNat)
  case atStart => exact ⟨0, rfl, by omega, rfl⟩
  case round =>
    obtain ⟨i, rfl, hi, rfl⟩ := hrel
    by_cases hlt : i < 4
    case neg =>
      obtain rfl : i = 4 := by omega
      go_wp2
      go_ret
      exact ⟨rfl, HB.out⟩
    have hiz : (i : Int) < 4 := by omega
    have hb := dist_in x y i
    have ix0 := fun W => index_wd0 x W
    have ix1 := fun W => index_wd1 x W
    have ix2 := fun W => index_wd2 x W
    have ix3 := fun W => index_wd3 x W
    obtain ⟨k0, k1, k2, k3, k4⟩ := HK.out.2.four
    obtain ⟨q0, q1, q2, q3, q4⟩ := HK.out.1.four
    have hS := Lib.hid (show dist x y (i + 1) = dist x y i + df x y i from rfl)
    generalize dist x y i = d at *
    rcases (show i = 0 ∨ i = 1 ∨ i = 2 ∨ i = 3 by omega) with rfl | rfl | rfl | rfl
    · by_cases h : x 0 = y 0
      · have hq : (x 0 != y 0) = false := by simp [h]
        have hT := Lib.hid (show dist x y (0 + 1) = d by rw [hS.out, df, if_pos h]; omega)
        clear h
        go_wp2
        go_round
        case rel => exact ⟨0 + 1, rfl, by omega, by rw [hT.out]⟩
        case measure => simp [intOf]
      · have hq : (x 0 != y 0) = true := by simp [h]
        have hT := Lib.hid (show dist x y (0 + 1) = d + 1 by rw [hS.out, df, if_neg h])
        clear h
        go_wp2
        go_round
        case rel => exact ⟨0 + 1, rfl, by omega, by rw [hT.out]⟩
        case measure => simp [intOf]
    · by_cases h : x 1 = y 1
      · have hq : (x 1 != y 1) = false := by simp [h]
        have hT := Lib.hid (show dist x y (1 + 1) = d by rw [hS.out, df, if_pos h]; omega)
        clear h
        go_wp2
        go_round
        case rel => exact ⟨1 + 1, rfl, by omega, by rw [hT.out]⟩
        case measure => simp [intOf]
      · have hq : (x 1 != y 1) = true := by simp [h]
        have hT := Lib.hid (show dist x y (1 + 1) = d + 1 by rw [hS.out, df, if_neg h])
        clear h
        go_wp2
        go_round
        case rel => exact ⟨1 + 1, rfl, by omega, by rw [hT.out]⟩
        case measure => simp [intOf]
    · by_cases h : x 2 = y 2
      · have hq : (x 2 != y 2) = false := by simp [h]
        have hT := Lib.hid (show dist x y (2 + 1) = d by rw [hS.out, df, if_pos h]; omega)
        clear h
        go_wp2
        go_round
        case rel => exact ⟨2 + 1, rfl, by omega, by rw [hT.out]⟩
        case measure => simp [intOf]
      · have hq : (x 2 != y 2) = true := by simp [h]
        have hT := Lib.hid (show dist x y (2 + 1) = d + 1 by rw [hS.out, df, if_neg h])
        clear h
        go_wp2
        go_round
        case rel => exact ⟨2 + 1, rfl, by omega, by rw [hT.out]⟩
        case measure => simp [intOf]
    · by_cases h : x 3 = y 3
      · have hq : (x 3 != y 3) = false := by simp [h]
        have hT := Lib.hid (show dist x y (3 + 1) = d by rw [hS.out, df, if_pos h]; omega)
        clear h
        go_wp2
        go_round
        case rel => exact ⟨3 + 1, rfl, by omega, by rw [hT.out]⟩
        case measure => simp [intOf]
      · have hq : (x 3 != y 3) = true := by simp [h]
        have hT := Lib.hid (show dist x y (3 + 1) = d + 1 by rw [hS.out, df, if_neg h])
        clear h
        go_wp2
        go_round
        case rel => exact ⟨3 + 1, rfl, by omega, by rw [hT.out]⟩
        case measure => simp [intOf]
set_option maxHeartbeats 2000000 in
theorem l04Distance_any (x y : Nat → Int) (w : World) :
    Calls Try.prog 29 #[wordV x, wordV y] w fun e w' => e = .returned (.int .i64 (dist x y 4)) ∧ Below w.heap.size w w' := by
  have F0 := ((FR.start w).box (wordC x) 40).box (wordC y) 40
  simp only [World.size_alloc] at F0
  have HF := Lib.hid F0
  clear F0
  go_enter Try.func29, Try.ntmps29
  go_wp2
  go_loopw [5, 6] (fun cv iv wr => ∃ i : Nat, iv = .int .i64 (i : Int) ∧ i ≤ 4 ∧ cv = .int .i64 (dist x y i) ∧ FR w [(w.heap.size + 1, wordC y, 40), (w.heap.size, wordC x, 40)] wr) (fun _ iv _ => 4 - (intOf iv).toNat)
  case atStart => exact ⟨0, rfl, by omega, rfl, HF.out⟩
  case round =>
    clear HF
    obtain ⟨i, rfl, hi, rfl, hF⟩ := hrel
    by_cases hlt : i < 4
    case neg =>
      obtain rfl : i = 4 := by omega
      have HB := Lib.hid hF.below
      clear hF
      go_wp2
      go_ret
      exact ⟨rfl, HB.out⟩
    have hiz : (i : Int) < 4 := by omega
    have hb := dist_in x y i
    obtain ⟨k0, k1, k2, k3, k4⟩ := (hF.blk _ List.mem_cons_self).four
    obtain ⟨q0, q1, q2, q3, q4⟩ := (hF.blk _ (List.mem_cons_of_mem _ List.mem_cons_self)).four
    have HF := Lib.hid hF
    have hS := Lib.hid (show dist x y (i + 1) = dist x y i + df x y i from rfl)
    generalize dist x y i = d at *
    clear hF
    dsimp only at k0 k1 k2 k3 k4 q0 q1 q2 q3 q4
    rcases (show i = 0 ∨ i = 1 ∨ i = 2 ∨ i = 3 by omega) with rfl | rfl | rfl | rfl
    · by_cases h : x 0 = y 0
      · have hq : (x 0 != y 0) = false := by simp [h]
        have hT := Lib.hid (show dist x y (0 + 1) = d by rw [hS.out, df, if_pos h]; omega)
        clear h
        go_wp2
        go_quiet (fail)
        go_wp2
        go_roundw
        case rel => exact ⟨0 + 1, rfl, by omega, by rw [hT.out], HF.out.drewN _⟩
        case measure => simp [intOf]
      · have hq : (x 0 != y 0) = true := by simp [h]
        have hT := Lib.hid (show dist x y (0 + 1) = d + 1 by rw [hS.out, df, if_neg h])
        clear h
        go_wp2
        go_quiet (fail)
        go_wp2
        go_roundw
        case rel => exact ⟨0 + 1, rfl, by omega, by rw [hT.out], HF.out.drewN _⟩
        case measure => simp [intOf]
    · by_cases h : x 1 = y 1
      · have hq : (x 1 != y 1) = false := by simp [h]
        have hT := Lib.hid (show dist x y (1 + 1) = d by rw [hS.out, df, if_pos h]; omega)
        clear h
        go_wp2
        go_quiet (fail)
        go_wp2
        go_roundw
        case rel => exact ⟨1 + 1, rfl, by omega, by rw [hT.out], HF.out.drewN _⟩
        case measure => simp [intOf]
      · have hq : (x 1 != y 1) = true := by simp [h]
        have hT := Lib.hid (show dist x y (1 + 1) = d + 1 by rw [hS.out, df, if_neg h])
        clear h
        go_wp2
        go_quiet (fail)
        go_wp2
        go_roundw
        case rel => exact ⟨1 + 1, rfl, by omega, by rw [hT.out], HF.out.drewN _⟩
        case measure => simp [intOf]
    · by_cases h : x 2 = y 2
      · have hq : (x 2 != y 2) = false := by simp [h]
        have hT := Lib.hid (show dist x y (2 + 1) = d by rw [hS.out, df, if_pos h]; omega)
        clear h
        go_wp2
        go_quiet (fail)
        go_wp2
        go_roundw
        case rel => exact ⟨2 + 1, rfl, by omega, by rw [hT.out], HF.out.drewN _⟩
        case measure => simp [intOf]
      · have hq : (x 2 != y 2) = true := by simp [h]
        have hT := Lib.hid (show dist x y (2 + 1) = d + 1 by rw [hS.out, df, if_neg h])
        clear h
        go_wp2
        go_quiet (fail)
        go_wp2
        go_roundw
        case rel => exact ⟨2 + 1, rfl, by omega, by rw [hT.out], HF.out.drewN _⟩
        case measure => simp [intOf]
    · by_cases h : x 3 = y 3
      · have hq : (x 3 != y 3) = false := by simp [h]
        have hT := Lib.hid (show dist x y (3 + 1) = d by rw [hS.out, df, if_pos h]; omega)
        clear h
        go_wp2
        go_quiet (fail)
        go_wp2
        go_roundw
        case rel => exact ⟨3 + 1, rfl, by omega, by rw [hT.out], HF.out.drewN _⟩
        case measure => simp [intOf]
      · have hq : (x 3 != y 3) = true := by simp [h]
        have hT := Lib.hid (show dist x y (3 + 1) = d + 1 by rw [hS.out, df, if_neg h])
        clear h
        go_wp2
        go_quiet (fail)
        go_wp2
        go_roundw
        case rel => exact ⟨3 + 1, rfl, by omega, by rw [hT.out], HF.out.drewN _⟩
        case measure => simp [intOf]
end Go.Proofs.Ytieghjpecoiodaa
