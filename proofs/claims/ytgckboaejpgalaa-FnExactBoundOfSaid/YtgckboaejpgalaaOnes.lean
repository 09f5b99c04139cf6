/-
  How many bits a mask of so many coins has.
-/
import Derived.Test.YtgckboaejpgalaaC6
namespace Go.Proofs.Ytgckboaejpgalaa
open Go.RowKit Go.Shelf
set_option maxRecDepth 100000

theorem ones_0 (w : World) :
    Calls Try.prog 45 #[.int .u16 0] w fun e W' => e = .returned (.int .i64 0) ∧ Dr w W' := by
  have hb : bits BinOp.and IntKind.u16 0 255 = 0 := by kernel_rfl
  go_enter Try.func45, Try.ntmps45
  go_wp2
  go_region
  go_wp2
  go_ret
  exact ⟨rfl, Dr.of _ _⟩
theorem ones_1 (w : World) :
    Calls Try.prog 45 #[.int .u16 1] w fun e W' => e = .returned (.int .i64 1) ∧ Dr w W' := by
  have hb : bits BinOp.and IntKind.u16 1 255 = 1 := by kernel_rfl
  go_enter Try.func45, Try.ntmps45
  go_wp2
  go_region
  go_wp2
  go_ret
  exact ⟨rfl, Dr.of _ _⟩
theorem ones_2 (w : World) :
    Calls Try.prog 45 #[.int .u16 3] w fun e W' => e = .returned (.int .i64 2) ∧ Dr w W' := by
  have hb : bits BinOp.and IntKind.u16 3 255 = 3 := by kernel_rfl
  go_enter Try.func45, Try.ntmps45
  go_wp2
  go_region
  go_wp2
  go_ret
  exact ⟨rfl, Dr.of _ _⟩
theorem ones_3 (w : World) :
    Calls Try.prog 45 #[.int .u16 7] w fun e W' => e = .returned (.int .i64 3) ∧ Dr w W' := by
  have hb : bits BinOp.and IntKind.u16 7 255 = 7 := by kernel_rfl
  go_enter Try.func45, Try.ntmps45
  go_wp2
  go_region
  go_wp2
  go_ret
  exact ⟨rfl, Dr.of _ _⟩
theorem ones_4 (w : World) :
    Calls Try.prog 45 #[.int .u16 15] w fun e W' => e = .returned (.int .i64 4) ∧ Dr w W' := by
  have hb : bits BinOp.and IntKind.u16 15 255 = 15 := by kernel_rfl
  go_enter Try.func45, Try.ntmps45
  go_wp2
  go_region
  go_wp2
  go_ret
  exact ⟨rfl, Dr.of _ _⟩
theorem ones_5 (w : World) :
    Calls Try.prog 45 #[.int .u16 31] w fun e W' => e = .returned (.int .i64 5) ∧ Dr w W' := by
  have hb : bits BinOp.and IntKind.u16 31 255 = 31 := by kernel_rfl
  go_enter Try.func45, Try.ntmps45
  go_wp2
  go_region
  go_wp2
  go_ret
  exact ⟨rfl, Dr.of _ _⟩
theorem ones_6 (w : World) :
    Calls Try.prog 45 #[.int .u16 63] w fun e W' => e = .returned (.int .i64 6) ∧ Dr w W' := by
  have hb : bits BinOp.and IntKind.u16 63 255 = 63 := by kernel_rfl
  go_enter Try.func45, Try.ntmps45
  go_wp2
  go_region
  go_wp2
  go_ret
  exact ⟨rfl, Dr.of _ _⟩
theorem ones_7 (w : World) :
    Calls Try.prog 45 #[.int .u16 127] w fun e W' => e = .returned (.int .i64 7) ∧ Dr w W' := by
  have hb : bits BinOp.and IntKind.u16 127 255 = 127 := by kernel_rfl
  go_enter Try.func45, Try.ntmps45
  go_wp2
  go_region
  go_wp2
  go_ret
  exact ⟨rfl, Dr.of _ _⟩
theorem ones_8 (w : World) :
    Calls Try.prog 45 #[.int .u16 255] w fun e W' => e = .returned (.int .i64 8) ∧ Dr w W' := by
  have hb : bits BinOp.and IntKind.u16 255 255 = 255 := by kernel_rfl
  go_enter Try.func45, Try.ntmps45
  go_wp2
  go_region
  go_wp2
  go_ret
  exact ⟨rfl, Dr.of _ _⟩
theorem ones_9 (w : World) :
    Calls Try.prog 45 #[.int .u16 511] w fun e W' => e = .returned (.int .i64 9) ∧ Dr w W' := by
  have hb : bits BinOp.and IntKind.u16 511 255 = 255 := by kernel_rfl
  go_enter Try.func45, Try.ntmps45
  go_wp2
  go_region
  go_wp2
  go_ret
  exact ⟨rfl, Dr.of _ _⟩
theorem ones_10 (w : World) :
    Calls Try.prog 45 #[.int .u16 1023] w fun e W' => e = .returned (.int .i64 10) ∧ Dr w W' := by
  have hb : bits BinOp.and IntKind.u16 1023 255 = 255 := by kernel_rfl
  go_enter Try.func45, Try.ntmps45
  go_wp2
  go_region
  go_wp2
  go_ret
  exact ⟨rfl, Dr.of _ _⟩
theorem ones_11 (w : World) :
    Calls Try.prog 45 #[.int .u16 2047] w fun e W' => e = .returned (.int .i64 11) ∧ Dr w W' := by
  have hb : bits BinOp.and IntKind.u16 2047 255 = 255 := by kernel_rfl
  go_enter Try.func45, Try.ntmps45
  go_wp2
  go_region
  go_wp2
  go_ret
  exact ⟨rfl, Dr.of _ _⟩
theorem ones_12 (w : World) :
    Calls Try.prog 45 #[.int .u16 4095] w fun e W' => e = .returned (.int .i64 12) ∧ Dr w W' := by
  have hb : bits BinOp.and IntKind.u16 4095 255 = 255 := by kernel_rfl
  go_enter Try.func45, Try.ntmps45
  go_wp2
  go_region
  go_wp2
  go_ret
  exact ⟨rfl, Dr.of _ _⟩
theorem ones_13 (w : World) :
    Calls Try.prog 45 #[.int .u16 8191] w fun e W' => e = .returned (.int .i64 13) ∧ Dr w W' := by
  have hb : bits BinOp.and IntKind.u16 8191 255 = 255 := by kernel_rfl
  go_enter Try.func45, Try.ntmps45
  go_wp2
  go_region
  go_wp2
  go_ret
  exact ⟨rfl, Dr.of _ _⟩
def maskI (m : Nat) : Int := 2 ^ m - 1
theorem ones_mask (m : Nat) (hm : m ≤ 13) (w : World) :
    Calls Try.prog 45 #[.int .u16 (maskI m)] w fun e W' => e = .returned (.int .i64 (m : Int)) ∧ Dr w W' := by
  match m, hm with
  | 0, _ => exact ones_0 w
  | 1, _ => exact ones_1 w
  | 2, _ => exact ones_2 w
  | 3, _ => exact ones_3 w
  | 4, _ => exact ones_4 w
  | 5, _ => exact ones_5 w
  | 6, _ => exact ones_6 w
  | 7, _ => exact ones_7 w
  | 8, _ => exact ones_8 w
  | 9, _ => exact ones_9 w
  | 10, _ => exact ones_10 w
  | 11, _ => exact ones_11 w
  | 12, _ => exact ones_12 w
  | 13, _ => exact ones_13 w
end Go.Proofs.Ytgckboaejpgalaa
