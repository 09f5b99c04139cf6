/-
  slices.Repeat of one number.
-/
import Derived.Test.YtoeoilhbekhnbaaY34
import Derived.Laws.CopyOwn
import Derived.Shelf.Bits.Mul64
import Derived.StillTailTactics
namespace Go.Proofs.Ytoeoilhbekhnbaa
open Go.RowKit
set_option maxRecDepth 100000
set_option linter.unusedVariables false

theorem mul64_one (n : Nat) (hn : n ≤ 5000) (w : World) : Calls Try.prog 69 #[.int .u64 1, .int .u64 n] w fun e w' => e = .returned (.tuple #[.int .u64 0, .int .u64 n]) ∧ w' = w := by
  have h1 := Go.Proofs.Mul64.maskN 1 (by decide)
  have h2 := Go.Proofs.Mul64.maskN n (by omega)
  rw [Nat.mod_eq_of_lt (by decide)] at h1
  rw [Nat.mod_eq_of_lt (by omega)] at h2
  have h3 : (n : Int) / 4294967296 = 0 := by omega
  have h1' : bits .and .u64 (1 : Int) 4294967295 = 1 := h1
  have h0 : bits .and .u64 (0 : Int) 4294967295 = 0 := by have h := Go.Proofs.Mul64.maskN 0 (by decide); exact h
  have hw : IntKind.u64.wrap (n : Int) = n := Go.Proofs.Mul64.wrapN n (by omega)
  have hz : IntKind.u64.wrap 0 = 0 := Go.Proofs.Mul64.wrapN 0 (by decide)
  have HF := Lib.hid (And.intro h1' (And.intro h0 (And.intro hw (And.intro hz h3))))
  clear h1 h1' h0
  go_enter Try.func69, Try.ntmps69
  go_wp2
  go_ret2
  refine ⟨?_, rfl⟩
  obtain ⟨h1', h0, hw, hz, h3⟩ := HF.out
  simp [h1', h0, hw, hz, h3]
theorem mul_one (n : Nat) (hn : n ≤ 5000) (w : World) : Calls Try.prog 59 #[.int .u64 1, .int .u64 n] w fun e w' => e = .returned (.tuple #[.int .u64 0, .int .u64 n]) ∧ w = w' := by
  have HM := Lib.hid (fun W => mul64_one n hn W)
  go_enter Try.func59, Try.ntmps59
  go_wp2_with fail
  refine (HM.out _).mono ?_
  rintro e w2 ⟨rfl, rfl⟩
  go_wp2
  go_ret2
  exact ⟨rfl, rfl⟩
end Go.Proofs.Ytoeoilhbekhnbaa
