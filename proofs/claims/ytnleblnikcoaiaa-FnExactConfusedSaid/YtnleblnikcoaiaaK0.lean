/-
  Equal cases are found equal.
-/
import Derived.Test.YtnleblnikcoaiaaC1
namespace Go.Proofs.Ytnleblnikcoaiaa
open Go.RowKit
set_option maxRecDepth 100000

theorem eqCase_same (c : Int) (h : Bool) (w : World) :
    Calls Try.prog 19 #[caseV c h, caseV c h] w fun e w' => e = .returned (.bool true) ∧ Below w.heap.size w w' := by
  have HB := Lib.hid (((FR.start w).box #[.int .i8 c, .bool h] 37).box #[.int .i8 c, .bool h] 37).below
  go_enter Try.func19, Try.ntmps19
  go_wp2
  go_ret
  exact ⟨rfl, HB.out⟩
end Go.Proofs.Ytnleblnikcoaiaa
