/-
  The walks of exact laws.
-/
import Derived.Test.YtkaneljgfioblaaZ8
import Derived.Deep.RegionHeld3
import Derived.Deep.MidRow
namespace Go.Proofs.Ytkaneljgfioblaa
open Go.RowKit
set_option linter.unusedVariables false

set_option maxRecDepth 100000 in
set_option maxHeartbeats 2000000 in
theorem walk_FnExactAnswerTo (n0 : Int) (n1 : Int) (b2 : Bool) (w : World) (p0 : U64 n0) (p1 : -9223372036854775808 ≤ n1 ∧ n1 ≤ 9223372036854775807)  :
    Calls Try.prog 6 #[.int .u64 n0, .int .i64 n1, .bool b2] w fun e w' => e = .returned (.bool true) ∧ Below w.heap.size w w' := by
  have F0 := FR.start w
  have HS := Lib.hid (fun W => Calls.same_below (specAnswerTo_any n0 n1 b2 W p0 p1))
  have HI := Lib.hid (fun W => Calls.same_below (answerTo_any n0 n1 b2 W p0 p1))
  clear p0 p1
  go_enter Try.func6, Try.ntmps6
  go_wp2_with fail
  refine (Calls.fr F0 (HS.out _)).mono ?_
  rintro e w1 ⟨rfl, F1⟩
  clear F0
  go_wp2_with fail
  refine (Calls.fr F1 (HI.out _)).mono ?_
  rintro e w2 ⟨rfl, F2⟩
  clear F1
  go_wp2
  go_ret
  exact ⟨rfl, F2.below⟩
end Go.Proofs.Ytkaneljgfioblaa
