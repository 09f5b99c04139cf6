/-
  The walks of exact laws.
-/
import Derived.Test.YtpphhacmlelpmaaZ7
import Derived.Deep.RegionHeld3
import Derived.Deep.MidRow
namespace Go.Proofs.Ytpphhacmlelpmaa
open Go.RowKit
set_option linter.unusedVariables false

set_option maxRecDepth 100000 in
set_option maxHeartbeats 2000000 in
theorem walk_FnExactValidState (n0 : Int) (x1 : Nat → Int) (w : World) (p0 : -9223372036854775808 ≤ n0 ∧ n0 ≤ 9223372036854775807) (p1 : S4 x1) :
    Calls Try.prog 3 #[.int .i64 n0, staV x1] w fun e w' => e = .returned (.bool true) ∧ Below w.heap.size w w' := by
  have F0 := (FR.start w).box #[.int .i64 (x1 0), .int .i64 (x1 1), .int .i64 (x1 2), .int .i64 (x1 3)] 22
  have HS := Lib.hid (fun W => specValidState_any n0 x1 W p0 p1)
  have HI := Lib.hid (fun W => validState_any n0 x1 W p0 p1)
  clear p0 p1
  go_enter Try.func3, Try.ntmps3
  obtain ⟨q0, q1, q2, q3, -⟩ := (F0.blk _ (List.mem_cons_self)).four
  go_wp2_with fail
  refine (toState_fr F0 x1).mono ?_
  rintro e w1 ⟨rfl, F1⟩
  clear q0 q1 q2 q3 F0
  go_wp2_with fail
  refine (Calls.fr F1 (HS.out _)).mono ?_
  rintro e w2 ⟨rfl, F2⟩
  clear F1
  obtain ⟨q0, q1, q2, q3, -⟩ := (F2.blk _ (List.mem_cons_self)).four
  go_wp2_with fail
  refine (toState_fr F2 x1).mono ?_
  rintro e w3 ⟨rfl, F3⟩
  clear q0 q1 q2 q3 F2
  go_wp2_with fail
  refine (Calls.fr F3 (HI.out _)).mono ?_
  rintro e w4 ⟨rfl, F4⟩
  clear F3
  go_wp2
  go_ret
  exact ⟨rfl, F4.below⟩

set_option maxRecDepth 100000 in
set_option maxHeartbeats 2000000 in
theorem walk_FnExactWeightOf (n0 : Int) (x1 : Nat → Int) (n2 : Int) (w : World) (p0 : -9223372036854775808 ≤ n0 ∧ n0 ≤ 9223372036854775807) (p1 : S4 x1) (p2 : -9223372036854775808 ≤ n2 ∧ n2 ≤ 9223372036854775807) :
    Calls Try.prog 4 #[.int .i64 n0, staV x1, .int .i64 n2] w fun e w' => e = .returned (.bool true) ∧ Below w.heap.size w w' := by
  have F0 := (FR.start w).box #[.int .i64 (x1 0), .int .i64 (x1 1), .int .i64 (x1 2), .int .i64 (x1 3)] 22
  have HS := Lib.hid (fun W => specWeightOf_any n0 x1 n2 W p0 p1 p2)
  have HI := Lib.hid (fun W => weightOf_any n0 x1 n2 W p0 p1 p2)
  clear p0 p1 p2
  go_enter Try.func4, Try.ntmps4
  obtain ⟨q0, q1, q2, q3, -⟩ := (F0.blk _ (List.mem_cons_self)).four
  go_wp2_with fail
  refine (toState_fr F0 x1).mono ?_
  rintro e w1 ⟨rfl, F1⟩
  clear q0 q1 q2 q3 F0
  go_wp2_with fail
  refine (Calls.fr F1 (HS.out _)).mono ?_
  rintro e w2 ⟨rfl, F2⟩
  clear F1
  obtain ⟨q0, q1, q2, q3, -⟩ := (F2.blk _ (List.mem_cons_self)).four
  go_wp2_with fail
  refine (toState_fr F2 x1).mono ?_
  rintro e w3 ⟨rfl, F3⟩
  clear q0 q1 q2 q3 F2
  go_wp2_with fail
  refine (Calls.fr F3 (HI.out _)).mono ?_
  rintro e w4 ⟨rfl, F4⟩
  clear F3
  go_wp2
  go_ret
  exact ⟨rfl, F4.below⟩

set_option maxRecDepth 100000 in
set_option maxHeartbeats 2000000 in
theorem walk_FnExactLeastByWeight (n0 : Int) (x1 : Nat → Int) (w : World) (p0 : -9223372036854775808 ≤ n0 ∧ n0 ≤ 9223372036854775807) (p1 : S4 x1) :
    Calls Try.prog 5 #[.int .i64 n0, staV x1] w fun e w' => e = .returned (.bool true) ∧ Below w.heap.size w w' := by
  have F0 := (FR.start w).box #[.int .i64 (x1 0), .int .i64 (x1 1), .int .i64 (x1 2), .int .i64 (x1 3)] 22
  have HS := Lib.hid (fun W => specLeastByWeight_any n0 x1 W p0 p1)
  have HI := Lib.hid (fun W => leastByWeight_any n0 x1 W p0 p1)
  clear p0 p1
  go_enter Try.func5, Try.ntmps5
  obtain ⟨q0, q1, q2, q3, -⟩ := (F0.blk _ (List.mem_cons_self)).four
  go_wp2_with fail
  refine (toState_fr F0 x1).mono ?_
  rintro e w1 ⟨rfl, F1⟩
  clear q0 q1 q2 q3 F0
  go_wp2_with fail
  refine (Calls.fr F1 (HS.out _)).mono ?_
  rintro e w2 ⟨rfl, F2⟩
  clear F1
  obtain ⟨q0, q1, q2, q3, -⟩ := (F2.blk _ (List.mem_cons_self)).four
  go_wp2_with fail
  refine (toState_fr F2 x1).mono ?_
  rintro e w3 ⟨rfl, F3⟩
  clear q0 q1 q2 q3 F2
  go_wp2_with fail
  refine (Calls.fr F3 (HI.out _)).mono ?_
  rintro e w4 ⟨rfl, F4⟩
  clear F3
  go_wp2
  go_ret
  exact ⟨rfl, F4.below⟩
end Go.Proofs.Ytpphhacmlelpmaa
