/-
  The walks of exact laws.
-/
import Derived.Test.YtpphhacmlelpmaaZ15
import Derived.Deep.RegionHeld3
import Derived.Deep.MidRow
namespace Go.Proofs.Ytpphhacmlelpmaa
open Go.RowKit
set_option linter.unusedVariables false

set_option maxRecDepth 100000 in
set_option maxHeartbeats 2000000 in
theorem walk_FnExactHalfOf (n0 : Int) (x1 : Nat → Int) (w : World) (p0 : -9223372036854775808 ≤ n0 ∧ n0 ≤ 9223372036854775807) (p1 : S4 x1) :
    Calls Try.prog 7 #[.int .i64 n0, staV x1] w fun e w' => e = .returned (.bool true) ∧ Below w.heap.size w w' := by
  have F0 := (FR.start w).box #[.int .i64 (x1 0), .int .i64 (x1 1), .int .i64 (x1 2), .int .i64 (x1 3)] 22
  have HS := Lib.hid (fun W => specHalfOf_any n0 x1 W p0 p1)
  have HI := Lib.hid (fun W => halfOf_any n0 x1 W p0 p1)
  clear p0 p1
  go_enter Try.func7, Try.ntmps7
  obtain ⟨q0, q1, q2, q3, -⟩ := (F0.blk _ (List.mem_cons_self)).four
  go_wp2_with fail
  refine (toState_fr F0 x1).mono ?_
  rintro e w1 ⟨rfl, F1⟩
  clear q0 q1 q2 q3 F0
  go_wp2_with fail
  refine (Calls.fr F1 (HS.out _)).mono ?_
  rintro e w2 ⟨rfl, F2⟩
  clear F1
  have F3 := F2.box (staC (hoX n0 x1)) 24
  clear F2
  obtain ⟨q0, q1, q2, q3, -⟩ := (F3.blk _ (List.mem_cons_of_mem _ (List.mem_cons_self))).four
  go_wp2_with fail
  refine (toState_fr F3 x1).mono ?_
  rintro e w4 ⟨rfl, F4⟩
  clear q0 q1 q2 q3 F3
  go_wp2_with fail
  refine (Calls.fr F4 (HI.out _)).mono ?_
  rintro e w5 ⟨rfl, F5⟩
  clear F4
  have F6 := F5.box (staC (hoX n0 x1)) 24
  clear F5
  obtain ⟨q0, q1, q2, q3, -⟩ := (F6.blk _ (List.mem_cons_self)).four
  obtain ⟨r0, r1, r2, r3, -⟩ := (F6.blk _ (List.mem_cons_of_mem _ (List.mem_cons_self))).four
  go_wp2_with fail
  refine (eqState_fr F6 _).mono ?_
  rintro e w7 ⟨rfl, F7⟩
  clear F6 q0 q1 q2 q3 r0 r1 r2 r3
  go_wp2
  go_ret
  exact ⟨rfl, F7.below⟩
end Go.Proofs.Ytpphhacmlelpmaa
