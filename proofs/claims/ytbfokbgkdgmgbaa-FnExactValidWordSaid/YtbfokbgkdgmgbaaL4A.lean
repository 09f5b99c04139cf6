/-
  The walks of exact laws.
-/
import Derived.Test.YtbfokbgkdgmgbaaD5
import Derived.Deep.RegionHeld3
import Derived.Deep.MidRow
namespace Go.Proofs.Ytbfokbgkdgmgbaa
open Go.RowKit
set_option linter.unusedVariables false

set_option maxRecDepth 100000 in
set_option maxHeartbeats 2000000 in
theorem walk_FnExactValidWord (n0 : Int) (x1 : Nat → Int) (w : World) (p0 : -9223372036854775808 ≤ n0 ∧ n0 ≤ 9223372036854775807) (p1 : W4 x1) :
    Calls Try.prog 3 #[.int .i64 n0, wordV x1] w fun e w' => e = .returned (.bool true) ∧ Below w.heap.size w w' := by
  have F0 := (FR.start w).box #[.int .i8 (x1 0), .int .i8 (x1 1), .int .i8 (x1 2), .int .i8 (x1 3)] 23
  have HS := Lib.hid (fun W => specValidWord_any n0 x1 W p0 p1)
  have HI := Lib.hid (fun W => validWord_any n0 x1 W p0 p1)
  clear p0 p1
  go_enter Try.func3, Try.ntmps3
  obtain ⟨q0, q1, q2, q3, -⟩ := (F0.blk _ (List.mem_cons_self)).four
  go_wp2_with fail
  refine (toWord_fr F0 x1).mono ?_
  rintro e w1 ⟨rfl, F1⟩
  clear q0 q1 q2 q3 F0
  go_wp2_with fail
  refine (Calls.fr F1 (HS.out _)).mono ?_
  rintro e w2 ⟨rfl, F2⟩
  clear F1
  obtain ⟨q0, q1, q2, q3, -⟩ := (F2.blk _ (List.mem_cons_self)).four
  go_wp2_with fail
  refine (toWord_fr F2 x1).mono ?_
  rintro e w3 ⟨rfl, F3⟩
  clear q0 q1 q2 q3 F2
  go_wp2_with fail
  refine (Calls.fr F3 (HI.out _)).mono ?_
  rintro e w4 ⟨rfl, F4⟩
  clear F3
  go_wp2
  go_ret
  exact ⟨rfl, F4.below⟩

set_option maxRecDepth 100000 in
set_option maxHeartbeats 2000000 in
theorem walk_FnExactWordAt (n0 : Int) (n1 : Int) (w : World) (p0 : -9223372036854775808 ≤ n0 ∧ n0 ≤ 9223372036854775807) (p1 : -9223372036854775808 ≤ n1 ∧ n1 ≤ 9223372036854775807) :
    Calls Try.prog 4 #[.int .i64 n0, .int .i64 n1] w fun e w' => e = .returned (.bool true) ∧ Below w.heap.size w w' := by
  have F0 := FR.start w
  have HS := Lib.hid (fun W => specWordAt_any n0 n1 W p0 p1)
  have HI := Lib.hid (fun W => wordAtF_any n0 n1 W p0 p1)
  clear p0 p1
  go_enter Try.func4, Try.ntmps4
  go_wp2_with fail
  refine (Calls.fr F0 (HS.out _)).mono ?_
  rintro e w1 ⟨rfl, F1⟩
  clear F0
  have F2 := F1.box (wordC (waX n0 n1)) 25
  clear F1
  go_wp2_with fail
  refine (Calls.fr F2 (HI.out _)).mono ?_
  rintro e w3 ⟨rfl, F3⟩
  clear F2
  have F4 := F3.box (wordC (waX n0 n1)) 25
  clear F3
  obtain ⟨q0, q1, q2, q3, -⟩ := (F4.blk _ (List.mem_cons_self)).four
  obtain ⟨r0, r1, r2, r3, -⟩ := (F4.blk _ (List.mem_cons_of_mem _ (List.mem_cons_self))).four
  go_wp2_with fail
  refine (eqWord_fr F4 _).mono ?_
  rintro e w5 ⟨rfl, F5⟩
  clear F4
  go_wp2
  go_ret
  exact ⟨rfl, F5.below⟩

set_option maxRecDepth 100000 in
set_option maxHeartbeats 2000000 in
theorem walk_FnExactNumberOfWord (n0 : Int) (x1 : Nat → Int) (w : World) (p0 : -9223372036854775808 ≤ n0 ∧ n0 ≤ 9223372036854775807) (p1 : W4 x1) :
    Calls Try.prog 5 #[.int .i64 n0, wordV x1] w fun e w' => e = .returned (.bool true) ∧ Below w.heap.size w w' := by
  have F0 := (FR.start w).box #[.int .i8 (x1 0), .int .i8 (x1 1), .int .i8 (x1 2), .int .i8 (x1 3)] 23
  have HS := Lib.hid (fun W => specNumberOfWord_any n0 x1 W p0 p1)
  have HI := Lib.hid (fun W => numberOfWord_any n0 x1 W p0 p1)
  clear p0 p1
  go_enter Try.func5, Try.ntmps5
  obtain ⟨q0, q1, q2, q3, -⟩ := (F0.blk _ (List.mem_cons_self)).four
  go_wp2_with fail
  refine (toWord_fr F0 x1).mono ?_
  rintro e w1 ⟨rfl, F1⟩
  clear q0 q1 q2 q3 F0
  go_wp2_with fail
  refine (Calls.fr F1 (HS.out _)).mono ?_
  rintro e w2 ⟨rfl, F2⟩
  clear F1
  obtain ⟨q0, q1, q2, q3, -⟩ := (F2.blk _ (List.mem_cons_self)).four
  go_wp2_with fail
  refine (toWord_fr F2 x1).mono ?_
  rintro e w3 ⟨rfl, F3⟩
  clear q0 q1 q2 q3 F2
  go_wp2_with fail
  refine (Calls.fr F3 (HI.out _)).mono ?_
  rintro e w4 ⟨rfl, F4⟩
  clear F3
  go_wp2
  go_ret
  exact ⟨rfl, F4.below⟩

set_option maxRecDepth 100000 in
set_option maxHeartbeats 2000000 in
theorem walk_FnExactOppositeWord (x0 : Nat → Int) (w : World) (p0 : W4 x0) :
    Calls Try.prog 6 #[wordV x0] w fun e w' => e = .returned (.bool true) ∧ Below w.heap.size w w' := by
  have F0 := (FR.start w).box #[.int .i8 (x0 0), .int .i8 (x0 1), .int .i8 (x0 2), .int .i8 (x0 3)] 23
  have HS := Lib.hid (fun W => specOppositeWord_any x0 W p0)
  have HI := Lib.hid (fun W => oppositeWord_any x0 W p0)
  clear p0
  go_enter Try.func6, Try.ntmps6
  obtain ⟨q0, q1, q2, q3, -⟩ := (F0.blk _ (List.mem_cons_self)).four
  go_wp2_with fail
  refine (toWord_fr F0 x0).mono ?_
  rintro e w1 ⟨rfl, F1⟩
  clear q0 q1 q2 q3 F0
  go_wp2_with fail
  refine (Calls.fr F1 (HS.out _)).mono ?_
  rintro e w2 ⟨rfl, F2⟩
  clear F1
  have F3 := F2.box (wordC (opD x0)) 25
  clear F2
  obtain ⟨q0, q1, q2, q3, -⟩ := (F3.blk _ (List.mem_cons_of_mem _ (List.mem_cons_self))).four
  go_wp2_with fail
  refine (toWord_fr F3 x0).mono ?_
  rintro e w4 ⟨rfl, F4⟩
  clear q0 q1 q2 q3 F3
  go_wp2_with fail
  refine (Calls.fr F4 (HI.out _)).mono ?_
  rintro e w5 ⟨rfl, F5⟩
  clear F4
  have F6 := F5.box (wordC (opD x0)) 25
  clear F5
  obtain ⟨q0, q1, q2, q3, -⟩ := (F6.blk _ (List.mem_cons_self)).four
  obtain ⟨r0, r1, r2, r3, -⟩ := (F6.blk _ (List.mem_cons_of_mem _ (List.mem_cons_self))).four
  go_wp2_with fail
  refine (eqWord_fr F6 _).mono ?_
  rintro e w7 ⟨rfl, F7⟩
  clear F6
  go_wp2
  go_ret
  exact ⟨rfl, F7.below⟩

set_option maxRecDepth 100000 in
set_option maxHeartbeats 2000000 in
theorem walk_FnExactNextWord (n0 : Int) (x1 : Nat → Int) (w : World) (p0 : -9223372036854775808 ≤ n0 ∧ n0 ≤ 9223372036854775807) (p1 : W4 x1) :
    Calls Try.prog 7 #[.int .i64 n0, wordV x1] w fun e w' => e = .returned (.bool true) ∧ Below w.heap.size w w' := by
  have F0 := (FR.start w).box #[.int .i8 (x1 0), .int .i8 (x1 1), .int .i8 (x1 2), .int .i8 (x1 3)] 23
  have HS := Lib.hid (fun W => specNextWord_any n0 x1 W p0 p1)
  have HI := Lib.hid (fun W => nextWord_any n0 x1 W p0 p1)
  clear p0 p1
  go_enter Try.func7, Try.ntmps7
  obtain ⟨q0, q1, q2, q3, -⟩ := (F0.blk _ (List.mem_cons_self)).four
  go_wp2_with fail
  refine (toWord_fr F0 x1).mono ?_
  rintro e w1 ⟨rfl, F1⟩
  clear q0 q1 q2 q3 F0
  go_wp2_with fail
  refine (Calls.fr F1 (HS.out _)).mono ?_
  rintro e w2 ⟨rfl, F2⟩
  clear F1
  have F3 := F2.box (wordC (nxX n0 x1)) 25
  clear F2
  obtain ⟨q0, q1, q2, q3, -⟩ := (F3.blk _ (List.mem_cons_of_mem _ (List.mem_cons_self))).four
  go_wp2_with fail
  refine (toWord_fr F3 x1).mono ?_
  rintro e w4 ⟨rfl, F4⟩
  clear q0 q1 q2 q3 F3
  go_wp2_with fail
  refine (Calls.fr F4 (HI.out _)).mono ?_
  rintro e w5 ⟨rfl, F5⟩
  clear F4
  have F6 := F5.box (wordC (nxX n0 x1)) 25
  clear F5
  obtain ⟨q0, q1, q2, q3, -⟩ := (F6.blk _ (List.mem_cons_self)).four
  obtain ⟨r0, r1, r2, r3, -⟩ := (F6.blk _ (List.mem_cons_of_mem _ (List.mem_cons_self))).four
  go_wp2_with fail
  refine (eqWord_fr F6 _).mono ?_
  rintro e w7 ⟨rfl, F7⟩
  clear F6
  go_wp2
  go_ret
  exact ⟨rfl, F7.below⟩

set_option maxRecDepth 100000 in
set_option maxHeartbeats 2000000 in
theorem walk_FnExactMostCoins (n0 : Int) (n1 : Int) (w : World) (p0 : -9223372036854775808 ≤ n0 ∧ n0 ≤ 9223372036854775807) (p1 : -9223372036854775808 ≤ n1 ∧ n1 ≤ 9223372036854775807) :
    Calls Try.prog 8 #[.int .i64 n0, .int .i64 n1] w fun e w' => e = .returned (.bool true) ∧ Below w.heap.size w w' := by
  have F0 := FR.start w
  have HS := Lib.hid (fun W => specMostCoins_any n0 n1 W p0 p1)
  have HI := Lib.hid (fun W => mostCoins_any n0 n1 W p0 p1)
  clear p0 p1
  go_enter Try.func8, Try.ntmps8
  go_wp2_with fail
  refine (Calls.fr F0 (HS.out _)).mono ?_
  rintro e w1 ⟨rfl, F1⟩
  clear F0
  go_wp2_with fail
  refine (Calls.fr F1 (HI.out _)).mono ?_
  rintro e w2 ⟨rfl, F2⟩
  clear F1
  go_wp2
  go_ret
  exact ⟨rfl, F2.below⟩
end Go.Proofs.Ytbfokbgkdgmgbaa
