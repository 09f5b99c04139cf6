/-
  The walks of exact laws of chapter 3.
-/
import Derived.Test.YtgckboaejpgalaaC6
import Derived.Deep.RegionHeld3
import Derived.Deep.MidRow
namespace Go.Proofs.Ytgckboaejpgalaa
open Go.RowKit
set_option linter.unusedVariables false

set_option maxRecDepth 100000 in
set_option maxHeartbeats 2000000 in
theorem walk_FnExactValidTask (c0 k0 : Int) (n0 g0 : Bool) (w : World) (p0 : B8 c0) (q0 : B8 k0) :
    Calls Try.prog 3 #[taskV c0 k0 n0 g0] w fun e w' => e = .returned (.bool true) ∧ Below w.heap.size w w' := by
  have F0 := (FR.start w).box #[.int .i8 c0, .int .i8 k0, .bool n0, .bool g0] 24
  have HS := Lib.hid (fun W => specValidTask_any c0 k0 n0 g0 W p0 q0)
  have HI := Lib.hid (fun W => validTask_any c0 k0 n0 g0 W p0 q0)
  clear p0 q0
  go_enter Try.func3, Try.ntmps3
  obtain ⟨q0, q1, q2, q3, -⟩ := (F0.blk _ List.mem_cons_self).four
  go_wp2_with fail
  refine (toTask_fr F0 c0 k0 n0 g0).mono ?_
  rintro e w1 ⟨rfl, F1⟩
  clear q0 q1 q2 q3 F0
  go_wp2_with fail
  refine (Calls.fr F1 (HS.out _)).mono ?_
  rintro e w2 ⟨rfl, F2⟩
  clear F1
  obtain ⟨q0, q1, q2, q3, -⟩ := (F2.blk _ List.mem_cons_self).four
  go_wp2_with fail
  refine (toTask_fr F2 c0 k0 n0 g0).mono ?_
  rintro e w3 ⟨rfl, F3⟩
  clear q0 q1 q2 q3 F2
  go_wp2_with fail
  refine (Calls.fr F3 (HI.out _)).mono ?_
  rintro e w4 ⟨rfl, F4⟩
  clear F3
  go_wp2
  go_ret
  exact ⟨rfl, F4.below⟩

set_option maxRecDepth 100000 in
set_option maxHeartbeats 2000000 in
theorem walk_FnExactFindCase (c0 k0 : Int) (n0 g0 : Bool) (c1 : Int) (h1 : Bool) (w : World) (p0 : B8 c0) (q0 : B8 k0) (p1 : B8 c1) :
    Calls Try.prog 6 #[taskV c0 k0 n0 g0, caseV c1 h1] w fun e w' => e = .returned (.bool true) ∧ Below w.heap.size w w' := by
  have F0 := ((FR.start w).box #[.int .i8 c0, .int .i8 k0, .bool n0, .bool g0] 24).box #[.int .i8 c1, .bool h1] 37
  simp only [World.size_alloc] at F0
  have HS := Lib.hid (fun W => specFindCase_any c0 k0 n0 g0 c1 h1 W p0 q0)
  have HI := Lib.hid (fun W => findCase_any c0 k0 n0 g0 c1 h1 W p0 q0)
  clear p0 q0 p1
  go_enter Try.func6, Try.ntmps6
  go_wp2_with fail
  have F1 := F0.drew
  go_region_held3 (fun w' => w'.cell? ⟨w.heap.size, 0, none⟩ = some (.int .i8 c0) ∧ w'.cell? ⟨w.heap.size, 1, none⟩ = some (.int .i8 k0) ∧ w'.cell? ⟨w.heap.size, 2, none⟩ = some (.bool n0) ∧ w'.cell? ⟨w.heap.size, 3, none⟩ = some (.bool g0) ∧ w'.cell? ⟨w.heap.size + 1, 0, none⟩ = some (.int .i8 c1) ∧ w'.cell? ⟨w.heap.size + 1, 1, none⟩ = some (.bool h1))
    (first | exact ⟨(F4.blk _ (List.mem_cons_of_mem _ (List.mem_cons_self))).cell 0, (F4.blk _ (List.mem_cons_of_mem _ (List.mem_cons_self))).cell 1, (F4.blk _ (List.mem_cons_of_mem _ (List.mem_cons_self))).cell 2, (F4.blk _ (List.mem_cons_of_mem _ (List.mem_cons_self))).cell 3, (F4.blk _ (List.mem_cons_self)).cell 0, (F4.blk _ (List.mem_cons_self)).cell 1⟩ | exact ⟨(F3.blk _ (List.mem_cons_of_mem _ (List.mem_cons_self))).cell 0, (F3.blk _ (List.mem_cons_of_mem _ (List.mem_cons_self))).cell 1, (F3.blk _ (List.mem_cons_of_mem _ (List.mem_cons_self))).cell 2, (F3.blk _ (List.mem_cons_of_mem _ (List.mem_cons_self))).cell 3, (F3.blk _ (List.mem_cons_self)).cell 0, (F3.blk _ (List.mem_cons_self)).cell 1⟩ | exact ⟨(F2.blk _ (List.mem_cons_of_mem _ (List.mem_cons_self))).cell 0, (F2.blk _ (List.mem_cons_of_mem _ (List.mem_cons_self))).cell 1, (F2.blk _ (List.mem_cons_of_mem _ (List.mem_cons_self))).cell 2, (F2.blk _ (List.mem_cons_of_mem _ (List.mem_cons_self))).cell 3, (F2.blk _ (List.mem_cons_self)).cell 0, (F2.blk _ (List.mem_cons_self)).cell 1⟩ | exact ⟨(F1.blk _ (List.mem_cons_of_mem _ (List.mem_cons_self))).cell 0, (F1.blk _ (List.mem_cons_of_mem _ (List.mem_cons_self))).cell 1, (F1.blk _ (List.mem_cons_of_mem _ (List.mem_cons_self))).cell 2, (F1.blk _ (List.mem_cons_of_mem _ (List.mem_cons_self))).cell 3, (F1.blk _ (List.mem_cons_self)).cell 0, (F1.blk _ (List.mem_cons_self)).cell 1⟩)
    (first
      | (go_at_call 10; with_reducible refine (toTask_fr F1 c0 k0 n0 g0).mono ?_; rintro e w2 ⟨rfl, F2⟩)
      | (go_at_call 20; with_reducible refine (toCase_fr F2 c1 h1).mono ?_; rintro e w3 ⟨rfl, F3⟩)
      | (go_at_call 19; with_reducible refine (Calls.fr F3 (HS.out _)).mono ?_; rintro e w4 ⟨rfl, F4⟩))
  clear F1
  clear F2
  clear F3
  go_wp2_with fail
  have F5 := F4.drew
  go_region_held3 (fun w' => w'.cell? ⟨w.heap.size, 0, none⟩ = some (.int .i8 c0) ∧ w'.cell? ⟨w.heap.size, 1, none⟩ = some (.int .i8 k0) ∧ w'.cell? ⟨w.heap.size, 2, none⟩ = some (.bool n0) ∧ w'.cell? ⟨w.heap.size, 3, none⟩ = some (.bool g0) ∧ w'.cell? ⟨w.heap.size + 1, 0, none⟩ = some (.int .i8 c1) ∧ w'.cell? ⟨w.heap.size + 1, 1, none⟩ = some (.bool h1))
    (first | exact ⟨(F8.blk _ (List.mem_cons_of_mem _ (List.mem_cons_self))).cell 0, (F8.blk _ (List.mem_cons_of_mem _ (List.mem_cons_self))).cell 1, (F8.blk _ (List.mem_cons_of_mem _ (List.mem_cons_self))).cell 2, (F8.blk _ (List.mem_cons_of_mem _ (List.mem_cons_self))).cell 3, (F8.blk _ (List.mem_cons_self)).cell 0, (F8.blk _ (List.mem_cons_self)).cell 1⟩ | exact ⟨(F7.blk _ (List.mem_cons_of_mem _ (List.mem_cons_self))).cell 0, (F7.blk _ (List.mem_cons_of_mem _ (List.mem_cons_self))).cell 1, (F7.blk _ (List.mem_cons_of_mem _ (List.mem_cons_self))).cell 2, (F7.blk _ (List.mem_cons_of_mem _ (List.mem_cons_self))).cell 3, (F7.blk _ (List.mem_cons_self)).cell 0, (F7.blk _ (List.mem_cons_self)).cell 1⟩ | exact ⟨(F6.blk _ (List.mem_cons_of_mem _ (List.mem_cons_self))).cell 0, (F6.blk _ (List.mem_cons_of_mem _ (List.mem_cons_self))).cell 1, (F6.blk _ (List.mem_cons_of_mem _ (List.mem_cons_self))).cell 2, (F6.blk _ (List.mem_cons_of_mem _ (List.mem_cons_self))).cell 3, (F6.blk _ (List.mem_cons_self)).cell 0, (F6.blk _ (List.mem_cons_self)).cell 1⟩ | exact ⟨(F5.blk _ (List.mem_cons_of_mem _ (List.mem_cons_self))).cell 0, (F5.blk _ (List.mem_cons_of_mem _ (List.mem_cons_self))).cell 1, (F5.blk _ (List.mem_cons_of_mem _ (List.mem_cons_self))).cell 2, (F5.blk _ (List.mem_cons_of_mem _ (List.mem_cons_self))).cell 3, (F5.blk _ (List.mem_cons_self)).cell 0, (F5.blk _ (List.mem_cons_self)).cell 1⟩)
    (first
      | (go_at_call 10; with_reducible refine (toTask_fr F5 c0 k0 n0 g0).mono ?_; rintro e w6 ⟨rfl, F6⟩)
      | (go_at_call 20; with_reducible refine (toCase_fr F6 c1 h1).mono ?_; rintro e w7 ⟨rfl, F7⟩)
      | (go_at_call 21; with_reducible refine (Calls.fr F7 (HI.out _)).mono ?_; rintro e w8 ⟨rfl, F8⟩))
  clear F5
  clear F6
  clear F7
  go_wp2
  go_ret
  exact ⟨rfl, F8.below⟩
end Go.Proofs.Ytgckboaejpgalaa
