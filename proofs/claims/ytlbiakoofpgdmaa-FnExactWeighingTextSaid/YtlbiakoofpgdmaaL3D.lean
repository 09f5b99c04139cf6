/-
  The walks of exact laws of chapter 3.
-/
import Derived.Test.YtlbiakoofpgdmaaW1
import Derived.Deep.RegionHeld3
import Derived.Deep.MidRow
namespace Go.Proofs.Ytlbiakoofpgdmaa
open Go.RowKit
set_option linter.unusedVariables false

set_option maxRecDepth 100000 in
set_option maxHeartbeats 2000000 in
theorem walk_FnExactWeighingText (c0 k0 : Int) (n0 g0 : Bool) (x1 : Nat → Int) (w : World) (p0 : B8 c0) (q0 : B8 k0) (p1 : W8 x1) :
    Calls Try.prog 5 #[taskV c0 k0 n0 g0, weigV x1] w fun e w' => e = .returned (.bool true) ∧ Below w.heap.size w w' := by
  have F0 := ((FR.start w).box #[.int .i8 c0, .int .i8 k0, .bool n0, .bool g0] 24).box #[.int .i8 (x1 0), .int .i8 (x1 1), .int .i8 (x1 2), .int .i8 (x1 3), .int .i8 (x1 4), .int .i8 (x1 5), .int .i8 (x1 6), .int .i8 (x1 7), .int .i8 (x1 8), .int .i8 (x1 9), .int .i8 (x1 10), .int .i8 (x1 11), .int .i8 (x1 12), .int .i8 (x1 13)] 25
  simp only [World.size_alloc] at F0
  have HS := Lib.hid (fun W => specWeighingText_any c0 k0 n0 g0 x1 W p0 q0 p1)
  have HI := Lib.hid (fun W => weighingText_any c0 k0 n0 g0 x1 W p0 q0 p1)
  clear p0 q0 p1
  have hGu := Try.underlying25
  have hGi1 : (Try.prog.info? 25).map (·.size) = some ([.int .i8 (x1 0), .int .i8 (x1 1), .int .i8 (x1 2), .int .i8 (x1 3), .int .i8 (x1 4), .int .i8 (x1 5), .int .i8 (x1 6), .int .i8 (x1 7), .int .i8 (x1 8), .int .i8 (x1 9), .int .i8 (x1 10), .int .i8 (x1 11), .int .i8 (x1 12), .int .i8 (x1 13)] : List Value).length := (by kernel_rfl : (Try.prog.info? 25).map (·.size) = some 14)
  go_enter Try.func5, Try.ntmps5
  go_wp2_with fail
  have F1 := F0.drew
  go_region_held3 (fun w' => w'.cell? ⟨w.heap.size, 0, none⟩ = some (.int .i8 c0) ∧ w'.cell? ⟨w.heap.size, 1, none⟩ = some (.int .i8 k0) ∧ w'.cell? ⟨w.heap.size, 2, none⟩ = some (.bool n0) ∧ w'.cell? ⟨w.heap.size, 3, none⟩ = some (.bool g0) ∧ w'.rangeAt (w.heap.size + 1) 0 [.int .i8 (x1 0), .int .i8 (x1 1), .int .i8 (x1 2), .int .i8 (x1 3), .int .i8 (x1 4), .int .i8 (x1 5), .int .i8 (x1 6), .int .i8 (x1 7), .int .i8 (x1 8), .int .i8 (x1 9), .int .i8 (x1 10), .int .i8 (x1 11), .int .i8 (x1 12), .int .i8 (x1 13)])
    (first | exact ⟨(F4.blk _ (List.mem_cons_of_mem _ (List.mem_cons_self))).cell 0, (F4.blk _ (List.mem_cons_of_mem _ (List.mem_cons_self))).cell 1, (F4.blk _ (List.mem_cons_of_mem _ (List.mem_cons_self))).cell 2, (F4.blk _ (List.mem_cons_of_mem _ (List.mem_cons_self))).cell 3, Blk.range (F4.blk _ (List.mem_cons_self))⟩ | exact ⟨(F3.blk _ (List.mem_cons_of_mem _ (List.mem_cons_self))).cell 0, (F3.blk _ (List.mem_cons_of_mem _ (List.mem_cons_self))).cell 1, (F3.blk _ (List.mem_cons_of_mem _ (List.mem_cons_self))).cell 2, (F3.blk _ (List.mem_cons_of_mem _ (List.mem_cons_self))).cell 3, Blk.range (F3.blk _ (List.mem_cons_self))⟩ | exact ⟨(F2.blk _ (List.mem_cons_of_mem _ (List.mem_cons_self))).cell 0, (F2.blk _ (List.mem_cons_of_mem _ (List.mem_cons_self))).cell 1, (F2.blk _ (List.mem_cons_of_mem _ (List.mem_cons_self))).cell 2, (F2.blk _ (List.mem_cons_of_mem _ (List.mem_cons_self))).cell 3, Blk.range (F2.blk _ (List.mem_cons_self))⟩ | exact ⟨(F1.blk _ (List.mem_cons_of_mem _ (List.mem_cons_self))).cell 0, (F1.blk _ (List.mem_cons_of_mem _ (List.mem_cons_self))).cell 1, (F1.blk _ (List.mem_cons_of_mem _ (List.mem_cons_self))).cell 2, (F1.blk _ (List.mem_cons_of_mem _ (List.mem_cons_self))).cell 3, Blk.range (F1.blk _ (List.mem_cons_self))⟩)
    (first
      | (go_at_call 9; with_reducible refine (toTask_fr F1 c0 k0 n0 g0).mono ?_; rintro e w2 ⟨rfl, F2⟩)
      | (go_at_call 10; with_reducible refine (toWeighing_fr F2 x1).mono ?_; rintro e w3 ⟨rfl, F3⟩)
      | (go_at_call 23; with_reducible refine (Calls.fr F3 (HS.out _)).mono ?_; rintro e w4 ⟨rfl, F4⟩))
  clear F1
  clear F2
  clear F3
  go_wp2_with fail
  have F5 := F4.drew
  go_region_held3 (fun w' => w'.cell? ⟨w.heap.size, 0, none⟩ = some (.int .i8 c0) ∧ w'.cell? ⟨w.heap.size, 1, none⟩ = some (.int .i8 k0) ∧ w'.cell? ⟨w.heap.size, 2, none⟩ = some (.bool n0) ∧ w'.cell? ⟨w.heap.size, 3, none⟩ = some (.bool g0) ∧ w'.rangeAt (w.heap.size + 1) 0 [.int .i8 (x1 0), .int .i8 (x1 1), .int .i8 (x1 2), .int .i8 (x1 3), .int .i8 (x1 4), .int .i8 (x1 5), .int .i8 (x1 6), .int .i8 (x1 7), .int .i8 (x1 8), .int .i8 (x1 9), .int .i8 (x1 10), .int .i8 (x1 11), .int .i8 (x1 12), .int .i8 (x1 13)])
    (first | exact ⟨(F8.blk _ (List.mem_cons_of_mem _ (List.mem_cons_self))).cell 0, (F8.blk _ (List.mem_cons_of_mem _ (List.mem_cons_self))).cell 1, (F8.blk _ (List.mem_cons_of_mem _ (List.mem_cons_self))).cell 2, (F8.blk _ (List.mem_cons_of_mem _ (List.mem_cons_self))).cell 3, Blk.range (F8.blk _ (List.mem_cons_self))⟩ | exact ⟨(F7.blk _ (List.mem_cons_of_mem _ (List.mem_cons_self))).cell 0, (F7.blk _ (List.mem_cons_of_mem _ (List.mem_cons_self))).cell 1, (F7.blk _ (List.mem_cons_of_mem _ (List.mem_cons_self))).cell 2, (F7.blk _ (List.mem_cons_of_mem _ (List.mem_cons_self))).cell 3, Blk.range (F7.blk _ (List.mem_cons_self))⟩ | exact ⟨(F6.blk _ (List.mem_cons_of_mem _ (List.mem_cons_self))).cell 0, (F6.blk _ (List.mem_cons_of_mem _ (List.mem_cons_self))).cell 1, (F6.blk _ (List.mem_cons_of_mem _ (List.mem_cons_self))).cell 2, (F6.blk _ (List.mem_cons_of_mem _ (List.mem_cons_self))).cell 3, Blk.range (F6.blk _ (List.mem_cons_self))⟩ | exact ⟨(F5.blk _ (List.mem_cons_of_mem _ (List.mem_cons_self))).cell 0, (F5.blk _ (List.mem_cons_of_mem _ (List.mem_cons_self))).cell 1, (F5.blk _ (List.mem_cons_of_mem _ (List.mem_cons_self))).cell 2, (F5.blk _ (List.mem_cons_of_mem _ (List.mem_cons_self))).cell 3, Blk.range (F5.blk _ (List.mem_cons_self))⟩)
    (first
      | (go_at_call 9; with_reducible refine (toTask_fr F5 c0 k0 n0 g0).mono ?_; rintro e w6 ⟨rfl, F6⟩)
      | (go_at_call 10; with_reducible refine (toWeighing_fr F6 x1).mono ?_; rintro e w7 ⟨rfl, F7⟩)
      | (go_at_call 24; with_reducible refine (Calls.fr F7 (HI.out _)).mono ?_; rintro e w8 ⟨rfl, F8⟩))
  clear F5
  clear F6
  clear F7
  go_wp2
  go_ret
  exact ⟨rfl, F8.below⟩
end Go.Proofs.Ytlbiakoofpgdmaa
