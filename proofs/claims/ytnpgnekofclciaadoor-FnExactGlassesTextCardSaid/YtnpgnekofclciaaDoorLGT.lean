/-
  The walks of exact laws over glasses.
-/
import Derived.Test.YtnpgnekofclciaaDoorGT2
import Derived.Deep.RegionHeld3
import Derived.Deep.MidRow
namespace Go.Proofs.YtnpgnekofclciaaDoor
open Go.RowKit
set_option linter.unusedVariables false

set_option maxRecDepth 100000 in
set_option maxHeartbeats 2000000 in
theorem walk_FnExactGlassesText (a0 : Option Addr) (c0 : Nat) (xs0 : List Int) (x1 : Nat → Int) (w : World) (m0 : xs0.length ≤ 9223372036854775807) (s0 : Sl .i16 w.heap.size w a0 xs0) (g0 : I16 xs0) (v1 : W16 x1) (hT0 : Tab w) :
    Calls Tryd.prog 3 #[.slice a0 xs0.length c0, watV x1] w fun e w' => e = .returned (.bool true) ∧ Below w.heap.size w w' := by
  have HT := Lib.hid hT0
  clear hT0
  have F0 := (FR.start w).box #[.int .i16 (x1 0), .int .i16 (x1 1), .int .i16 (x1 2), .int .i16 (x1 3)] 24
  have HS0 := Lib.hid s0
  clear s0
  by_cases l0 : (1048576 : Int) < xs0.length
  · have HB := Lib.hid F0.below
    clear F0 HS0 g0
    generalize xs0.length = len0 at *
    go_enter Tryd.func3, Tryd.ntmps3
    go_wp2
    go_ret
    exact ⟨rfl, HB.out⟩
  have hn0 : xs0.length ≤ 1048576 := by omega
  have hz0 : (xs0.length : Int) ≤ 1048576 := by omega
  clear l0
  have HS := Lib.hid (fun (W : World) (b0 : Nat) (hs0 : Blk W b0 (rcells .i16 xs0) 23) => specGlassesText_any b0 0 xs0.length xs0 x1 W hn0 hs0.lt hs0.ints)
  have HI := Lib.hid (fun (W : World) (b0 : Nat) (hs0 : Blk W b0 (rcells .i16 xs0) 23) (hT : Tab W) => glassesText_any b0 0 xs0.length xs0 x1 W hn0 hs0.lt hs0.ints g0 hT)
  generalize gxV xs0 x1 = r at *
  go_enter Tryd.func3, Tryd.ntmps3
  go_wp2_with fail
  have F1 := F0.drew
  go_region_held3 (fun w' => w'.cell? ⟨w.heap.size, 0, none⟩ = some (.int .i16 (x1 0)) ∧ w'.cell? ⟨w.heap.size, 1, none⟩ = some (.int .i16 (x1 1)) ∧ w'.cell? ⟨w.heap.size, 2, none⟩ = some (.int .i16 (x1 2)) ∧ w'.cell? ⟨w.heap.size, 3, none⟩ = some (.int .i16 (x1 3)))
    (first | exact ⟨(F4.blk _ (List.mem_cons_of_mem _ (List.mem_cons_self))).cell 0, (F4.blk _ (List.mem_cons_of_mem _ (List.mem_cons_self))).cell 1, (F4.blk _ (List.mem_cons_of_mem _ (List.mem_cons_self))).cell 2, (F4.blk _ (List.mem_cons_of_mem _ (List.mem_cons_self))).cell 3⟩ | exact ⟨(F3.blk _ (List.mem_cons_of_mem _ (List.mem_cons_self))).cell 0, (F3.blk _ (List.mem_cons_of_mem _ (List.mem_cons_self))).cell 1, (F3.blk _ (List.mem_cons_of_mem _ (List.mem_cons_self))).cell 2, (F3.blk _ (List.mem_cons_of_mem _ (List.mem_cons_self))).cell 3⟩ | exact ⟨(F2.blk _ (List.mem_cons_of_mem _ (List.mem_cons_self))).cell 0, (F2.blk _ (List.mem_cons_of_mem _ (List.mem_cons_self))).cell 1, (F2.blk _ (List.mem_cons_of_mem _ (List.mem_cons_self))).cell 2, (F2.blk _ (List.mem_cons_of_mem _ (List.mem_cons_self))).cell 3⟩ | exact ⟨(F1.blk _ (List.mem_cons_self)).cell 0, (F1.blk _ (List.mem_cons_self)).cell 1, (F1.blk _ (List.mem_cons_self)).cell 2, (F1.blk _ (List.mem_cons_self)).cell 3⟩)
    (first
      | (go_at_call 6; with_reducible refine (toGlasses_fr F1 a0 c0 xs0 hn0 HS0.out).mono ?_; rintro e w2 ⟨g1, rfl, F2⟩)
      | (go_at_call 7; with_reducible refine (toTops_fr F2 x1).mono ?_; rintro e w3 ⟨rfl, F3⟩)
      | (go_at_call 5; with_reducible refine (Calls.fr F3 (HS.out _ _ (F3.blk _ (List.mem_cons_self)))).mono ?_; rintro e w4 ⟨rfl, F4⟩))
  clear F1
  clear F2
  clear F3
  go_wp2_with fail
  refine (toGlasses_fr F4 a0 c0 xs0 hn0 HS0.out).mono ?_
  rintro e w5 ⟨g2, rfl, F5⟩
  clear F4 
  obtain ⟨d1_0, d1_1, d1_2, d1_3, d1_f⟩ := (F5.blk _ (List.mem_cons_of_mem _ (List.mem_cons_of_mem _ (List.mem_cons_self)))).four
  go_wp2_with fail
  refine (toTops_fr F5 x1).mono ?_
  rintro e w6 ⟨rfl, F6⟩
  clear F5 d1_0 d1_1 d1_2 d1_3 d1_f
  go_wp2_with fail
  refine (Calls.fr F6 (HI.out _ _ (F6.blk _ (List.mem_cons_self)) (HT.out.below (FR.below (by assumption))))).mono ?_
  rintro e w7 ⟨rfl, F7⟩
  clear F6 
  go_wp2_with fail
  refine (toGlasses_fr F7 a0 c0 xs0 hn0 HS0.out).mono ?_
  rintro e w8 ⟨g3, rfl, F8⟩
  clear F7 
  go_wp2_with fail
  refine (eqGlasses_fr F8 (List.mem_cons_of_mem _ (List.mem_cons_self)) (List.mem_cons_self) _ _ hn0).mono ?_
  rintro e w9 ⟨rfl, F9⟩
  clear F8 
  have HB := Lib.hid F9.below
  clear F9
  go_wp2
  go_ret
  exact ⟨rfl, HB.out⟩
end Go.Proofs.YtnpgnekofclciaaDoor
