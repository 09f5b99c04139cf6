/-
  The walks of exact laws of chapter 2.
-/
import Derived.Test.YtfhcmgeillpfgaaDoorFrame
import Derived.Test.YtfhcmgeillpfgaaDoorPT2
namespace Go.Proofs.YtfhcmgeillpfgaaDoor
open Go.RowKit

set_option maxRecDepth 100000 in
set_option maxHeartbeats 1000000 in
theorem walk_FnExactPuzzleText (a0 : Option Addr) (c0 : Nat) (xs0 : List Int) (x0 : Nat → Int) (t0 : Bool) (w : World) (m0 : xs0.length ≤ 9223372036854775807) (s0 : Sl .i16 w.heap.size w a0 xs0) (g0 : I16 xs0) (hT : Tab w) :
    Calls Tryd.prog 3 #[puzV a0 xs0.length c0 x0 t0] w fun e w' => e = .returned (.bool true) ∧ Below w.heap.size w w' := by
  have HT := Lib.hid hT
  clear hT
  have F0 := (FR.start w).box #[.slice a0 xs0.length c0, .int .i16 (x0 0), .int .i16 (x0 1), .int .i16 (x0 2), .int .i16 (x0 3), .bool t0] 26
  have HS0 := Lib.hid s0
  clear s0
  by_cases l0 : 1048576 < xs0.length
  · have HZ := Lib.hid (szPuzzle_fr F0 a0 xs0.length c0 x0 t0 m0)
    simp only [if_pos l0] at HZ
    clear F0 l0
    go_enter Tryd.func3, Tryd.ntmps3
    go_wp2_with fail
    refine HZ.out.mono ?_
    rintro e w1 ⟨rfl, F1⟩
    go_wp2
    go_ret
    exact ⟨rfl, F1.below⟩
  have hn0 : xs0.length ≤ 1048576 := by omega
  have hz0 : (xs0.length : Int) ≤ 1048576 := by omega
  have HZ := Lib.hid (szPuzzle_fr F0 a0 xs0.length c0 x0 t0 m0)
  simp only [if_neg l0] at HZ
  clear F0 l0
  go_enter Tryd.func3, Tryd.ntmps3
  go_wp2_with fail
  refine HZ.out.mono ?_
  rintro e w1 ⟨rfl, F1⟩
  clear HZ
  obtain ⟨q0_0, q0_1, q0_2, q0_3, q0_4, q0_5, _⟩ := (F1.blk _ (List.mem_cons_self)).six
  go_wp2_with fail
  refine (toPuzzle_fr F1 a0 xs0 c0 x0 t0 hn0 HS0.out).mono ?_
  rintro e w2 ⟨r0, rfl, F2⟩
  clear q0_0 q0_1 q0_2 q0_3 q0_4 q0_5 F1
  go_wp2_with fail
  refine (Calls.fr F2 (specPuzzleText_any _ 0 _ xs0 x0 t0 _ hn0 (F2.row _ (List.mem_cons_self)).lt (F2.row _ (List.mem_cons_self)).at)).mono ?_
  rintro e w3 ⟨rfl, F3⟩
  clear F2
  obtain ⟨y0_0, y0_1, y0_2, y0_3, y0_4, y0_5, _⟩ := (F3.blk _ (List.mem_cons_self)).six
  go_wp2_with fail
  refine (toPuzzle_fr F3 a0 xs0 c0 x0 t0 hn0 HS0.out).mono ?_
  rintro e w4 ⟨z0, rfl, F4⟩
  clear y0_0 y0_1 y0_2 y0_3 y0_4 y0_5 F3
  have F5 := F4.box #[.slice (some ⟨z0, 0, none⟩) xs0.length xs0.length, .int .i16 (x0 0), .int .i16 (x0 1), .int .i16 (x0 2), .int .i16 (x0 3), .bool t0] 31
  clear F4
  obtain ⟨q0_0, q0_1, q0_2, q0_3, q0_4, q0_5, _⟩ := (F5.blk _ (List.mem_cons_self)).six
  go_wp2_with fail
  refine (Calls.fr F5 (puzzleText_any _ 0 _ xs0 x0 t0 _ hn0 (F5.row _ (List.mem_cons_self)).lt (F5.row _ (List.mem_cons_self)).at g0 (HT.out.below (FR.below (by assumption))))).mono ?_
  rintro e w6 ⟨rfl, F6⟩
  clear q0_0 q0_1 q0_2 q0_3 q0_4 q0_5 F5
  go_wp2_with fail
  have F7 := F6.drew
  go_region_held3 (fun w' => w'.cell? ⟨w4.heap.size, 0, none⟩ = some (.slice (some ⟨z0, 0, none⟩) xs0.length xs0.length) ∧ w'.cell? ⟨w4.heap.size, 1, none⟩ = some (.int .i16 (x0 0)) ∧ w'.cell? ⟨w4.heap.size, 2, none⟩ = some (.int .i16 (x0 1)) ∧ w'.cell? ⟨w4.heap.size, 3, none⟩ = some (.int .i16 (x0 2)) ∧ w'.cell? ⟨w4.heap.size, 4, none⟩ = some (.int .i16 (x0 3)) ∧ w'.cell? ⟨w4.heap.size, 5, none⟩ = some (.bool t0) ∧ w'.cell? ⟨w.heap.size, 0, none⟩ = some (.slice a0 xs0.length c0) ∧ w'.cell? ⟨w.heap.size, 1, none⟩ = some (.int .i16 (x0 0)) ∧ w'.cell? ⟨w.heap.size, 2, none⟩ = some (.int .i16 (x0 1)) ∧ w'.cell? ⟨w.heap.size, 3, none⟩ = some (.int .i16 (x0 2)) ∧ w'.cell? ⟨w.heap.size, 4, none⟩ = some (.int .i16 (x0 3)) ∧ w'.cell? ⟨w.heap.size, 5, none⟩ = some (.bool t0))
    (first | exact ⟨(F9.blk _ (List.mem_cons_self)).cell 0, (F9.blk _ (List.mem_cons_self)).cell 1, (F9.blk _ (List.mem_cons_self)).cell 2, (F9.blk _ (List.mem_cons_self)).cell 3, (F9.blk _ (List.mem_cons_self)).cell 4, (F9.blk _ (List.mem_cons_self)).cell 5, (F9.blk _ (List.mem_cons_of_mem _ (List.mem_cons_self))).cell 0, (F9.blk _ (List.mem_cons_of_mem _ (List.mem_cons_self))).cell 1, (F9.blk _ (List.mem_cons_of_mem _ (List.mem_cons_self))).cell 2, (F9.blk _ (List.mem_cons_of_mem _ (List.mem_cons_self))).cell 3, (F9.blk _ (List.mem_cons_of_mem _ (List.mem_cons_self))).cell 4, (F9.blk _ (List.mem_cons_of_mem _ (List.mem_cons_self))).cell 5⟩ | exact ⟨(F8.blk _ (List.mem_cons_self)).cell 0, (F8.blk _ (List.mem_cons_self)).cell 1, (F8.blk _ (List.mem_cons_self)).cell 2, (F8.blk _ (List.mem_cons_self)).cell 3, (F8.blk _ (List.mem_cons_self)).cell 4, (F8.blk _ (List.mem_cons_self)).cell 5, (F8.blk _ (List.mem_cons_of_mem _ (List.mem_cons_self))).cell 0, (F8.blk _ (List.mem_cons_of_mem _ (List.mem_cons_self))).cell 1, (F8.blk _ (List.mem_cons_of_mem _ (List.mem_cons_self))).cell 2, (F8.blk _ (List.mem_cons_of_mem _ (List.mem_cons_self))).cell 3, (F8.blk _ (List.mem_cons_of_mem _ (List.mem_cons_self))).cell 4, (F8.blk _ (List.mem_cons_of_mem _ (List.mem_cons_self))).cell 5⟩ | exact ⟨(F7.blk _ (List.mem_cons_self)).cell 0, (F7.blk _ (List.mem_cons_self)).cell 1, (F7.blk _ (List.mem_cons_self)).cell 2, (F7.blk _ (List.mem_cons_self)).cell 3, (F7.blk _ (List.mem_cons_self)).cell 4, (F7.blk _ (List.mem_cons_self)).cell 5, (F7.blk _ (List.mem_cons_of_mem _ (List.mem_cons_self))).cell 0, (F7.blk _ (List.mem_cons_of_mem _ (List.mem_cons_self))).cell 1, (F7.blk _ (List.mem_cons_of_mem _ (List.mem_cons_self))).cell 2, (F7.blk _ (List.mem_cons_of_mem _ (List.mem_cons_self))).cell 3, (F7.blk _ (List.mem_cons_of_mem _ (List.mem_cons_self))).cell 4, (F7.blk _ (List.mem_cons_of_mem _ (List.mem_cons_self))).cell 5⟩)
    (first
      | (go_at_call 7; with_reducible refine (toPuzzle_fr F7 a0 xs0 c0 x0 t0 hn0 HS0.out).mono ?_; rintro e w8 ⟨y0, rfl, F8⟩)
      | (go_at_call 9; with_reducible refine (eqPuzzle_fr F8 (List.mem_cons_of_mem _ (List.mem_cons_self)) (List.mem_cons_self) _ _ _ _ hn0).mono ?_; rintro e w9 ⟨rfl, F9⟩))
  clear F7
  clear F8
  go_wp2
  go_ret
  exact ⟨rfl, F9.below⟩
end Go.Proofs.YtfhcmgeillpfgaaDoor
