/-
  The walks of exact laws of chapter 2.
-/
import Derived.Test.YtjmgalmndpjcoaaFrame
import Derived.Test.YtjmgalmndpjcoaaHW1
namespace Go.Proofs.Ytjmgalmndpjcoaa
open Go.RowKit

set_option maxRecDepth 100000 in
set_option maxHeartbeats 1000000 in
theorem walk_FnExactHardestWater (a0 : Option Addr) (c0 : Nat) (xs0 : List Int) (x0 : Nat → Int) (t0 : Bool) (w : World) (m0 : xs0.length ≤ 9223372036854775807) (s0 : Sl .i16 w.heap.size w a0 xs0) (g0 : I16 xs0) :
    Calls Try.prog 7 #[puzV a0 xs0.length c0 x0 t0] w fun e w' => e = .returned (.bool true) ∧ Below w.heap.size w w' := by
  have F0 := (FR.start w).box #[.slice a0 xs0.length c0, .int .i16 (x0 0), .int .i16 (x0 1), .int .i16 (x0 2), .int .i16 (x0 3), .bool t0] 26
  have HS0 := Lib.hid s0
  clear s0
  by_cases l0 : 1048576 < xs0.length
  · have HZ := Lib.hid (szPuzzle_fr F0 a0 xs0.length c0 x0 t0 m0)
    simp only [if_pos l0] at HZ
    clear F0 l0
    go_enter Try.func7, Try.ntmps7
    go_wp2_with fail
    refine HZ.out.mono ?_
    rintro e w1 ⟨rfl, F1⟩
    go_wp2
    go_ret
    exact ⟨rfl, F1.below⟩
  have hn0 : xs0.length ≤ 1048576 := by omega
  have hz0 : (xs0.length : Int) ≤ 1048576 := by omega
  have HZ := Lib.hid (szPuzzle_fr F0 a0 xs0.length c0 x0 t0 m0)
  simp only [if_neg l0] at HZ
  clear F0 l0
  go_enter Try.func7, Try.ntmps7
  go_wp2_with fail
  refine HZ.out.mono ?_
  rintro e w1 ⟨rfl, F1⟩
  clear HZ
  obtain ⟨q0_0, q0_1, q0_2, q0_3, q0_4, q0_5, _⟩ := (F1.blk _ (List.mem_cons_self)).six
  go_wp2_with fail
  refine (toPuzzle_fr F1 a0 xs0 c0 x0 t0 hn0 HS0.out).mono ?_
  rintro e w2 ⟨r0, rfl, F2⟩
  clear q0_0 q0_1 q0_2 q0_3 q0_4 q0_5 F1
  go_wp2_with fail
  refine (Calls.fr F2 (specHardestWater_any _ 0 _ xs0 x0 t0 _ hn0 (F2.row _ (List.mem_cons_self)).lt (F2.row _ (List.mem_cons_self)).at)).mono ?_
  rintro e w3 ⟨rfl, F3⟩
  clear F2
  have F4 := F3.box #[.int .i16 (hwX xs0 x0 t0 0), .int .i16 (hwX xs0 x0 t0 1), .int .i16 (hwX xs0 x0 t0 2), .int .i16 (hwX xs0 x0 t0 3)] 30
  clear F3
  obtain ⟨y0_0, y0_1, y0_2, y0_3, y0_4, y0_5, _⟩ := (F4.blk _ (List.mem_cons_of_mem _ (List.mem_cons_self))).six
  go_wp2_with fail
  refine (toPuzzle_fr F4 a0 xs0 c0 x0 t0 hn0 HS0.out).mono ?_
  rintro e w5 ⟨z0, rfl, F5⟩
  clear y0_0 y0_1 y0_2 y0_3 y0_4 y0_5 F4
  have F6 := F5.box #[.slice (some ⟨z0, 0, none⟩) xs0.length xs0.length, .int .i16 (x0 0), .int .i16 (x0 1), .int .i16 (x0 2), .int .i16 (x0 3), .bool t0] 32
  clear F5
  obtain ⟨q0_0, q0_1, q0_2, q0_3, q0_4, q0_5, _⟩ := (F6.blk _ (List.mem_cons_self)).six
  go_wp2_with fail
  refine (Calls.fr F6 (hardestWater_any _ 0 _ xs0 x0 t0 _ hn0 (F6.row _ (List.mem_cons_self)).lt (F6.row _ (List.mem_cons_self)).at g0)).mono ?_
  rintro e w7 ⟨rfl, F7⟩
  clear q0_0 q0_1 q0_2 q0_3 q0_4 q0_5 F6
  have F8 := F7.box #[.int .i16 (hwX xs0 x0 t0 0), .int .i16 (hwX xs0 x0 t0 1), .int .i16 (hwX xs0 x0 t0 2), .int .i16 (hwX xs0 x0 t0 3)] 30
  clear F7
  obtain ⟨v0_0, v0_1, v0_2, v0_3, _⟩ := (F8.blk _ (List.mem_cons_self)).four
  obtain ⟨v1_0, v1_1, v1_2, v1_3, _⟩ := (F8.blk _ (List.mem_cons_of_mem _ (List.mem_cons_of_mem _ (List.mem_cons_self)))).four
  go_wp2_with fail
  refine (eqWater_fr F8 (hwX xs0 x0 t0)).mono ?_
  rintro e w9 ⟨rfl, F9⟩
  clear v0_0 v0_1 v0_2 v0_3 v1_0 v1_1 v1_2 v1_3 F8
  go_wp2_with fail
  have F10 := F9.drew
  go_region_held3 (fun w' => w'.cell? ⟨w5.heap.size, 0, none⟩ = some (.slice (some ⟨z0, 0, none⟩) xs0.length xs0.length) ∧ w'.cell? ⟨w5.heap.size, 1, none⟩ = some (.int .i16 (x0 0)) ∧ w'.cell? ⟨w5.heap.size, 2, none⟩ = some (.int .i16 (x0 1)) ∧ w'.cell? ⟨w5.heap.size, 3, none⟩ = some (.int .i16 (x0 2)) ∧ w'.cell? ⟨w5.heap.size, 4, none⟩ = some (.int .i16 (x0 3)) ∧ w'.cell? ⟨w5.heap.size, 5, none⟩ = some (.bool t0) ∧ w'.cell? ⟨w.heap.size, 0, none⟩ = some (.slice a0 xs0.length c0) ∧ w'.cell? ⟨w.heap.size, 1, none⟩ = some (.int .i16 (x0 0)) ∧ w'.cell? ⟨w.heap.size, 2, none⟩ = some (.int .i16 (x0 1)) ∧ w'.cell? ⟨w.heap.size, 3, none⟩ = some (.int .i16 (x0 2)) ∧ w'.cell? ⟨w.heap.size, 4, none⟩ = some (.int .i16 (x0 3)) ∧ w'.cell? ⟨w.heap.size, 5, none⟩ = some (.bool t0))
    (first | exact ⟨(F12.blk _ (List.mem_cons_of_mem _ (List.mem_cons_self))).cell 0, (F12.blk _ (List.mem_cons_of_mem _ (List.mem_cons_self))).cell 1, (F12.blk _ (List.mem_cons_of_mem _ (List.mem_cons_self))).cell 2, (F12.blk _ (List.mem_cons_of_mem _ (List.mem_cons_self))).cell 3, (F12.blk _ (List.mem_cons_of_mem _ (List.mem_cons_self))).cell 4, (F12.blk _ (List.mem_cons_of_mem _ (List.mem_cons_self))).cell 5, (F12.blk _ (List.mem_cons_of_mem _ (List.mem_cons_of_mem _ (List.mem_cons_of_mem _ (List.mem_cons_self))))).cell 0, (F12.blk _ (List.mem_cons_of_mem _ (List.mem_cons_of_mem _ (List.mem_cons_of_mem _ (List.mem_cons_self))))).cell 1, (F12.blk _ (List.mem_cons_of_mem _ (List.mem_cons_of_mem _ (List.mem_cons_of_mem _ (List.mem_cons_self))))).cell 2, (F12.blk _ (List.mem_cons_of_mem _ (List.mem_cons_of_mem _ (List.mem_cons_of_mem _ (List.mem_cons_self))))).cell 3, (F12.blk _ (List.mem_cons_of_mem _ (List.mem_cons_of_mem _ (List.mem_cons_of_mem _ (List.mem_cons_self))))).cell 4, (F12.blk _ (List.mem_cons_of_mem _ (List.mem_cons_of_mem _ (List.mem_cons_of_mem _ (List.mem_cons_self))))).cell 5⟩ | exact ⟨(F11.blk _ (List.mem_cons_of_mem _ (List.mem_cons_self))).cell 0, (F11.blk _ (List.mem_cons_of_mem _ (List.mem_cons_self))).cell 1, (F11.blk _ (List.mem_cons_of_mem _ (List.mem_cons_self))).cell 2, (F11.blk _ (List.mem_cons_of_mem _ (List.mem_cons_self))).cell 3, (F11.blk _ (List.mem_cons_of_mem _ (List.mem_cons_self))).cell 4, (F11.blk _ (List.mem_cons_of_mem _ (List.mem_cons_self))).cell 5, (F11.blk _ (List.mem_cons_of_mem _ (List.mem_cons_of_mem _ (List.mem_cons_of_mem _ (List.mem_cons_self))))).cell 0, (F11.blk _ (List.mem_cons_of_mem _ (List.mem_cons_of_mem _ (List.mem_cons_of_mem _ (List.mem_cons_self))))).cell 1, (F11.blk _ (List.mem_cons_of_mem _ (List.mem_cons_of_mem _ (List.mem_cons_of_mem _ (List.mem_cons_self))))).cell 2, (F11.blk _ (List.mem_cons_of_mem _ (List.mem_cons_of_mem _ (List.mem_cons_of_mem _ (List.mem_cons_self))))).cell 3, (F11.blk _ (List.mem_cons_of_mem _ (List.mem_cons_of_mem _ (List.mem_cons_of_mem _ (List.mem_cons_self))))).cell 4, (F11.blk _ (List.mem_cons_of_mem _ (List.mem_cons_of_mem _ (List.mem_cons_of_mem _ (List.mem_cons_self))))).cell 5⟩ | exact ⟨(F10.blk _ (List.mem_cons_of_mem _ (List.mem_cons_self))).cell 0, (F10.blk _ (List.mem_cons_of_mem _ (List.mem_cons_self))).cell 1, (F10.blk _ (List.mem_cons_of_mem _ (List.mem_cons_self))).cell 2, (F10.blk _ (List.mem_cons_of_mem _ (List.mem_cons_self))).cell 3, (F10.blk _ (List.mem_cons_of_mem _ (List.mem_cons_self))).cell 4, (F10.blk _ (List.mem_cons_of_mem _ (List.mem_cons_self))).cell 5, (F10.blk _ (List.mem_cons_of_mem _ (List.mem_cons_of_mem _ (List.mem_cons_of_mem _ (List.mem_cons_self))))).cell 0, (F10.blk _ (List.mem_cons_of_mem _ (List.mem_cons_of_mem _ (List.mem_cons_of_mem _ (List.mem_cons_self))))).cell 1, (F10.blk _ (List.mem_cons_of_mem _ (List.mem_cons_of_mem _ (List.mem_cons_of_mem _ (List.mem_cons_self))))).cell 2, (F10.blk _ (List.mem_cons_of_mem _ (List.mem_cons_of_mem _ (List.mem_cons_of_mem _ (List.mem_cons_self))))).cell 3, (F10.blk _ (List.mem_cons_of_mem _ (List.mem_cons_of_mem _ (List.mem_cons_of_mem _ (List.mem_cons_self))))).cell 4, (F10.blk _ (List.mem_cons_of_mem _ (List.mem_cons_of_mem _ (List.mem_cons_of_mem _ (List.mem_cons_self))))).cell 5⟩)
    (first
      | (go_at_call 11; with_reducible refine (toPuzzle_fr F10 a0 xs0 c0 x0 t0 hn0 HS0.out).mono ?_; rintro e w11 ⟨y0, rfl, F11⟩)
      | (go_at_call 14; with_reducible refine (eqPuzzle_fr F11 (List.mem_cons_of_mem _ (List.mem_cons_self)) (List.mem_cons_self) _ _ _ _ hn0).mono ?_; rintro e w12 ⟨rfl, F12⟩))
  clear F10
  clear F11
  go_wp2
  go_ret
  exact ⟨rfl, F12.below⟩
end Go.Proofs.Ytjmgalmndpjcoaa
