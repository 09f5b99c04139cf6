/-
  The walks of exact laws over ferries.
-/
import Derived.Test.YtgadcggeoonihaaDoorFT2
import Derived.Deep.RegionHeld3
import Derived.Deep.MidRow
namespace Go.Proofs.YtgadcggeoonihaaDoor
open Go.RowKit
set_option linter.unusedVariables false

set_option maxRecDepth 100000 in
set_option maxHeartbeats 2000000 in
theorem walk_FnExactFerryText (l0 k0 : Int) (a0 : Option Addr) (c0 : Nat) (ws0 : List Int) (w : World) (p0 : B8 l0) (q0 : B8 k0) (m0 : ws0.length ≤ 9223372036854775807) (s0 : Sl .u16 w.heap.size w a0 ws0) (r0 : U16 ws0) (hT : Tab w) :
    Calls Tryd.prog 3 #[ferV l0 k0 a0 ws0.length c0] w fun e w' => e = .returned (.bool true) ∧ Below w.heap.size w w' := by
  have HT := Lib.hid hT
  clear hT
  have F0 := (FR.start w).box #[.int .i8 l0, .int .i8 k0, .slice a0 ws0.length c0] 25
  by_cases z0 : (1048576 : Int) < ws0.length
  · have HZ := szFerry_any l0 k0 a0 ws0.length c0 1048576
    simp only [if_pos z0] at HZ
    obtain ⟨d_0, d_1, d_2, -⟩ := (F0.blk _ (List.mem_cons_self)).three
    go_enter Tryd.func3, Tryd.ntmps3
    go_wp2_with fail
    refine (Calls.fr F0 (HZ _ (by omega) m0)).mono ?_
    rintro e w1 ⟨rfl, F1⟩
    clear d_0 d_1 d_2 HZ F0
    have HB := Lib.hid F1.below
    clear F1
    go_wp2
    go_ret
    exact ⟨rfl, HB.out⟩
  have hn0 : ws0.length ≤ 1048576 := by omega
  have hz0 : 0 ≤ 1048576 - (ws0.length : Int) ∧ 1048576 - (ws0.length : Int) ≤ 1048576 := by omega
  have HZ0 := Lib.hid (fun W => szFerry_any l0 k0 a0 ws0.length c0 1048576 W (by omega) m0)
  simp only [if_neg z0] at HZ0
  clear z0
  obtain ⟨left, hleft⟩ : ∃ left, 1048576 - (ws0.length : Int) = left := ⟨_, rfl⟩
  rw [hleft] at hz0 HZ0
  clear hleft
  have HS := Lib.hid (fun (W : World) (a0' : Option Addr) (c0' : Nat) (hs0 : Sl .u16 W.heap.size W a0' ws0) => specFerryText_any l0 k0 a0' c0' ws0 W hs0 p0 q0 hn0 r0)
  have HI := Lib.hid (fun (W : World) (a0' : Option Addr) (c0' : Nat) (hs0 : Sl .u16 W.heap.size W a0' ws0) => fun (hT : Tab W) => ferryText_any l0 k0 a0' c0' ws0 W hs0 p0 q0 hn0 r0 hT)
  generalize ftV l0 k0 ws0 = ok at *
  go_enter Tryd.func3, Tryd.ntmps3
  obtain ⟨d1_0, d1_1, d1_2, d1_f⟩ := (F0.blk _ (List.mem_cons_self)).three
  go_wp2_with fail
  refine (Calls.fr F0 (HZ0.out _)).mono ?_
  rintro e w1 ⟨rfl, F1⟩
  clear F0 d1_0 d1_1 d1_2 d1_f
  clear HZ0
  obtain ⟨d2_0, d2_1, d2_2, d2_f⟩ := (F1.blk _ (List.mem_cons_self)).three
  go_wp2_with fail
  refine (toFerry_fr F1 l0 k0 a0 c0 ws0 hn0 s0).mono ?_
  rintro e w2 ⟨g1, rfl, F2⟩
  clear F1 d2_0 d2_1 d2_2 d2_f
  go_wp2_with fail
  refine (Calls.fr F2 (HS.out _ _ _ (Sl.own (F2.blk _ (List.mem_cons_self))))).mono ?_
  rintro e w3 ⟨rfl, F3⟩
  clear F2 
  obtain ⟨d3_0, d3_1, d3_2, d3_f⟩ := (F3.blk _ (List.mem_cons_of_mem _ (List.mem_cons_self))).three
  go_wp2_with fail
  refine (toFerry_fr F3 l0 k0 a0 c0 ws0 hn0 s0).mono ?_
  rintro e w4 ⟨g2, rfl, F4⟩
  clear F3 d3_0 d3_1 d3_2 d3_f
  have F5 := F4.box #[.int .i8 l0, .int .i8 k0, .slice (some ⟨g2, 0, none⟩) ws0.length ws0.length] 28
  clear F4
  obtain ⟨d4_0, d4_1, d4_2, d4_f⟩ := (F5.blk _ (List.mem_cons_self)).three
  go_wp2_with fail
  refine (Calls.fr F5 (HI.out _ _ _ (Sl.own (F5.blk _ (List.mem_cons_of_mem _ (List.mem_cons_self)))) (HT.out.below (FR.below (by assumption))))).mono ?_
  rintro e w6 ⟨rfl, F6⟩
  clear F5 d4_0 d4_1 d4_2 d4_f
  go_wp2_with fail
  have F7 := F6.drew
  go_region_held3 (fun w' => w'.cell? ⟨w4.heap.size, 0, none⟩ = some (.int .i8 l0) ∧ w'.cell? ⟨w4.heap.size, 1, none⟩ = some (.int .i8 k0) ∧ w'.cell? ⟨w4.heap.size, 2, none⟩ = some (.slice (some ⟨g2, 0, none⟩) ws0.length ws0.length) ∧ w'.cell? ⟨w.heap.size, 0, none⟩ = some (.int .i8 l0) ∧ w'.cell? ⟨w.heap.size, 1, none⟩ = some (.int .i8 k0) ∧ w'.cell? ⟨w.heap.size, 2, none⟩ = some (.slice a0 ws0.length c0))
    (first | exact ⟨(F9.blk _ (List.mem_cons_of_mem _ (List.mem_cons_self))).cell 0, (F9.blk _ (List.mem_cons_of_mem _ (List.mem_cons_self))).cell 1, (F9.blk _ (List.mem_cons_of_mem _ (List.mem_cons_self))).cell 2, (F9.blk _ (List.mem_cons_of_mem _ (List.mem_cons_of_mem _ (List.mem_cons_of_mem _ (List.mem_cons_of_mem _ (List.mem_cons_self)))))).cell 0, (F9.blk _ (List.mem_cons_of_mem _ (List.mem_cons_of_mem _ (List.mem_cons_of_mem _ (List.mem_cons_of_mem _ (List.mem_cons_self)))))).cell 1, (F9.blk _ (List.mem_cons_of_mem _ (List.mem_cons_of_mem _ (List.mem_cons_of_mem _ (List.mem_cons_of_mem _ (List.mem_cons_self)))))).cell 2⟩ | exact ⟨(F8.blk _ (List.mem_cons_of_mem _ (List.mem_cons_self))).cell 0, (F8.blk _ (List.mem_cons_of_mem _ (List.mem_cons_self))).cell 1, (F8.blk _ (List.mem_cons_of_mem _ (List.mem_cons_self))).cell 2, (F8.blk _ (List.mem_cons_of_mem _ (List.mem_cons_of_mem _ (List.mem_cons_of_mem _ (List.mem_cons_of_mem _ (List.mem_cons_self)))))).cell 0, (F8.blk _ (List.mem_cons_of_mem _ (List.mem_cons_of_mem _ (List.mem_cons_of_mem _ (List.mem_cons_of_mem _ (List.mem_cons_self)))))).cell 1, (F8.blk _ (List.mem_cons_of_mem _ (List.mem_cons_of_mem _ (List.mem_cons_of_mem _ (List.mem_cons_of_mem _ (List.mem_cons_self)))))).cell 2⟩ | exact ⟨(F7.blk _ (List.mem_cons_self)).cell 0, (F7.blk _ (List.mem_cons_self)).cell 1, (F7.blk _ (List.mem_cons_self)).cell 2, (F7.blk _ (List.mem_cons_of_mem _ (List.mem_cons_of_mem _ (List.mem_cons_of_mem _ (List.mem_cons_self))))).cell 0, (F7.blk _ (List.mem_cons_of_mem _ (List.mem_cons_of_mem _ (List.mem_cons_of_mem _ (List.mem_cons_self))))).cell 1, (F7.blk _ (List.mem_cons_of_mem _ (List.mem_cons_of_mem _ (List.mem_cons_of_mem _ (List.mem_cons_self))))).cell 2⟩)
    (first
      | (go_at_call 7; with_reducible refine (toFerry_fr F7 l0 k0 a0 c0 ws0 hn0 s0).mono ?_; rintro e w8 ⟨g3, rfl, F8⟩)
      | (go_at_call 9; with_reducible refine (eqFerry_fr F8 (List.mem_cons_of_mem _ (List.mem_cons_of_mem _ (List.mem_cons_self))) (List.mem_cons_self) l0 k0 _ _ hn0).mono ?_; rintro e w9 ⟨rfl, F9⟩))
  clear F7
  clear F8
  have HB := Lib.hid F9.below
  clear F9
  go_wp2
  go_ret
  exact ⟨rfl, HB.out⟩
end Go.Proofs.YtgadcggeoonihaaDoor
