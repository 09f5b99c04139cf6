/-
  The walks of exact laws over games.
-/
import Derived.Test.YtclmjbkdghgjbaaZ26
import Derived.Deep.RegionHeld3
import Derived.Deep.MidRow
namespace Go.Proofs.Ytclmjbkdghgjbaa
open Go.RowKit
set_option linter.unusedVariables false

set_option maxRecDepth 100000 in
set_option maxHeartbeats 2000000 in
theorem walk_FnExactStateOf (l0 k0 : Int) (a0 : Option Addr) (c0 : Nat) (ws0 : List Ak) (w : World) (p0 : B8 l0) (q0 : B8 k0) (m0 : ws0.length ≤ 9223372036854775807) (s0 : Sla w.heap.size w a0 ws0) (r0 : Aall ws0) :
    Calls Try.prog 5 #[gamV l0 k0 a0 ws0.length c0] w fun e w' => e = .returned (.bool true) ∧ Below w.heap.size w w' := by
  have F0 := (FR.start w).box #[.int .i8 l0, .int .i8 k0, .slice a0 ws0.length c0] 33
  by_cases z0 : (1048576 : Int) < ws0.length
  · have HZ := szGame_any l0 k0 a0 ws0.length c0 1048576
    simp only [if_pos z0] at HZ
    obtain ⟨d_0, d_1, d_2, -⟩ := (F0.blk _ (List.mem_cons_self)).three
    go_enter Try.func5, Try.ntmps5
    go_wp2_with fail
    refine (Calls.fr F0 (HZ _ (by omega) m0)).mono ?_
    rintro e w1 ⟨rfl, F1⟩
    clear d_0 d_1 d_2 HZ F0
    have HB := Lib.hid F1.below
    clear F1
    go_wp2
    go_ret
    exact ⟨rfl, HB.out⟩
  have hn0 : ws0.length ≤ 1048576 := by omega
  have hz0 : 0 ≤ 1048576 - (ws0.length : Int) ∧ 1048576 - (ws0.length : Int) ≤ 1048576 := by omega
  have HZ0 := Lib.hid (fun W => szGame_any l0 k0 a0 ws0.length c0 1048576 W (by omega) m0)
  simp only [if_neg z0] at HZ0
  clear z0
  obtain ⟨left, hleft⟩ : ∃ left, 1048576 - (ws0.length : Int) = left := ⟨_, rfl⟩
  rw [hleft] at hz0 HZ0
  clear hleft
  have HS := Lib.hid (fun (W : World) (a0' : Option Addr) (c0' : Nat) (hs0 : Sla W.heap.size W a0' ws0) => specStateOf_any l0 k0 a0' c0' ws0 W hs0 p0 q0 hn0 r0)
  have HI := Lib.hid (fun (W : World) (a0' : Option Addr) (c0' : Nat) (hs0 : Sla W.heap.size W a0' ws0) => stateOf_any l0 k0 a0' c0' ws0 W hs0 p0 q0 hn0 r0)
  generalize soC l0 k0 ws0 = co at *
  go_enter Try.func5, Try.ntmps5
  obtain ⟨d1_0, d1_1, d1_2, d1_f⟩ := (F0.blk _ (List.mem_cons_self)).three
  go_wp2_with fail
  refine (Calls.fr F0 (HZ0.out _)).mono ?_
  rintro e w1 ⟨rfl, F1⟩
  clear F0 d1_0 d1_1 d1_2 d1_f
  clear HZ0
  obtain ⟨d2_0, d2_1, d2_2, d2_f⟩ := (F1.blk _ (List.mem_cons_self)).three
  go_wp2_with fail
  refine (toGame_fr F1 l0 k0 a0 c0 ws0 hn0 s0).mono ?_
  rintro e w2 ⟨g1, rfl, F2⟩
  clear F1 d2_0 d2_1 d2_2 d2_f
  go_wp2_with fail
  refine (Calls.fr F2 (HS.out _ _ _ (Sla.own (F2.blk _ (List.mem_cons_self))))).mono ?_
  rintro e w3 ⟨rfl, F3⟩
  clear F2 
  have F4 := F3.box #[.int .i64 (soX l0 k0 ws0 0), .int .i64 (soX l0 k0 ws0 1), .int .i64 (soX l0 k0 ws0 2), .int .i64 (soX l0 k0 ws0 3)] 40
  clear F3
  obtain ⟨d3_0, d3_1, d3_2, d3_f⟩ := (F4.blk _ (List.mem_cons_of_mem _ (List.mem_cons_of_mem _ (List.mem_cons_self)))).three
  go_wp2_with fail
  refine (toGame_fr F4 l0 k0 a0 c0 ws0 hn0 s0).mono ?_
  rintro e w5 ⟨g2, rfl, F5⟩
  clear F4 d3_0 d3_1 d3_2 d3_f
  have F6 := F5.box #[.int .i8 l0, .int .i8 k0, .slice (some ⟨g2, 0, none⟩) ws0.length ws0.length] 25
  clear F5
  obtain ⟨d4_0, d4_1, d4_2, d4_f⟩ := (F6.blk _ (List.mem_cons_self)).three
  go_wp2_with fail
  refine (Calls.fr F6 (HI.out _ _ _ (Sla.own (F6.blk _ (List.mem_cons_of_mem _ (List.mem_cons_self)))))).mono ?_
  rintro e w7 ⟨rfl, F7⟩
  clear F6 d4_0 d4_1 d4_2 d4_f
  have F8 := F7.box #[.int .i64 (soX l0 k0 ws0 0), .int .i64 (soX l0 k0 ws0 1), .int .i64 (soX l0 k0 ws0 2), .int .i64 (soX l0 k0 ws0 3)] 40
  clear F7
  obtain ⟨d5_0, d5_1, d5_2, d5_3, d5_f⟩ := (F8.blk _ (List.mem_cons_self)).four
  obtain ⟨d6_0, d6_1, d6_2, d6_3, d6_f⟩ := (F8.blk _ (List.mem_cons_of_mem _ (List.mem_cons_of_mem _ (List.mem_cons_of_mem _ (List.mem_cons_self))))).four
  go_wp2_with fail
  refine (eqState_fr F8 _).mono ?_
  rintro e w9 ⟨rfl, F9⟩
  clear F8 d5_0 d5_1 d5_2 d5_3 d5_f d6_0 d6_1 d6_2 d6_3 d6_f
  go_wp2_with fail
  have F10 := F9.drew
  go_region_held3 (fun w' => w'.cell? ⟨w5.heap.size, 0, none⟩ = some (.int .i8 l0) ∧ w'.cell? ⟨w5.heap.size, 1, none⟩ = some (.int .i8 k0) ∧ w'.cell? ⟨w5.heap.size, 2, none⟩ = some (.slice (some ⟨g2, 0, none⟩) ws0.length ws0.length) ∧ w'.cell? ⟨w.heap.size, 0, none⟩ = some (.int .i8 l0) ∧ w'.cell? ⟨w.heap.size, 1, none⟩ = some (.int .i8 k0) ∧ w'.cell? ⟨w.heap.size, 2, none⟩ = some (.slice a0 ws0.length c0))
    (first | exact ⟨(F12.blk _ (List.mem_cons_of_mem _ (List.mem_cons_of_mem _ (List.mem_cons_self)))).cell 0, (F12.blk _ (List.mem_cons_of_mem _ (List.mem_cons_of_mem _ (List.mem_cons_self)))).cell 1, (F12.blk _ (List.mem_cons_of_mem _ (List.mem_cons_of_mem _ (List.mem_cons_self)))).cell 2, (F12.blk _ (List.mem_cons_of_mem _ (List.mem_cons_of_mem _ (List.mem_cons_of_mem _ (List.mem_cons_of_mem _ (List.mem_cons_of_mem _ (List.mem_cons_of_mem _ (List.mem_cons_self)))))))).cell 0, (F12.blk _ (List.mem_cons_of_mem _ (List.mem_cons_of_mem _ (List.mem_cons_of_mem _ (List.mem_cons_of_mem _ (List.mem_cons_of_mem _ (List.mem_cons_of_mem _ (List.mem_cons_self)))))))).cell 1, (F12.blk _ (List.mem_cons_of_mem _ (List.mem_cons_of_mem _ (List.mem_cons_of_mem _ (List.mem_cons_of_mem _ (List.mem_cons_of_mem _ (List.mem_cons_of_mem _ (List.mem_cons_self)))))))).cell 2⟩ | exact ⟨(F11.blk _ (List.mem_cons_of_mem _ (List.mem_cons_of_mem _ (List.mem_cons_self)))).cell 0, (F11.blk _ (List.mem_cons_of_mem _ (List.mem_cons_of_mem _ (List.mem_cons_self)))).cell 1, (F11.blk _ (List.mem_cons_of_mem _ (List.mem_cons_of_mem _ (List.mem_cons_self)))).cell 2, (F11.blk _ (List.mem_cons_of_mem _ (List.mem_cons_of_mem _ (List.mem_cons_of_mem _ (List.mem_cons_of_mem _ (List.mem_cons_of_mem _ (List.mem_cons_of_mem _ (List.mem_cons_self)))))))).cell 0, (F11.blk _ (List.mem_cons_of_mem _ (List.mem_cons_of_mem _ (List.mem_cons_of_mem _ (List.mem_cons_of_mem _ (List.mem_cons_of_mem _ (List.mem_cons_of_mem _ (List.mem_cons_self)))))))).cell 1, (F11.blk _ (List.mem_cons_of_mem _ (List.mem_cons_of_mem _ (List.mem_cons_of_mem _ (List.mem_cons_of_mem _ (List.mem_cons_of_mem _ (List.mem_cons_of_mem _ (List.mem_cons_self)))))))).cell 2⟩ | exact ⟨(F10.blk _ (List.mem_cons_of_mem _ (List.mem_cons_self))).cell 0, (F10.blk _ (List.mem_cons_of_mem _ (List.mem_cons_self))).cell 1, (F10.blk _ (List.mem_cons_of_mem _ (List.mem_cons_self))).cell 2, (F10.blk _ (List.mem_cons_of_mem _ (List.mem_cons_of_mem _ (List.mem_cons_of_mem _ (List.mem_cons_of_mem _ (List.mem_cons_of_mem _ (List.mem_cons_self))))))).cell 0, (F10.blk _ (List.mem_cons_of_mem _ (List.mem_cons_of_mem _ (List.mem_cons_of_mem _ (List.mem_cons_of_mem _ (List.mem_cons_of_mem _ (List.mem_cons_self))))))).cell 1, (F10.blk _ (List.mem_cons_of_mem _ (List.mem_cons_of_mem _ (List.mem_cons_of_mem _ (List.mem_cons_of_mem _ (List.mem_cons_of_mem _ (List.mem_cons_self))))))).cell 2⟩)
    (first
      | (go_at_call 15; with_reducible refine (toGame_fr F10 l0 k0 a0 c0 ws0 hn0 s0).mono ?_; rintro e w11 ⟨g3, rfl, F11⟩)
      | (go_at_call 10; with_reducible refine (eqGame_fr F11 (List.mem_cons_of_mem _ (List.mem_cons_of_mem _ (List.mem_cons_of_mem _ (List.mem_cons_self)))) (List.mem_cons_self) l0 k0 _ _ hn0).mono ?_; rintro e w12 ⟨rfl, F12⟩))
  clear F10
  clear F11
  have HB := Lib.hid F12.below
  clear F12
  go_wp2
  go_ret
  exact ⟨rfl, HB.out⟩
end Go.Proofs.Ytclmjbkdghgjbaa
