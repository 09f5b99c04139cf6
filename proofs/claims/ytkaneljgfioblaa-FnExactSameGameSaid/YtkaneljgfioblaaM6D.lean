/-
  The walks of exact laws over games.
-/
import Derived.Test.YtkaneljgfioblaaZ11
import Derived.Deep.RegionHeld3
import Derived.Deep.MidRow
namespace Go.Proofs.Ytkaneljgfioblaa
open Go.RowKit
set_option linter.unusedVariables false

set_option maxRecDepth 100000 in
set_option maxHeartbeats 2000000 in
theorem walk_FnExactSameGame (l0 k0 : Int) (a0 : Option Addr) (c0 : Nat) (ws0 : List Ak) (l1 k1 : Int) (a1 : Option Addr) (c1 : Nat) (ws1 : List Ak) (w : World) (p0 : B8 l0) (q0 : B8 k0) (m0 : ws0.length ≤ 9223372036854775807) (s0 : Sla w.heap.size w a0 ws0) (r0 : Aall ws0) (p1 : B8 l1) (q1 : B8 k1) (m1 : ws1.length ≤ 9223372036854775807) (s1 : Sla w.heap.size w a1 ws1) (r1 : Aall ws1) :
    Calls Try.prog 4 #[gamV l0 k0 a0 ws0.length c0, gamV l1 k1 a1 ws1.length c1] w fun e w' => e = .returned (.bool true) ∧ Below w.heap.size w w' := by
  have F0 := ((FR.start w).box #[.int .i8 l0, .int .i8 k0, .slice a0 ws0.length c0] 25).box #[.int .i8 l1, .int .i8 k1, .slice a1 ws1.length c1] 25
  simp only [World.size_alloc] at F0
  by_cases z0 : (1048576 : Int) < ws0.length
  · have HZ := szGame_any l0 k0 a0 ws0.length c0 1048576
    simp only [if_pos z0] at HZ
    obtain ⟨d_0, d_1, d_2, -⟩ := (F0.blk _ (List.mem_cons_of_mem _ (List.mem_cons_self))).three
    go_enter Try.func4, Try.ntmps4
    go_wp2_with fail
    refine (Calls.fr F0 (HZ _ (by omega) m0)).mono ?_
    rintro e w1 ⟨rfl, F1⟩
    clear d_0 d_1 d_2 HZ F0
    have HB := Lib.hid F1.below
    clear F1
    go_wp2
    go_ret
    exact ⟨rfl, HB.out⟩
  have hn0 : ws0.length ≤ 1048576 := by omega
  have hz0 : 0 ≤ 1048576 - (ws0.length : Int) ∧ 1048576 - (ws0.length : Int) ≤ 1048576 := by omega
  have HZ0 := Lib.hid (fun W => szGame_any l0 k0 a0 ws0.length c0 1048576 W (by omega) m0)
  simp only [if_neg z0] at HZ0
  clear z0
  obtain ⟨left, hleft⟩ : ∃ left, 1048576 - (ws0.length : Int) = left := ⟨_, rfl⟩
  rw [hleft] at hz0 HZ0
  clear hleft
  by_cases z1 : left < ws1.length
  · have HZ := Lib.hid (fun W => szGame_any l1 k1 a1 ws1.length c1 left W hz0 m1)
    simp only [if_pos z1] at HZ
    obtain ⟨d_0, d_1, d_2, -⟩ := (F0.blk _ (List.mem_cons_of_mem _ (List.mem_cons_self))).three
    go_enter Try.func4, Try.ntmps4
    go_wp2_with fail
    refine (Calls.fr F0 (HZ0.out _)).mono ?_
    rintro e w1 ⟨rfl, F1⟩
    clear d_0 d_1 d_2 F0
    obtain ⟨d_0, d_1, d_2, -⟩ := (F1.blk _ (List.mem_cons_self)).three
    go_wp2_with fail
    refine (Calls.fr F1 (HZ.out _)).mono ?_
    rintro e w2 ⟨rfl, F2⟩
    clear d_0 d_1 d_2 F1
    have HB := Lib.hid F2.below
    clear F2
    go_wp2
    go_ret
    exact ⟨rfl, HB.out⟩
  have hn1 : ws1.length ≤ 1048576 := by omega
  have HZ1 := Lib.hid (fun W => szGame_any l1 k1 a1 ws1.length c1 left W hz0 m1)
  simp only [if_neg z1] at HZ1
  have hz1 : 0 ≤ left - (ws1.length : Int) ∧ left - (ws1.length : Int) ≤ 1048576 := by omega
  obtain ⟨left2, hleft2⟩ : ∃ x, left - (ws1.length : Int) = x := ⟨_, rfl⟩
  rw [hleft2] at hz1 HZ1
  clear hleft2 z1
  have HS := Lib.hid (fun (W : World) (a0' : Option Addr) (c0' : Nat) (hs0 : Sla W.heap.size W a0' ws0) (a1' : Option Addr) (c1' : Nat) (hs1 : Sla W.heap.size W a1' ws1) => specSameGame_any l0 k0 a0' c0' ws0 l1 k1 a1' c1' ws1 W hn0 hn1 hs0 hs1)
  have HI := Lib.hid (fun (W : World) (a0' : Option Addr) (c0' : Nat) (hs0 : Sla W.heap.size W a0' ws0) (a1' : Option Addr) (c1' : Nat) (hs1 : Sla W.heap.size W a1' ws1) => sameGame_any l0 k0 a0' c0' ws0 l1 k1 a1' c1' ws1 W hn0 hn1 hs0 hs1)
  generalize sameX l0 k0 ws0 l1 k1 ws1 = ok at *
  go_enter Try.func4, Try.ntmps4
  obtain ⟨d1_0, d1_1, d1_2, d1_f⟩ := (F0.blk _ (List.mem_cons_of_mem _ (List.mem_cons_self))).three
  go_wp2_with fail
  refine (Calls.fr F0 (HZ0.out _)).mono ?_
  rintro e w1 ⟨rfl, F1⟩
  clear F0 d1_0 d1_1 d1_2 d1_f
  clear HZ0
  obtain ⟨d2_0, d2_1, d2_2, d2_f⟩ := (F1.blk _ (List.mem_cons_self)).three
  go_wp2_with fail
  refine (Calls.fr F1 (HZ1.out _)).mono ?_
  rintro e w2 ⟨rfl, F2⟩
  clear F1 d2_0 d2_1 d2_2 d2_f
  clear HZ1
  go_wp2_with fail
  have F3 := F2.drew
  go_region_held3 (fun w' => w'.cell? ⟨w.heap.size, 0, none⟩ = some (.int .i8 l0) ∧ w'.cell? ⟨w.heap.size, 1, none⟩ = some (.int .i8 k0) ∧ w'.cell? ⟨w.heap.size, 2, none⟩ = some (.slice a0 ws0.length c0) ∧ w'.cell? ⟨w.heap.size + 1, 0, none⟩ = some (.int .i8 l1) ∧ w'.cell? ⟨w.heap.size + 1, 1, none⟩ = some (.int .i8 k1) ∧ w'.cell? ⟨w.heap.size + 1, 2, none⟩ = some (.slice a1 ws1.length c1))
    (first | exact ⟨(F6.blk _ (List.mem_cons_of_mem _ (List.mem_cons_of_mem _ (List.mem_cons_of_mem _ (List.mem_cons_self))))).cell 0, (F6.blk _ (List.mem_cons_of_mem _ (List.mem_cons_of_mem _ (List.mem_cons_of_mem _ (List.mem_cons_self))))).cell 1, (F6.blk _ (List.mem_cons_of_mem _ (List.mem_cons_of_mem _ (List.mem_cons_of_mem _ (List.mem_cons_self))))).cell 2, (F6.blk _ (List.mem_cons_of_mem _ (List.mem_cons_of_mem _ (List.mem_cons_self)))).cell 0, (F6.blk _ (List.mem_cons_of_mem _ (List.mem_cons_of_mem _ (List.mem_cons_self)))).cell 1, (F6.blk _ (List.mem_cons_of_mem _ (List.mem_cons_of_mem _ (List.mem_cons_self)))).cell 2⟩ | exact ⟨(F5.blk _ (List.mem_cons_of_mem _ (List.mem_cons_of_mem _ (List.mem_cons_of_mem _ (List.mem_cons_self))))).cell 0, (F5.blk _ (List.mem_cons_of_mem _ (List.mem_cons_of_mem _ (List.mem_cons_of_mem _ (List.mem_cons_self))))).cell 1, (F5.blk _ (List.mem_cons_of_mem _ (List.mem_cons_of_mem _ (List.mem_cons_of_mem _ (List.mem_cons_self))))).cell 2, (F5.blk _ (List.mem_cons_of_mem _ (List.mem_cons_of_mem _ (List.mem_cons_self)))).cell 0, (F5.blk _ (List.mem_cons_of_mem _ (List.mem_cons_of_mem _ (List.mem_cons_self)))).cell 1, (F5.blk _ (List.mem_cons_of_mem _ (List.mem_cons_of_mem _ (List.mem_cons_self)))).cell 2⟩ | exact ⟨(F4.blk _ (List.mem_cons_of_mem _ (List.mem_cons_of_mem _ (List.mem_cons_self)))).cell 0, (F4.blk _ (List.mem_cons_of_mem _ (List.mem_cons_of_mem _ (List.mem_cons_self)))).cell 1, (F4.blk _ (List.mem_cons_of_mem _ (List.mem_cons_of_mem _ (List.mem_cons_self)))).cell 2, (F4.blk _ (List.mem_cons_of_mem _ (List.mem_cons_self))).cell 0, (F4.blk _ (List.mem_cons_of_mem _ (List.mem_cons_self))).cell 1, (F4.blk _ (List.mem_cons_of_mem _ (List.mem_cons_self))).cell 2⟩ | exact ⟨(F3.blk _ (List.mem_cons_of_mem _ (List.mem_cons_self))).cell 0, (F3.blk _ (List.mem_cons_of_mem _ (List.mem_cons_self))).cell 1, (F3.blk _ (List.mem_cons_of_mem _ (List.mem_cons_self))).cell 2, (F3.blk _ (List.mem_cons_self)).cell 0, (F3.blk _ (List.mem_cons_self)).cell 1, (F3.blk _ (List.mem_cons_self)).cell 2⟩)
    (first
      | (go_at_call 11; with_reducible refine (toGame_fr F3 l0 k0 a0 c0 ws0 hn0 s0).mono ?_; rintro e w4 ⟨g1, rfl, F4⟩)
      | (go_at_call 11; with_reducible refine (toGame_fr F4 l1 k1 a1 c1 ws1 hn1 s1).mono ?_; rintro e w5 ⟨g2, rfl, F5⟩)
      | (go_at_call 14; with_reducible refine (Calls.fr F5 (HS.out _ _ _ (Sla.own (F5.blk _ (List.mem_cons_of_mem _ (List.mem_cons_self)))) _ _ (Sla.own (F5.blk _ (List.mem_cons_self))))).mono ?_; rintro e w6 ⟨rfl, F6⟩))
  clear F3
  clear F4
  clear F5
  obtain ⟨d3_0, d3_1, d3_2, d3_f⟩ := (F6.blk _ (List.mem_cons_of_mem _ (List.mem_cons_of_mem _ (List.mem_cons_of_mem _ (List.mem_cons_self))))).three
  go_wp2_with fail
  refine (toGame_fr F6 l0 k0 a0 c0 ws0 hn0 s0).mono ?_
  rintro e w7 ⟨g3, rfl, F7⟩
  clear F6 d3_0 d3_1 d3_2 d3_f
  have F8 := F7.box #[.int .i8 l0, .int .i8 k0, .slice (some ⟨g3, 0, none⟩) ws0.length ws0.length] 30
  clear F7
  obtain ⟨d4_0, d4_1, d4_2, d4_f⟩ := (F8.blk _ (List.mem_cons_of_mem _ (List.mem_cons_of_mem _ (List.mem_cons_of_mem _ (List.mem_cons_of_mem _ (List.mem_cons_self)))))).three
  go_wp2_with fail
  refine (toGame_fr F8 l1 k1 a1 c1 ws1 hn1 s1).mono ?_
  rintro e w9 ⟨g4, rfl, F9⟩
  clear F8 d4_0 d4_1 d4_2 d4_f
  have F10 := F9.box #[.int .i8 l1, .int .i8 k1, .slice (some ⟨g4, 0, none⟩) ws1.length ws1.length] 30
  clear F9
  obtain ⟨d5_0, d5_1, d5_2, d5_f⟩ := (F10.blk _ (List.mem_cons_of_mem _ (List.mem_cons_of_mem _ (List.mem_cons_self)))).three
  obtain ⟨d6_0, d6_1, d6_2, d6_f⟩ := (F10.blk _ (List.mem_cons_self)).three
  go_wp2_with fail
  refine (Calls.fr F10 (HI.out _ _ _ (Sla.own (F10.blk _ (List.mem_cons_of_mem _ (List.mem_cons_of_mem _ (List.mem_cons_of_mem _ (List.mem_cons_self)))))) _ _ (Sla.own (F10.blk _ (List.mem_cons_of_mem _ (List.mem_cons_self)))))).mono ?_
  rintro e w11 ⟨rfl, F11⟩
  clear F10 d5_0 d5_1 d5_2 d5_f d6_0 d6_1 d6_2 d6_f
  go_wp2_with fail
  have F12 := F11.drew
  go_region_held3 (fun w' => w'.cell? ⟨w7.heap.size, 0, none⟩ = some (.int .i8 l0) ∧ w'.cell? ⟨w7.heap.size, 1, none⟩ = some (.int .i8 k0) ∧ w'.cell? ⟨w7.heap.size, 2, none⟩ = some (.slice (some ⟨g3, 0, none⟩) ws0.length ws0.length) ∧ w'.cell? ⟨w.heap.size, 0, none⟩ = some (.int .i8 l0) ∧ w'.cell? ⟨w.heap.size, 1, none⟩ = some (.int .i8 k0) ∧ w'.cell? ⟨w.heap.size, 2, none⟩ = some (.slice a0 ws0.length c0))
    (first | exact ⟨(F14.blk _ (List.mem_cons_of_mem _ (List.mem_cons_of_mem _ (List.mem_cons_of_mem _ (List.mem_cons_self))))).cell 0, (F14.blk _ (List.mem_cons_of_mem _ (List.mem_cons_of_mem _ (List.mem_cons_of_mem _ (List.mem_cons_self))))).cell 1, (F14.blk _ (List.mem_cons_of_mem _ (List.mem_cons_of_mem _ (List.mem_cons_of_mem _ (List.mem_cons_self))))).cell 2, (F14.blk _ (List.mem_cons_of_mem _ (List.mem_cons_of_mem _ (List.mem_cons_of_mem _ (List.mem_cons_of_mem _ (List.mem_cons_of_mem _ (List.mem_cons_of_mem _ (List.mem_cons_of_mem _ (List.mem_cons_of_mem _ (List.mem_cons_self)))))))))).cell 0, (F14.blk _ (List.mem_cons_of_mem _ (List.mem_cons_of_mem _ (List.mem_cons_of_mem _ (List.mem_cons_of_mem _ (List.mem_cons_of_mem _ (List.mem_cons_of_mem _ (List.mem_cons_of_mem _ (List.mem_cons_of_mem _ (List.mem_cons_self)))))))))).cell 1, (F14.blk _ (List.mem_cons_of_mem _ (List.mem_cons_of_mem _ (List.mem_cons_of_mem _ (List.mem_cons_of_mem _ (List.mem_cons_of_mem _ (List.mem_cons_of_mem _ (List.mem_cons_of_mem _ (List.mem_cons_of_mem _ (List.mem_cons_self)))))))))).cell 2⟩ | exact ⟨(F13.blk _ (List.mem_cons_of_mem _ (List.mem_cons_of_mem _ (List.mem_cons_of_mem _ (List.mem_cons_self))))).cell 0, (F13.blk _ (List.mem_cons_of_mem _ (List.mem_cons_of_mem _ (List.mem_cons_of_mem _ (List.mem_cons_self))))).cell 1, (F13.blk _ (List.mem_cons_of_mem _ (List.mem_cons_of_mem _ (List.mem_cons_of_mem _ (List.mem_cons_self))))).cell 2, (F13.blk _ (List.mem_cons_of_mem _ (List.mem_cons_of_mem _ (List.mem_cons_of_mem _ (List.mem_cons_of_mem _ (List.mem_cons_of_mem _ (List.mem_cons_of_mem _ (List.mem_cons_of_mem _ (List.mem_cons_of_mem _ (List.mem_cons_self)))))))))).cell 0, (F13.blk _ (List.mem_cons_of_mem _ (List.mem_cons_of_mem _ (List.mem_cons_of_mem _ (List.mem_cons_of_mem _ (List.mem_cons_of_mem _ (List.mem_cons_of_mem _ (List.mem_cons_of_mem _ (List.mem_cons_of_mem _ (List.mem_cons_self)))))))))).cell 1, (F13.blk _ (List.mem_cons_of_mem _ (List.mem_cons_of_mem _ (List.mem_cons_of_mem _ (List.mem_cons_of_mem _ (List.mem_cons_of_mem _ (List.mem_cons_of_mem _ (List.mem_cons_of_mem _ (List.mem_cons_of_mem _ (List.mem_cons_self)))))))))).cell 2⟩ | exact ⟨(F12.blk _ (List.mem_cons_of_mem _ (List.mem_cons_of_mem _ (List.mem_cons_self)))).cell 0, (F12.blk _ (List.mem_cons_of_mem _ (List.mem_cons_of_mem _ (List.mem_cons_self)))).cell 1, (F12.blk _ (List.mem_cons_of_mem _ (List.mem_cons_of_mem _ (List.mem_cons_self)))).cell 2, (F12.blk _ (List.mem_cons_of_mem _ (List.mem_cons_of_mem _ (List.mem_cons_of_mem _ (List.mem_cons_of_mem _ (List.mem_cons_of_mem _ (List.mem_cons_of_mem _ (List.mem_cons_of_mem _ (List.mem_cons_self))))))))).cell 0, (F12.blk _ (List.mem_cons_of_mem _ (List.mem_cons_of_mem _ (List.mem_cons_of_mem _ (List.mem_cons_of_mem _ (List.mem_cons_of_mem _ (List.mem_cons_of_mem _ (List.mem_cons_of_mem _ (List.mem_cons_self))))))))).cell 1, (F12.blk _ (List.mem_cons_of_mem _ (List.mem_cons_of_mem _ (List.mem_cons_of_mem _ (List.mem_cons_of_mem _ (List.mem_cons_of_mem _ (List.mem_cons_of_mem _ (List.mem_cons_of_mem _ (List.mem_cons_self))))))))).cell 2⟩)
    (first
      | (go_at_call 11; with_reducible refine (toGame_fr F12 l0 k0 a0 c0 ws0 hn0 s0).mono ?_; rintro e w13 ⟨g5, rfl, F13⟩)
      | (go_at_call 13; with_reducible refine (eqGame_fr F13 (List.mem_cons_of_mem _ (List.mem_cons_of_mem _ (List.mem_cons_of_mem _ (List.mem_cons_of_mem _ (List.mem_cons_self))))) (List.mem_cons_self) l0 k0 _ _ hn0).mono ?_; rintro e w14 ⟨rfl, F14⟩))
  clear F12
  clear F13
  go_wp2_with fail
  have F15 := F14.drew
  go_region_held3 (fun w' => w'.cell? ⟨w9.heap.size, 0, none⟩ = some (.int .i8 l1) ∧ w'.cell? ⟨w9.heap.size, 1, none⟩ = some (.int .i8 k1) ∧ w'.cell? ⟨w9.heap.size, 2, none⟩ = some (.slice (some ⟨g4, 0, none⟩) ws1.length ws1.length) ∧ w'.cell? ⟨w.heap.size + 1, 0, none⟩ = some (.int .i8 l1) ∧ w'.cell? ⟨w.heap.size + 1, 1, none⟩ = some (.int .i8 k1) ∧ w'.cell? ⟨w.heap.size + 1, 2, none⟩ = some (.slice a1 ws1.length c1))
    (first | exact ⟨(F17.blk _ (List.mem_cons_of_mem _ (List.mem_cons_of_mem _ (List.mem_cons_self)))).cell 0, (F17.blk _ (List.mem_cons_of_mem _ (List.mem_cons_of_mem _ (List.mem_cons_self)))).cell 1, (F17.blk _ (List.mem_cons_of_mem _ (List.mem_cons_of_mem _ (List.mem_cons_self)))).cell 2, (F17.blk _ (List.mem_cons_of_mem _ (List.mem_cons_of_mem _ (List.mem_cons_of_mem _ (List.mem_cons_of_mem _ (List.mem_cons_of_mem _ (List.mem_cons_of_mem _ (List.mem_cons_of_mem _ (List.mem_cons_of_mem _ (List.mem_cons_self)))))))))).cell 0, (F17.blk _ (List.mem_cons_of_mem _ (List.mem_cons_of_mem _ (List.mem_cons_of_mem _ (List.mem_cons_of_mem _ (List.mem_cons_of_mem _ (List.mem_cons_of_mem _ (List.mem_cons_of_mem _ (List.mem_cons_of_mem _ (List.mem_cons_self)))))))))).cell 1, (F17.blk _ (List.mem_cons_of_mem _ (List.mem_cons_of_mem _ (List.mem_cons_of_mem _ (List.mem_cons_of_mem _ (List.mem_cons_of_mem _ (List.mem_cons_of_mem _ (List.mem_cons_of_mem _ (List.mem_cons_of_mem _ (List.mem_cons_self)))))))))).cell 2⟩ | exact ⟨(F16.blk _ (List.mem_cons_of_mem _ (List.mem_cons_of_mem _ (List.mem_cons_self)))).cell 0, (F16.blk _ (List.mem_cons_of_mem _ (List.mem_cons_of_mem _ (List.mem_cons_self)))).cell 1, (F16.blk _ (List.mem_cons_of_mem _ (List.mem_cons_of_mem _ (List.mem_cons_self)))).cell 2, (F16.blk _ (List.mem_cons_of_mem _ (List.mem_cons_of_mem _ (List.mem_cons_of_mem _ (List.mem_cons_of_mem _ (List.mem_cons_of_mem _ (List.mem_cons_of_mem _ (List.mem_cons_of_mem _ (List.mem_cons_of_mem _ (List.mem_cons_self)))))))))).cell 0, (F16.blk _ (List.mem_cons_of_mem _ (List.mem_cons_of_mem _ (List.mem_cons_of_mem _ (List.mem_cons_of_mem _ (List.mem_cons_of_mem _ (List.mem_cons_of_mem _ (List.mem_cons_of_mem _ (List.mem_cons_of_mem _ (List.mem_cons_self)))))))))).cell 1, (F16.blk _ (List.mem_cons_of_mem _ (List.mem_cons_of_mem _ (List.mem_cons_of_mem _ (List.mem_cons_of_mem _ (List.mem_cons_of_mem _ (List.mem_cons_of_mem _ (List.mem_cons_of_mem _ (List.mem_cons_of_mem _ (List.mem_cons_self)))))))))).cell 2⟩ | exact ⟨(F15.blk _ (List.mem_cons_of_mem _ (List.mem_cons_self))).cell 0, (F15.blk _ (List.mem_cons_of_mem _ (List.mem_cons_self))).cell 1, (F15.blk _ (List.mem_cons_of_mem _ (List.mem_cons_self))).cell 2, (F15.blk _ (List.mem_cons_of_mem _ (List.mem_cons_of_mem _ (List.mem_cons_of_mem _ (List.mem_cons_of_mem _ (List.mem_cons_of_mem _ (List.mem_cons_of_mem _ (List.mem_cons_of_mem _ (List.mem_cons_self))))))))).cell 0, (F15.blk _ (List.mem_cons_of_mem _ (List.mem_cons_of_mem _ (List.mem_cons_of_mem _ (List.mem_cons_of_mem _ (List.mem_cons_of_mem _ (List.mem_cons_of_mem _ (List.mem_cons_of_mem _ (List.mem_cons_self))))))))).cell 1, (F15.blk _ (List.mem_cons_of_mem _ (List.mem_cons_of_mem _ (List.mem_cons_of_mem _ (List.mem_cons_of_mem _ (List.mem_cons_of_mem _ (List.mem_cons_of_mem _ (List.mem_cons_of_mem _ (List.mem_cons_self))))))))).cell 2⟩)
    (first
      | (go_at_call 11; with_reducible refine (toGame_fr F15 l1 k1 a1 c1 ws1 hn1 s1).mono ?_; rintro e w16 ⟨g6, rfl, F16⟩)
      | (go_at_call 13; with_reducible refine (eqGame_fr F16 (List.mem_cons_of_mem _ (List.mem_cons_of_mem _ (List.mem_cons_of_mem _ (List.mem_cons_self)))) (List.mem_cons_self) l1 k1 _ _ hn1).mono ?_; rintro e w17 ⟨rfl, F17⟩))
  clear F15
  clear F16
  have HB := Lib.hid F17.below
  clear F17
  go_wp2
  go_ret
  exact ⟨rfl, HB.out⟩
end Go.Proofs.Ytkaneljgfioblaa
