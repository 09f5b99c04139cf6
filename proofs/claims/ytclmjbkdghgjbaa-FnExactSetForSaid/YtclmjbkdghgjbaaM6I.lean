/-
  The walks of exact laws over games.
-/
import Derived.Test.YtclmjbkdghgjbaaZ29
import Derived.Deep.RegionHeld3
import Derived.Deep.MidRow
namespace Go.Proofs.Ytclmjbkdghgjbaa
open Go.RowKit
set_option linter.unusedVariables false

set_option maxRecDepth 100000 in
set_option maxHeartbeats 2000000 in
theorem walk_FnExactSetFor (l0 k0 : Int) (a0 : Option Addr) (c0 : Nat) (ws0 : List Ak) (x1 : Nat → Int) (w : World) (p0 : B8 l0) (q0 : B8 k0) (m0 : ws0.length ≤ 9223372036854775807) (s0 : Sla w.heap.size w a0 ws0) (r0 : Aall ws0) (p1 : S4 x1) :
    Calls Try.prog 6 #[gamV l0 k0 a0 ws0.length c0, staV x1] w fun e w' => e = .returned (.bool true) ∧ Below w.heap.size w w' := by
  have F0 := ((FR.start w).box #[.int .i8 l0, .int .i8 k0, .slice a0 ws0.length c0] 33).box #[.int .i64 (x1 0), .int .i64 (x1 1), .int .i64 (x1 2), .int .i64 (x1 3)] 39
  simp only [World.size_alloc] at F0
  by_cases z0 : (1048576 : Int) < ws0.length
  · have HZ := szGame_any l0 k0 a0 ws0.length c0 1048576
    simp only [if_pos z0] at HZ
    obtain ⟨d_0, d_1, d_2, -⟩ := (F0.blk _ (List.mem_cons_of_mem _ (List.mem_cons_self))).three
    go_enter Try.func6, Try.ntmps6
    go_wp2_with fail
    refine (Calls.fr F0 (HZ _ (by omega) m0)).mono ?_
    rintro e w1 ⟨rfl, F1⟩
    clear d_0 d_1 d_2 HZ F0
    have HB := Lib.hid F1.below
    clear F1
    go_wp2
    go_ret
    exact ⟨rfl, HB.out⟩
  have hn0 : ws0.length ≤ 1048576 := by omega
  have hz0 : 0 ≤ 1048576 - (ws0.length : Int) ∧ 1048576 - (ws0.length : Int) ≤ 1048576 := by omega
  have HZ0 := Lib.hid (fun W => szGame_any l0 k0 a0 ws0.length c0 1048576 W (by omega) m0)
  simp only [if_neg z0] at HZ0
  clear z0
  obtain ⟨left, hleft⟩ : ∃ left, 1048576 - (ws0.length : Int) = left := ⟨_, rfl⟩
  rw [hleft] at hz0 HZ0
  clear hleft
  have HS := Lib.hid (fun (W : World) (a0' : Option Addr) (c0' : Nat) (hs0 : Sla W.heap.size W a0' ws0) => specSetFor_any l0 k0 a0' c0' ws0 x1 W hs0 p0 q0 hn0 r0 p1)
  have HI := Lib.hid (fun (W : World) (a0' : Option Addr) (c0' : Nat) (hs0 : Sla W.heap.size W a0' ws0) => setForI_any l0 k0 a0' c0' ws0 x1 W hs0 p0 q0 hn0 r0 p1)
  generalize suV l0 k0 ws0 x1 = ok at *
  generalize suC l0 k0 ws0 x1 = co at *
  go_enter Try.func6, Try.ntmps6
  obtain ⟨d1_0, d1_1, d1_2, d1_f⟩ := (F0.blk _ (List.mem_cons_of_mem _ (List.mem_cons_self))).three
  go_wp2_with fail
  refine (Calls.fr F0 (HZ0.out _)).mono ?_
  rintro e w1 ⟨rfl, F1⟩
  clear F0 d1_0 d1_1 d1_2 d1_f
  clear HZ0
  go_wp2_with fail
  have F2 := F1.drew
  go_region_held3 (fun w' => w'.cell? ⟨w.heap.size, 0, none⟩ = some (.int .i8 l0) ∧ w'.cell? ⟨w.heap.size, 1, none⟩ = some (.int .i8 k0) ∧ w'.cell? ⟨w.heap.size, 2, none⟩ = some (.slice a0 ws0.length c0) ∧ w'.cell? ⟨w.heap.size + 1, 0, none⟩ = some (.int .i64 (x1 0)) ∧ w'.cell? ⟨w.heap.size + 1, 1, none⟩ = some (.int .i64 (x1 1)) ∧ w'.cell? ⟨w.heap.size + 1, 2, none⟩ = some (.int .i64 (x1 2)) ∧ w'.cell? ⟨w.heap.size + 1, 3, none⟩ = some (.int .i64 (x1 3)))
    (first | exact ⟨(F5.blk _ (List.mem_cons_of_mem _ (List.mem_cons_of_mem _ (List.mem_cons_self)))).cell 0, (F5.blk _ (List.mem_cons_of_mem _ (List.mem_cons_of_mem _ (List.mem_cons_self)))).cell 1, (F5.blk _ (List.mem_cons_of_mem _ (List.mem_cons_of_mem _ (List.mem_cons_self)))).cell 2, (F5.blk _ (List.mem_cons_of_mem _ (List.mem_cons_self))).cell 0, (F5.blk _ (List.mem_cons_of_mem _ (List.mem_cons_self))).cell 1, (F5.blk _ (List.mem_cons_of_mem _ (List.mem_cons_self))).cell 2, (F5.blk _ (List.mem_cons_of_mem _ (List.mem_cons_self))).cell 3⟩ | exact ⟨(F4.blk _ (List.mem_cons_of_mem _ (List.mem_cons_of_mem _ (List.mem_cons_self)))).cell 0, (F4.blk _ (List.mem_cons_of_mem _ (List.mem_cons_of_mem _ (List.mem_cons_self)))).cell 1, (F4.blk _ (List.mem_cons_of_mem _ (List.mem_cons_of_mem _ (List.mem_cons_self)))).cell 2, (F4.blk _ (List.mem_cons_of_mem _ (List.mem_cons_self))).cell 0, (F4.blk _ (List.mem_cons_of_mem _ (List.mem_cons_self))).cell 1, (F4.blk _ (List.mem_cons_of_mem _ (List.mem_cons_self))).cell 2, (F4.blk _ (List.mem_cons_of_mem _ (List.mem_cons_self))).cell 3⟩ | exact ⟨(F3.blk _ (List.mem_cons_of_mem _ (List.mem_cons_of_mem _ (List.mem_cons_self)))).cell 0, (F3.blk _ (List.mem_cons_of_mem _ (List.mem_cons_of_mem _ (List.mem_cons_self)))).cell 1, (F3.blk _ (List.mem_cons_of_mem _ (List.mem_cons_of_mem _ (List.mem_cons_self)))).cell 2, (F3.blk _ (List.mem_cons_of_mem _ (List.mem_cons_self))).cell 0, (F3.blk _ (List.mem_cons_of_mem _ (List.mem_cons_self))).cell 1, (F3.blk _ (List.mem_cons_of_mem _ (List.mem_cons_self))).cell 2, (F3.blk _ (List.mem_cons_of_mem _ (List.mem_cons_self))).cell 3⟩ | exact ⟨(F2.blk _ (List.mem_cons_of_mem _ (List.mem_cons_self))).cell 0, (F2.blk _ (List.mem_cons_of_mem _ (List.mem_cons_self))).cell 1, (F2.blk _ (List.mem_cons_of_mem _ (List.mem_cons_self))).cell 2, (F2.blk _ (List.mem_cons_self)).cell 0, (F2.blk _ (List.mem_cons_self)).cell 1, (F2.blk _ (List.mem_cons_self)).cell 2, (F2.blk _ (List.mem_cons_self)).cell 3⟩)
    (first
      | (go_at_call 15; with_reducible refine (toGame_fr F2 l0 k0 a0 c0 ws0 hn0 s0).mono ?_; rintro e w3 ⟨g1, rfl, F3⟩)
      | (go_at_call 21; with_reducible refine (toState_fr F3 x1).mono ?_; rintro e w4 ⟨rfl, F4⟩)
      | (go_at_call 20; with_reducible refine (Calls.fr F4 (HS.out _ _ _ (Sla.own (F4.blk _ (List.mem_cons_self))))).mono ?_; rintro e w5 ⟨rfl, F5⟩))
  clear F2
  clear F3
  clear F4
  obtain ⟨d2_0, d2_1, d2_2, d2_f⟩ := (F5.blk _ (List.mem_cons_of_mem _ (List.mem_cons_of_mem _ (List.mem_cons_self)))).three
  go_wp2_with fail
  refine (toGame_fr F5 l0 k0 a0 c0 ws0 hn0 s0).mono ?_
  rintro e w6 ⟨g2, rfl, F6⟩
  clear F5 d2_0 d2_1 d2_2 d2_f
  have F7 := F6.box #[.int .i8 l0, .int .i8 k0, .slice (some ⟨g2, 0, none⟩) ws0.length ws0.length] 25
  clear F6
  go_wp2_with fail
  have F8 := F7.drew
  go_region_held3 (fun w' => w'.cell? ⟨w6.heap.size, 0, none⟩ = some (.int .i8 l0) ∧ w'.cell? ⟨w6.heap.size, 1, none⟩ = some (.int .i8 k0) ∧ w'.cell? ⟨w6.heap.size, 2, none⟩ = some (.slice (some ⟨g2, 0, none⟩) ws0.length ws0.length) ∧ w'.cell? ⟨w.heap.size + 1, 0, none⟩ = some (.int .i64 (x1 0)) ∧ w'.cell? ⟨w.heap.size + 1, 1, none⟩ = some (.int .i64 (x1 1)) ∧ w'.cell? ⟨w.heap.size + 1, 2, none⟩ = some (.int .i64 (x1 2)) ∧ w'.cell? ⟨w.heap.size + 1, 3, none⟩ = some (.int .i64 (x1 3)))
    (first | exact ⟨(F10.blk _ (List.mem_cons_self)).cell 0, (F10.blk _ (List.mem_cons_self)).cell 1, (F10.blk _ (List.mem_cons_self)).cell 2, (F10.blk _ (List.mem_cons_of_mem _ (List.mem_cons_of_mem _ (List.mem_cons_of_mem _ (List.mem_cons_self))))).cell 0, (F10.blk _ (List.mem_cons_of_mem _ (List.mem_cons_of_mem _ (List.mem_cons_of_mem _ (List.mem_cons_self))))).cell 1, (F10.blk _ (List.mem_cons_of_mem _ (List.mem_cons_of_mem _ (List.mem_cons_of_mem _ (List.mem_cons_self))))).cell 2, (F10.blk _ (List.mem_cons_of_mem _ (List.mem_cons_of_mem _ (List.mem_cons_of_mem _ (List.mem_cons_self))))).cell 3⟩ | exact ⟨(F9.blk _ (List.mem_cons_self)).cell 0, (F9.blk _ (List.mem_cons_self)).cell 1, (F9.blk _ (List.mem_cons_self)).cell 2, (F9.blk _ (List.mem_cons_of_mem _ (List.mem_cons_of_mem _ (List.mem_cons_of_mem _ (List.mem_cons_self))))).cell 0, (F9.blk _ (List.mem_cons_of_mem _ (List.mem_cons_of_mem _ (List.mem_cons_of_mem _ (List.mem_cons_self))))).cell 1, (F9.blk _ (List.mem_cons_of_mem _ (List.mem_cons_of_mem _ (List.mem_cons_of_mem _ (List.mem_cons_self))))).cell 2, (F9.blk _ (List.mem_cons_of_mem _ (List.mem_cons_of_mem _ (List.mem_cons_of_mem _ (List.mem_cons_self))))).cell 3⟩ | exact ⟨(F8.blk _ (List.mem_cons_self)).cell 0, (F8.blk _ (List.mem_cons_self)).cell 1, (F8.blk _ (List.mem_cons_self)).cell 2, (F8.blk _ (List.mem_cons_of_mem _ (List.mem_cons_of_mem _ (List.mem_cons_of_mem _ (List.mem_cons_self))))).cell 0, (F8.blk _ (List.mem_cons_of_mem _ (List.mem_cons_of_mem _ (List.mem_cons_of_mem _ (List.mem_cons_self))))).cell 1, (F8.blk _ (List.mem_cons_of_mem _ (List.mem_cons_of_mem _ (List.mem_cons_of_mem _ (List.mem_cons_self))))).cell 2, (F8.blk _ (List.mem_cons_of_mem _ (List.mem_cons_of_mem _ (List.mem_cons_of_mem _ (List.mem_cons_self))))).cell 3⟩)
    (first
      | (go_at_call 21; with_reducible refine (toState_fr F8 x1).mono ?_; rintro e w9 ⟨rfl, F9⟩)
      | (go_at_call 22; with_reducible refine (Calls.fr F9 (HI.out _ _ _ (Sla.own (F9.blk _ (List.mem_cons_of_mem _ (List.mem_cons_self)))))).mono ?_; rintro e w10 ⟨rfl, F10⟩))
  clear F8
  clear F9
  go_wp2_with fail
  have F11 := F10.drew
  go_region_held3 (fun w' => w'.cell? ⟨w6.heap.size, 0, none⟩ = some (.int .i8 l0) ∧ w'.cell? ⟨w6.heap.size, 1, none⟩ = some (.int .i8 k0) ∧ w'.cell? ⟨w6.heap.size, 2, none⟩ = some (.slice (some ⟨g2, 0, none⟩) ws0.length ws0.length) ∧ w'.cell? ⟨w.heap.size, 0, none⟩ = some (.int .i8 l0) ∧ w'.cell? ⟨w.heap.size, 1, none⟩ = some (.int .i8 k0) ∧ w'.cell? ⟨w.heap.size, 2, none⟩ = some (.slice a0 ws0.length c0))
    (first | exact ⟨(F13.blk _ (List.mem_cons_of_mem _ (List.mem_cons_self))).cell 0, (F13.blk _ (List.mem_cons_of_mem _ (List.mem_cons_self))).cell 1, (F13.blk _ (List.mem_cons_of_mem _ (List.mem_cons_self))).cell 2, (F13.blk _ (List.mem_cons_of_mem _ (List.mem_cons_of_mem _ (List.mem_cons_of_mem _ (List.mem_cons_of_mem _ (List.mem_cons_of_mem _ (List.mem_cons_self))))))).cell 0, (F13.blk _ (List.mem_cons_of_mem _ (List.mem_cons_of_mem _ (List.mem_cons_of_mem _ (List.mem_cons_of_mem _ (List.mem_cons_of_mem _ (List.mem_cons_self))))))).cell 1, (F13.blk _ (List.mem_cons_of_mem _ (List.mem_cons_of_mem _ (List.mem_cons_of_mem _ (List.mem_cons_of_mem _ (List.mem_cons_of_mem _ (List.mem_cons_self))))))).cell 2⟩ | exact ⟨(F12.blk _ (List.mem_cons_of_mem _ (List.mem_cons_self))).cell 0, (F12.blk _ (List.mem_cons_of_mem _ (List.mem_cons_self))).cell 1, (F12.blk _ (List.mem_cons_of_mem _ (List.mem_cons_self))).cell 2, (F12.blk _ (List.mem_cons_of_mem _ (List.mem_cons_of_mem _ (List.mem_cons_of_mem _ (List.mem_cons_of_mem _ (List.mem_cons_of_mem _ (List.mem_cons_self))))))).cell 0, (F12.blk _ (List.mem_cons_of_mem _ (List.mem_cons_of_mem _ (List.mem_cons_of_mem _ (List.mem_cons_of_mem _ (List.mem_cons_of_mem _ (List.mem_cons_self))))))).cell 1, (F12.blk _ (List.mem_cons_of_mem _ (List.mem_cons_of_mem _ (List.mem_cons_of_mem _ (List.mem_cons_of_mem _ (List.mem_cons_of_mem _ (List.mem_cons_self))))))).cell 2⟩ | exact ⟨(F11.blk _ (List.mem_cons_self)).cell 0, (F11.blk _ (List.mem_cons_self)).cell 1, (F11.blk _ (List.mem_cons_self)).cell 2, (F11.blk _ (List.mem_cons_of_mem _ (List.mem_cons_of_mem _ (List.mem_cons_of_mem _ (List.mem_cons_of_mem _ (List.mem_cons_self)))))).cell 0, (F11.blk _ (List.mem_cons_of_mem _ (List.mem_cons_of_mem _ (List.mem_cons_of_mem _ (List.mem_cons_of_mem _ (List.mem_cons_self)))))).cell 1, (F11.blk _ (List.mem_cons_of_mem _ (List.mem_cons_of_mem _ (List.mem_cons_of_mem _ (List.mem_cons_of_mem _ (List.mem_cons_self)))))).cell 2⟩)
    (first
      | (go_at_call 15; with_reducible refine (toGame_fr F11 l0 k0 a0 c0 ws0 hn0 s0).mono ?_; rintro e w12 ⟨g3, rfl, F12⟩)
      | (go_at_call 10; with_reducible refine (eqGame_fr F12 (List.mem_cons_of_mem _ (List.mem_cons_of_mem _ (List.mem_cons_self))) (List.mem_cons_self) l0 k0 _ _ hn0).mono ?_; rintro e w13 ⟨rfl, F13⟩))
  clear F11
  clear F12
  have HB := Lib.hid F13.below
  clear F13
  go_wp2
  go_ret
  exact ⟨rfl, HB.out⟩
end Go.Proofs.Ytclmjbkdghgjbaa
