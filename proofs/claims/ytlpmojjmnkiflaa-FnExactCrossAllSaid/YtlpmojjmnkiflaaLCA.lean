/-
  The walk of the law of CrossAll.
-/
import Derived.Test.YtlpmojjmnkiflaaY19
import Derived.Test.YtlpmojjmnkiflaaFWy
namespace Go.Proofs.Ytlpmojjmnkiflaa
open Go.RowKit
set_option linter.unusedVariables false

theorem toUint16S_fr {w0 W : World} {L : List (Nat × Array Value × TypeId)} (h : FR w0 L W) (a : Option Addr) (c : Nat) (ws : List Int) (hn : ws.length ≤ 1048576) (hs : Sl .u16 w0.heap.size w0 a ws) :
    Calls Try.prog 23 #[.slice a ws.length c] W fun e w' => ∃ g, e = .returned (.slice (some ⟨g, 0, none⟩) ws.length ws.length) ∧ FR w0 ((g, ucells ws, 26) :: L) w' := by
  refine (toUint16S_any w0.heap.size a c ws W hn h.size (hs.below h.below)).mono ?_
  rintro e w' ⟨g, rfl, hg, hk, hb⟩
  exact ⟨g, rfl, h.add hb hg hk⟩
theorem eqUint16S_fr {w0 W : World} {L : List (Nat × Array Value × TypeId)} {g g2 : Nat} {ws : List Int} (h : FR w0 L W) (h1 : (g, ucells ws, 26) ∈ L) (h2 : (g2, ucells ws, 26) ∈ L) (c c2 : Nat) (hn : ws.length ≤ 1048576) :
    Calls Try.prog 18 #[.slice (some ⟨g, 0, none⟩) ws.length c, .slice (some ⟨g2, 0, none⟩) ws.length c2] W fun e w' => e = .returned (.bool true) ∧ FR w0 L w' :=
  Calls.fr h (eqUint16S_any _ _ c c2 ws W hn (.inr ⟨g, 0, g2, 0, rfl, rfl, (h.blk _ h1).lt, (h.blk _ h2).lt, (h.blk _ h1).u16, (h.blk _ h2).u16⟩))
theorem eqBank_fr {w0 W : World} {L : List (Nat × Array Value × TypeId)} (h : FR w0 L W) (n : Int) (f : Bool) :
    Calls Try.prog 14 #[bankV n f, bankV n f] W fun e w' => e = .returned (.bool true) ∧ FR w0 L w' := Calls.fr h (eqBank_same n f W)
set_option maxRecDepth 100000 in
set_option maxHeartbeats 4000000 in
theorem walk_FnExactCrossAll (l0 k0 : Int) (a0 : Option Addr) (c0 : Nat) (ws0 : List Int) (a1 : Option Addr) (c1 : Nat) (us1 : List Int) (w : World) (p0 : B8 l0) (q0 : B8 k0) (m0 : ws0.length ≤ 9223372036854775807) (s0 : Sl .u16 w.heap.size w a0 ws0) (r0 : U16 ws0) (m1 : us1.length ≤ 9223372036854775807) (s1 : Sl .u16 w.heap.size w a1 us1) (g1 : U16 us1) :
    Calls Try.prog 5 #[ferV l0 k0 a0 ws0.length c0, .slice a1 us1.length c1] w fun e w' => e = .returned (.bool true) ∧ Below w.heap.size w w' := by
  have F0 := (FR.start w).box #[.int .i8 l0, .int .i8 k0, .slice a0 ws0.length c0] 25
  by_cases z1 : (1048576 : Int) < us1.length
  · have HB := Lib.hid F0.below
    clear F0 s0 s1 r0 g1
    generalize ws0.length = m at *
    generalize us1.length = q at *
    go_enter Try.func5, Try.ntmps5
    go_wp2
    go_ret
    exact ⟨rfl, HB.out⟩
  have hn1 : us1.length ≤ 1048576 := by omega
  have hz1 : (us1.length : Int) ≤ 1048576 := by omega
  clear z1
  by_cases z0 : (1048576 : Int) < ws0.length
  · have HZ := szFerry_any l0 k0 a0 ws0.length c0 1048576
    simp only [if_pos z0] at HZ
    obtain ⟨d_0, d_1, d_2, -⟩ := (F0.blk _ (List.mem_cons_self)).three
    go_enter Try.func5, Try.ntmps5
    go_wp2_with fail
    refine (Calls.fr F0 (HZ _ (by omega) m0)).mono ?_
    rintro e w1 ⟨rfl, F1⟩
    clear d_0 d_1 d_2 HZ F0
    have HB := Lib.hid F1.below
    clear F1
    go_wp2
    go_ret
    exact ⟨rfl, HB.out⟩
  have hn0 : ws0.length ≤ 1048576 := by omega
  have hz0 : 0 ≤ 1048576 - (ws0.length : Int) ∧ 1048576 - (ws0.length : Int) ≤ 1048576 := by omega
  have HZ0 := Lib.hid (fun W => szFerry_any l0 k0 a0 ws0.length c0 1048576 W (by omega) m0)
  simp only [if_neg z0] at HZ0
  clear z0
  obtain ⟨left, hleft⟩ : ∃ left, 1048576 - (ws0.length : Int) = left := ⟨_, rfl⟩
  rw [hleft] at hz0 HZ0
  clear hleft
  have HS := Lib.hid (fun (W : World) (a0' : Option Addr) (c0' : Nat) (hs0 : Sl .u16 W.heap.size W a0' ws0) (a1' : Option Addr) (c1' : Nat) (hs1 : Sl .u16 W.heap.size W a1' us1) => specCrossAll_any l0 k0 a0' c0' ws0 a1' c1' us1 W hs0 p0 q0 hn0 r0 hs1 hn1 g1)
  have HI := Lib.hid (fun (W : World) (a0' : Option Addr) (c0' : Nat) (hs0 : Sl .u16 W.heap.size W a0' ws0) (a1' : Option Addr) (c1' : Nat) (hs1 : Sl .u16 W.heap.size W a1' us1) => crossAllI_any l0 k0 a0' c0' ws0 a1' c1' us1 W hs0 p0 q0 hn0 r0 hs1 hn1 g1)
  generalize caT l0 k0 ws0 us1 = T at *
  obtain ⟨T1, T2, T3⟩ := T
  dsimp only at HS HI
  have HS1 := Lib.hid s1
  clear s1
  go_enter Try.func5, Try.ntmps5
  obtain ⟨d1_0, d1_1, d1_2, d1_f⟩ := (F0.blk _ (List.mem_cons_self)).three
  go_wp2_with fail
  refine (Calls.fr F0 (HZ0.out _)).mono ?_
  rintro e w1 ⟨rfl, F1⟩
  clear F0 d1_0 d1_1 d1_2 d1_f
  clear HZ0
  obtain ⟨d2_0, d2_1, d2_2, d2_f⟩ := (F1.blk _ (List.mem_cons_self)).three
  go_wp2_with fail
  refine (toFerry_fr F1 l0 k0 a0 c0 ws0 hn0 s0).mono ?_
  rintro e w2 ⟨g2, rfl, F2⟩
  clear F1 d2_0 d2_1 d2_2 d2_f
  go_wp2_with fail
  refine (toUint16S_fr F2 a1 c1 us1 hn1 HS1.out).mono ?_
  rintro e w3 ⟨g3, rfl, F3⟩
  clear F2 
  go_wp2_with fail
  refine (Calls.fr F3 (HS.out _ _ _ (Sl.own (F3.blk _ (List.mem_cons_of_mem _ (List.mem_cons_self)))) _ _ (Sl.own (F3.blk _ (List.mem_cons_self))))).mono ?_
  rintro e w4 ⟨rfl, F4⟩
  clear F3 
  have F5 := F4.box #[.int .u16 T1, .bool T2] 30
  clear F4
  obtain ⟨d3_0, d3_1, d3_2, d3_f⟩ := (F5.blk _ (List.mem_cons_of_mem _ (List.mem_cons_of_mem _ (List.mem_cons_of_mem _ (List.mem_cons_self))))).three
  go_wp2_with fail
  refine (toFerry_fr F5 l0 k0 a0 c0 ws0 hn0 s0).mono ?_
  rintro e w6 ⟨g4, rfl, F6⟩
  clear F5 d3_0 d3_1 d3_2 d3_f
  have F7 := F6.box #[.int .i8 l0, .int .i8 k0, .slice (some ⟨g4, 0, none⟩) ws0.length ws0.length] 33
  clear F6
  go_wp2_with fail
  refine (toUint16S_fr F7 a1 c1 us1 hn1 HS1.out).mono ?_
  rintro e w8 ⟨g5, rfl, F8⟩
  clear F7 
  obtain ⟨d4_0, d4_1, d4_2, d4_f⟩ := (F8.blk _ (List.mem_cons_of_mem _ (List.mem_cons_self))).three
  go_wp2_with fail
  refine (Calls.fr F8 (HI.out _ _ _ (Sl.own (F8.blk _ (List.mem_cons_of_mem _ (List.mem_cons_of_mem _ (List.mem_cons_self))))) _ _ (Sl.own (F8.blk _ (List.mem_cons_self))))).mono ?_
  rintro e w9 ⟨rfl, F9⟩
  clear F8 d4_0 d4_1 d4_2 d4_f
  have F10 := F9.box #[.int .u16 T1, .bool T2] 30
  clear F9
  obtain ⟨d5_0, d5_1, d5_f⟩ := (F10.blk _ (List.mem_cons_self)).two
  obtain ⟨d6_0, d6_1, d6_f⟩ := (F10.blk _ (List.mem_cons_of_mem _ (List.mem_cons_of_mem _ (List.mem_cons_of_mem _ (List.mem_cons_of_mem _ (List.mem_cons_self)))))).two
  go_wp2_with fail
  refine (eqBank_fr F10 T1 T2).mono ?_
  rintro e w11 ⟨rfl, F11⟩
  clear F10 d5_0 d5_1 d5_f d6_0 d6_1 d6_f
  go_wp2_with fail
  have F12 := F11.drew
  go_region_held3 (fun w' => w'.cell? ⟨w6.heap.size, 0, none⟩ = some (.int .i8 l0) ∧ w'.cell? ⟨w6.heap.size, 1, none⟩ = some (.int .i8 k0) ∧ w'.cell? ⟨w6.heap.size, 2, none⟩ = some (.slice (some ⟨g4, 0, none⟩) ws0.length ws0.length) ∧ w'.cell? ⟨w.heap.size, 0, none⟩ = some (.int .i8 l0) ∧ w'.cell? ⟨w.heap.size, 1, none⟩ = some (.int .i8 k0) ∧ w'.cell? ⟨w.heap.size, 2, none⟩ = some (.slice a0 ws0.length c0))
    (first | exact ⟨(F14.blk _ (List.mem_cons_of_mem _ (List.mem_cons_of_mem _ (List.mem_cons_of_mem _ (List.mem_cons_self))))).cell 0, (F14.blk _ (List.mem_cons_of_mem _ (List.mem_cons_of_mem _ (List.mem_cons_of_mem _ (List.mem_cons_self))))).cell 1, (F14.blk _ (List.mem_cons_of_mem _ (List.mem_cons_of_mem _ (List.mem_cons_of_mem _ (List.mem_cons_self))))).cell 2, (F14.blk _ (List.mem_cons_of_mem _ (List.mem_cons_of_mem _ (List.mem_cons_of_mem _ (List.mem_cons_of_mem _ (List.mem_cons_of_mem _ (List.mem_cons_of_mem _ (List.mem_cons_of_mem _ (List.mem_cons_of_mem _ (List.mem_cons_self)))))))))).cell 0, (F14.blk _ (List.mem_cons_of_mem _ (List.mem_cons_of_mem _ (List.mem_cons_of_mem _ (List.mem_cons_of_mem _ (List.mem_cons_of_mem _ (List.mem_cons_of_mem _ (List.mem_cons_of_mem _ (List.mem_cons_of_mem _ (List.mem_cons_self)))))))))).cell 1, (F14.blk _ (List.mem_cons_of_mem _ (List.mem_cons_of_mem _ (List.mem_cons_of_mem _ (List.mem_cons_of_mem _ (List.mem_cons_of_mem _ (List.mem_cons_of_mem _ (List.mem_cons_of_mem _ (List.mem_cons_of_mem _ (List.mem_cons_self)))))))))).cell 2⟩ | exact ⟨(F13.blk _ (List.mem_cons_of_mem _ (List.mem_cons_of_mem _ (List.mem_cons_of_mem _ (List.mem_cons_self))))).cell 0, (F13.blk _ (List.mem_cons_of_mem _ (List.mem_cons_of_mem _ (List.mem_cons_of_mem _ (List.mem_cons_self))))).cell 1, (F13.blk _ (List.mem_cons_of_mem _ (List.mem_cons_of_mem _ (List.mem_cons_of_mem _ (List.mem_cons_self))))).cell 2, (F13.blk _ (List.mem_cons_of_mem _ (List.mem_cons_of_mem _ (List.mem_cons_of_mem _ (List.mem_cons_of_mem _ (List.mem_cons_of_mem _ (List.mem_cons_of_mem _ (List.mem_cons_of_mem _ (List.mem_cons_of_mem _ (List.mem_cons_self)))))))))).cell 0, (F13.blk _ (List.mem_cons_of_mem _ (List.mem_cons_of_mem _ (List.mem_cons_of_mem _ (List.mem_cons_of_mem _ (List.mem_cons_of_mem _ (List.mem_cons_of_mem _ (List.mem_cons_of_mem _ (List.mem_cons_of_mem _ (List.mem_cons_self)))))))))).cell 1, (F13.blk _ (List.mem_cons_of_mem _ (List.mem_cons_of_mem _ (List.mem_cons_of_mem _ (List.mem_cons_of_mem _ (List.mem_cons_of_mem _ (List.mem_cons_of_mem _ (List.mem_cons_of_mem _ (List.mem_cons_of_mem _ (List.mem_cons_self)))))))))).cell 2⟩ | exact ⟨(F12.blk _ (List.mem_cons_of_mem _ (List.mem_cons_of_mem _ (List.mem_cons_self)))).cell 0, (F12.blk _ (List.mem_cons_of_mem _ (List.mem_cons_of_mem _ (List.mem_cons_self)))).cell 1, (F12.blk _ (List.mem_cons_of_mem _ (List.mem_cons_of_mem _ (List.mem_cons_self)))).cell 2, (F12.blk _ (List.mem_cons_of_mem _ (List.mem_cons_of_mem _ (List.mem_cons_of_mem _ (List.mem_cons_of_mem _ (List.mem_cons_of_mem _ (List.mem_cons_of_mem _ (List.mem_cons_of_mem _ (List.mem_cons_self))))))))).cell 0, (F12.blk _ (List.mem_cons_of_mem _ (List.mem_cons_of_mem _ (List.mem_cons_of_mem _ (List.mem_cons_of_mem _ (List.mem_cons_of_mem _ (List.mem_cons_of_mem _ (List.mem_cons_of_mem _ (List.mem_cons_self))))))))).cell 1, (F12.blk _ (List.mem_cons_of_mem _ (List.mem_cons_of_mem _ (List.mem_cons_of_mem _ (List.mem_cons_of_mem _ (List.mem_cons_of_mem _ (List.mem_cons_of_mem _ (List.mem_cons_of_mem _ (List.mem_cons_self))))))))).cell 2⟩)
    (first
      | (go_at_call 11; with_reducible refine (toFerry_fr F12 l0 k0 a0 c0 ws0 hn0 s0).mono ?_; rintro e w13 ⟨g6, rfl, F13⟩)
      | (go_at_call 15; with_reducible refine (eqFerry_fr F13 (List.mem_cons_of_mem _ (List.mem_cons_of_mem _ (List.mem_cons_of_mem _ (List.mem_cons_of_mem _ (List.mem_cons_self))))) (List.mem_cons_self) l0 k0 _ _ hn0).mono ?_; rintro e w14 ⟨rfl, F14⟩))
  clear F12
  clear F13
  go_wp2_with fail
  refine (toUint16S_fr F14 a1 c1 us1 hn1 HS1.out).mono ?_
  rintro e w15 ⟨g7, rfl, F15⟩
  clear F14 
  go_wp2_with fail
  refine (eqUint16S_fr F15 (List.mem_cons_of_mem _ (List.mem_cons_of_mem _ (List.mem_cons_of_mem _ (List.mem_cons_self)))) (List.mem_cons_self) _ _ hn1).mono ?_
  rintro e w16 ⟨rfl, F16⟩
  clear F15 
  have HB := Lib.hid F16.below
  clear F16
  go_wp2
  go_ret
  exact ⟨rfl, HB.out⟩
end Go.Proofs.Ytlpmojjmnkiflaa
