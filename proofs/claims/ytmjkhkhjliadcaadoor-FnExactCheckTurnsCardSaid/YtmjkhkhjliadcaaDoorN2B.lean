/-
  The walks of exact laws over glasses.
-/
import Derived.Test.YtmjkhkhjliadcaaDoorH21
import Derived.Deep.RegionHeld3
import Derived.Deep.MidRow
namespace Go.Proofs.YtmjkhkhjliadcaaDoor
open Go.RowKit
set_option linter.unusedVariables false

set_option maxRecDepth 100000 in
set_option maxHeartbeats 2000000 in
theorem walk_FnExactCheckTurns (a0 : Option Addr) (c0 : Nat) (xs0 : List Int) (x1 : Nat → Int) (a2 : Option Addr) (c2 : Nat) (xs2 : List Int) (n3 : Int) (w : World) (m0 : xs0.length ≤ 9223372036854775807) (s0 : Sl .i16 w.heap.size w a0 xs0) (g0 : I16 xs0) (v1 : W16 x1) (m2 : xs2.length ≤ 9223372036854775807) (s2 : Sl .u8 w.heap.size w a2 xs2) (g2 : ∀ j, 0 ≤ xs2.getD j 0 ∧ xs2.getD j 0 ≤ 255) (p3 : -9223372036854775808 ≤ n3 ∧ n3 ≤ 9223372036854775807) (hE0 : w.cell? ⟨0, 0, none⟩ = some errV) :
    Calls Tryd.prog 4 #[.slice a0 xs0.length c0, watV x1, .slice a2 xs2.length c2, .int .i64 n3] w fun e w' => e = .returned (.bool true) ∧ Below w.heap.size w w' := by
  have F0 := (FR.start w).box #[.int .i16 (x1 0), .int .i16 (x1 1), .int .i16 (x1 2), .int .i16 (x1 3)] 24
  have HEE := Lib.hid hE0
  have hge := errV_lt hE0
  clear hE0
  have HS0 := Lib.hid s0
  clear s0
  have HS2 := Lib.hid s2
  clear s2
  by_cases l0 : (1048576 : Int) < xs0.length
  · have HB := Lib.hid F0.below
    clear F0 HS0 g0 HS2 g2
    generalize xs0.length = len0 at *
    generalize xs2.length = len2 at *
    go_enter Tryd.func4, Tryd.ntmps4
    go_wp2
    go_ret
    exact ⟨rfl, HB.out⟩
  have hn0 : xs0.length ≤ 1048576 := by omega
  have hz0 : (xs0.length : Int) ≤ 1048576 := by omega
  clear l0
  by_cases l2 : (1048576 : Int) < xs2.length
  · have HB := Lib.hid F0.below
    clear F0 HS0 g0 HS2 g2
    generalize xs2.length = len2 at *
    go_enter Tryd.func4, Tryd.ntmps4
    go_wp2
    go_ret
    exact ⟨rfl, HB.out⟩
  have hn2 : xs2.length ≤ 1048576 := by omega
  have hz2 : (xs2.length : Int) ≤ 1048576 := by omega
  clear l2
  have HS := Lib.hid (fun (W : World) (b0 : Nat) (hs0 : Blk W b0 (rcells .i16 xs0) 23) (b2 : Nat) (hs2 : Blk W b2 (rcells .u8 xs2) 5) => specCheckTurns_any b0 0 xs0.length b2 0 xs2.length xs0 x1 xs2 n3 W hn0 hn2 hs0.lt hs0.ints hs2.lt hs2.ints g2 p3)
  have HI := Lib.hid (fun (W : World) (b0 : Nat) (hs0 : Blk W b0 (rcells .i16 xs0) 23) (b2 : Nat) (hs2 : Blk W b2 (rcells .u8 xs2) 5) (hE : W.cell? ⟨0, 0, none⟩ = some errV) => checkTurns_any b0 0 xs0.length b2 0 xs2.length xs0 x1 xs2 n3 W hn0 hn2 hs0.lt hs0.ints g0 hs2.lt hs2.ints g2 p3 hE)
  generalize ckB xs0 x1 xs2 n3 = r at *
  generalize askC xs0 x1 n3 = co at *
  go_enter Tryd.func4, Tryd.ntmps4
  go_wp2_with fail
  have F1 := F0.drew
  go_region_held3 (fun w' => w'.cell? ⟨w.heap.size, 0, none⟩ = some (.int .i16 (x1 0)) ∧ w'.cell? ⟨w.heap.size, 1, none⟩ = some (.int .i16 (x1 1)) ∧ w'.cell? ⟨w.heap.size, 2, none⟩ = some (.int .i16 (x1 2)) ∧ w'.cell? ⟨w.heap.size, 3, none⟩ = some (.int .i16 (x1 3)))
    (first | exact ⟨(F5.blk _ (List.mem_cons_of_mem _ (List.mem_cons_of_mem _ (List.mem_cons_self)))).cell 0, (F5.blk _ (List.mem_cons_of_mem _ (List.mem_cons_of_mem _ (List.mem_cons_self)))).cell 1, (F5.blk _ (List.mem_cons_of_mem _ (List.mem_cons_of_mem _ (List.mem_cons_self)))).cell 2, (F5.blk _ (List.mem_cons_of_mem _ (List.mem_cons_of_mem _ (List.mem_cons_self)))).cell 3⟩ | exact ⟨(F4.blk _ (List.mem_cons_of_mem _ (List.mem_cons_of_mem _ (List.mem_cons_self)))).cell 0, (F4.blk _ (List.mem_cons_of_mem _ (List.mem_cons_of_mem _ (List.mem_cons_self)))).cell 1, (F4.blk _ (List.mem_cons_of_mem _ (List.mem_cons_of_mem _ (List.mem_cons_self)))).cell 2, (F4.blk _ (List.mem_cons_of_mem _ (List.mem_cons_of_mem _ (List.mem_cons_self)))).cell 3⟩ | exact ⟨(F3.blk _ (List.mem_cons_of_mem _ (List.mem_cons_self))).cell 0, (F3.blk _ (List.mem_cons_of_mem _ (List.mem_cons_self))).cell 1, (F3.blk _ (List.mem_cons_of_mem _ (List.mem_cons_self))).cell 2, (F3.blk _ (List.mem_cons_of_mem _ (List.mem_cons_self))).cell 3⟩ | exact ⟨(F2.blk _ (List.mem_cons_of_mem _ (List.mem_cons_self))).cell 0, (F2.blk _ (List.mem_cons_of_mem _ (List.mem_cons_self))).cell 1, (F2.blk _ (List.mem_cons_of_mem _ (List.mem_cons_self))).cell 2, (F2.blk _ (List.mem_cons_of_mem _ (List.mem_cons_self))).cell 3⟩ | exact ⟨(F1.blk _ (List.mem_cons_self)).cell 0, (F1.blk _ (List.mem_cons_self)).cell 1, (F1.blk _ (List.mem_cons_self)).cell 2, (F1.blk _ (List.mem_cons_self)).cell 3⟩)
    (first
      | (go_at_call 6; with_reducible refine (toGlasses_fr F1 a0 c0 xs0 hn0 HS0.out).mono ?_; rintro e w2 ⟨g1, rfl, F2⟩)
      | (go_at_call 7; with_reducible refine (toTops_fr F2 x1).mono ?_; rintro e w3 ⟨rfl, F3⟩)
      | (go_at_call 8; with_reducible refine (toByteS_fr F3 a2 c2 xs2 hn2 HS2.out).mono ?_; rintro e w4 ⟨g2, rfl, F4⟩)
      | (go_at_call 18; with_reducible refine (Calls.fr F4 (HS.out _ _ (F4.blk _ (List.mem_cons_of_mem _ (List.mem_cons_self))) _ (F4.blk _ (List.mem_cons_self)))).mono ?_; rintro e w5 ⟨rfl, F5⟩))
  clear F1
  clear F2
  clear F3
  clear F4
  go_wp2_with fail
  refine (toGlasses_fr F5 a0 c0 xs0 hn0 HS0.out).mono ?_
  rintro e w6 ⟨g3, rfl, F6⟩
  clear F5 
  go_wp2_with fail
  refine (toByteS_fr F6 a2 c2 xs2 hn2 HS2.out).mono ?_
  rintro e w7 ⟨g4, rfl, F7⟩
  clear F6 
  obtain ⟨d1_0, d1_1, d1_2, d1_3, d1_f⟩ := (F7.blk _ (List.mem_cons_of_mem _ (List.mem_cons_of_mem _ (List.mem_cons_of_mem _ (List.mem_cons_of_mem _ (List.mem_cons_self)))))).four
  go_wp2_with fail
  refine (toTops_fr F7 x1).mono ?_
  rintro e w8 ⟨rfl, F8⟩
  clear F7 d1_0 d1_1 d1_2 d1_3 d1_f
  go_wp2_with fail
  refine (Calls.fr F8 (HI.out _ _ (F8.blk _ (List.mem_cons_of_mem _ (List.mem_cons_self))) _ (F8.blk _ (List.mem_cons_self)) (errV_below HEE.out F8.below hge))).mono ?_
  rintro e w9 ⟨rfl, F9⟩
  clear F8 
  go_wp2_with fail
  refine (toGlasses_fr F9 a0 c0 xs0 hn0 HS0.out).mono ?_
  rintro e w10 ⟨g5, rfl, F10⟩
  clear F9 
  go_wp2_with fail
  refine (eqGlasses_fr F10 (List.mem_cons_of_mem _ (List.mem_cons_of_mem _ (List.mem_cons_self))) (List.mem_cons_self) _ _ hn0).mono ?_
  rintro e w11 ⟨rfl, F11⟩
  clear F10 
  go_wp2_with fail
  refine (toByteS_fr F11 a2 c2 xs2 hn2 HS2.out).mono ?_
  rintro e w12 ⟨g6, rfl, F12⟩
  clear F11 
  go_wp2_with fail
  refine (eqByteS_fr F12 (List.mem_cons_of_mem _ (List.mem_cons_of_mem _ (List.mem_cons_self))) (List.mem_cons_self) _ _ hn2).mono ?_
  rintro e w13 ⟨rfl, F13⟩
  clear F12 
  have HB := Lib.hid F13.below
  clear F13
  go_wp2
  go_ret
  exact ⟨rfl, HB.out⟩
end Go.Proofs.YtmjkhkhjliadcaaDoor
