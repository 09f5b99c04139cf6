/-
  The walks of exact laws over glasses.
-/
import Derived.Test.YtlmmfcbdhmhekaaTT2
import Derived.Deep.RegionHeld3
import Derived.Deep.MidRow
namespace Go.Proofs.Ytlmmfcbdhmhekaa
open Go.RowKit
set_option linter.unusedVariables false

set_option maxRecDepth 100000 in
set_option maxHeartbeats 2000000 in
theorem walk_FnExactTurnsText (a0 : Option Addr) (c0 : Nat) (xs0 : List Int) (w : World) (m0 : xs0.length ≤ 9223372036854775807) (s0 : Sl .u8 w.heap.size w a0 xs0) (g0 : ∀ j, 0 ≤ xs0.getD j 0 ∧ xs0.getD j 0 ≤ 255) :
    Calls Try.prog 3 #[.slice a0 xs0.length c0] w fun e w' => e = .returned (.bool true) ∧ Below w.heap.size w w' := by
  have F0 := FR.start w
  have HS0 := Lib.hid s0
  clear s0
  by_cases l0 : (1048576 : Int) < xs0.length
  · have HB := Lib.hid F0.below
    clear F0 HS0 g0
    generalize xs0.length = len0 at *
    go_enter Try.func3, Try.ntmps3
    go_wp2
    go_ret
    exact ⟨rfl, HB.out⟩
  have hn0 : xs0.length ≤ 1048576 := by omega
  have hz0 : (xs0.length : Int) ≤ 1048576 := by omega
  clear l0
  have HS := Lib.hid (fun (W : World) (b0 : Nat) (hs0 : Blk W b0 (rcells .u8 xs0) 5) => specTurnsText_any b0 0 xs0.length xs0 W hn0 hs0.lt hs0.ints g0)
  have HI := Lib.hid (fun (W : World) (b0 : Nat) (hs0 : Blk W b0 (rcells .u8 xs0) 5) => turnsText_any b0 0 xs0.length xs0 W hn0 hs0.lt hs0.ints g0)
  generalize ttP xs0 = r at *
  go_enter Try.func3, Try.ntmps3
  go_wp2_with fail
  refine (toByteS_fr F0 a0 c0 xs0 hn0 HS0.out).mono ?_
  rintro e w1 ⟨g1, rfl, F1⟩
  clear F0 
  go_wp2_with fail
  refine (Calls.fr F1 (HS.out _ _ (F1.blk _ (List.mem_cons_self)))).mono ?_
  rintro e w2 ⟨rfl, F2⟩
  clear F1 
  go_wp2_with fail
  refine (toByteS_fr F2 a0 c0 xs0 hn0 HS0.out).mono ?_
  rintro e w3 ⟨g2, rfl, F3⟩
  clear F2 
  go_wp2_with fail
  refine (Calls.fr F3 (HI.out _ _ (F3.blk _ (List.mem_cons_self)))).mono ?_
  rintro e w4 ⟨rfl, F4⟩
  clear F3 
  go_wp2_with fail
  refine (toByteS_fr F4 a0 c0 xs0 hn0 HS0.out).mono ?_
  rintro e w5 ⟨g3, rfl, F5⟩
  clear F4 
  go_wp2_with fail
  refine (eqByteS_fr F5 (List.mem_cons_of_mem _ (List.mem_cons_self)) (List.mem_cons_self) _ _ hn0).mono ?_
  rintro e w6 ⟨rfl, F6⟩
  clear F5 
  have HB := Lib.hid F6.below
  clear F6
  go_wp2
  go_ret
  exact ⟨rfl, HB.out⟩
end Go.Proofs.Ytlmmfcbdhmhekaa
