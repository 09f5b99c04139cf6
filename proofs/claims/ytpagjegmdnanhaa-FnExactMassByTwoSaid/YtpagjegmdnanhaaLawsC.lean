/-
  The walks of the exact laws of functions whose answers are numbers or bools.
-/
import Derived.Test.YtpagjegmdnanhaaArms
namespace Go.Proofs.Ytpagjegmdnanhaa
open Go.RowKit

theorem walk_FnExactMassByTwo (n0 : Int) (n1 : Int) (w : World)   :
    Calls Try.prog 5 #[.int .i64 n0, .int .i64 n1] w fun e w' => e = .returned (.bool true) ∧ Below w.heap.size w w' := by
  have hB0 := Below.refl w.heap.size w
  go_enter Try.func5, Try.ntmps5
  go_wp2_with fail
  refine (Calls.same_below (specMassByTwo_any n0 n1 _)).mono ?_
  rintro e w1 ⟨rfl, b1⟩
  have hB1 := hB0.trans (b1.mono hB0.size)
  clear b1
  go_wp2_with fail
  refine (massByTwo_any n0 n1 _).mono ?_
  rintro e w2 ⟨rfl, b2⟩
  have hB2 := hB1.trans (b2.mono hB1.size)
  clear b2
  go_wp2
  go_ret
  exact ⟨rfl, hB2⟩

theorem walk_FnExactArmsFrom (n0 : Int) (n1 : Int) (w : World)   :
    Calls Try.prog 6 #[.int .i64 n0, .int .i64 n1] w fun e w' => e = .returned (.bool true) ∧ Below w.heap.size w w' := by
  have hB0 := Below.refl w.heap.size w
  go_enter Try.func6, Try.ntmps6
  go_wp2_with fail
  refine (specArmsFrom_any n0 n1 _).mono ?_
  rintro e w1 ⟨rfl, b1⟩
  have hB1 := hB0.trans (b1.mono hB0.size)
  clear b1
  go_wp2_with fail
  refine (armsFrom_any n0 n1 _).mono ?_
  rintro e w2 ⟨rfl, b2⟩
  have hB2 := hB1.trans (b2.mono hB1.size)
  clear b2
  go_wp2
  go_ret
  exact ⟨rfl, hB2⟩
end Go.Proofs.Ytpagjegmdnanhaa
