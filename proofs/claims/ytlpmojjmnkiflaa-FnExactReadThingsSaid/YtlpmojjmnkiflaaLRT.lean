/-
  The walk of the law of ReadThings.
-/
import Derived.Test.YtlpmojjmnkiflaaTB6
namespace Go.Proofs.Ytlpmojjmnkiflaa
open Go.RowKit
set_option linter.unusedVariables false

set_option maxRecDepth 100000 in
theorem walk_FnExactReadThings (N0 : ByteArray) (w : World) (g0 : N0.size ≤ maxLen) :
    Calls Try.prog 7 #[.string N0] w fun e w' => e = .returned (.bool true) ∧ Below w.heap.size w w' := by
  unfold maxLen at g0
  by_cases h : (1048576 : Int) < N0.size
  · go_enter Try.func7, Try.ntmps7
    go_wp2
    go_ret
    exact ⟨rfl, Below.refl _ _⟩
  have HS := Lib.hid (fun W => specReadThings_any N0 W (by omega))
  have HI := Lib.hid (fun W => readThings_any N0 W (by omega))
  generalize rvV N0 = T at *
  generalize rvC N0 = C at *
  go_enter Try.func7, Try.ntmps7
  go_wp2_with fail
  refine (HS.out _).mono ?_
  rintro e w2 ⟨rfl, hb⟩
  have HB := Lib.hid hb
  clear hb
  go_wp2_with fail
  refine (HI.out _).mono ?_
  rintro e w3 ⟨rfl, hb⟩
  have HB2 := Lib.hid (HB.out.trans (hb.mono HB.out.size))
  clear hb
  go_wp2
  go_ret
  exact ⟨rfl, HB2.out⟩
end Go.Proofs.Ytlpmojjmnkiflaa
