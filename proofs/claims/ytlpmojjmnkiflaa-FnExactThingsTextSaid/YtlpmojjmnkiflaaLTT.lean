/-
  The walk of the law of ThingsText.
-/
import Derived.Test.YtlpmojjmnkiflaaTB3
namespace Go.Proofs.Ytlpmojjmnkiflaa
open Go.RowKit
set_option linter.unusedVariables false

set_option maxRecDepth 100000 in
theorem walk_FnExactThingsText (n0 : Int) (w : World) (p0 : 0 ≤ n0 ∧ n0 ≤ 65535) :
    Calls Try.prog 6 #[.int .u16 n0] w fun e w' => e = .returned (.bool true) ∧ Below w.heap.size w w' := by
  obtain ⟨x, rfl⟩ : ∃ x : Nat, n0 = x := ⟨n0.toNat, by omega⟩
  have HS := Lib.hid (fun W => specThingsText_any x W (by omega))
  have HI := Lib.hid (fun W => thingsText_any x W (by omega))
  generalize ttV x = T at *
  go_enter Try.func6, Try.ntmps6
  go_wp2_with fail
  refine (HS.out _).mono ?_
  rintro e w2 ⟨rfl, hb⟩
  have HB := Lib.hid hb
  clear hb
  go_wp2_with fail
  refine (HI.out _).mono ?_
  rintro e w3 ⟨rfl, hb⟩
  have HB2 := Lib.hid (HB.out.trans (hb.mono HB.out.size))
  clear hb
  go_wp2
  go_ret
  exact ⟨rfl, HB2.out⟩
end Go.Proofs.Ytlpmojjmnkiflaa
