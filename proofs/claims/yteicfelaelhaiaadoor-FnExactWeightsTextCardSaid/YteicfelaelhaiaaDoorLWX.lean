/-
  The walks of the exact laws of functions whose answers are numbers or bools.
-/
import Derived.Test.YteicfelaelhaiaaDoorWX2
import Derived.Test.YteicfelaelhaiaaDoorLaw
namespace Go.Proofs.YteicfelaelhaiaaDoor
open Go.RowKit

theorem walk_FnExactWeightsText (a0 : Option Addr) (c0 : Nat) (xs0 : List Int) (w : World) (ht : Tab w) (s0 : Sl .i16 w.heap.size w a0 xs0) (f0 : I16 xs0) :
    Calls Tryd.prog 3 #[.slice a0 xs0.length c0] w fun e w' => e = .returned (.bool true) ∧ Below w.heap.size w w' := by
  by_cases l0 : 1048576 < xs0.length
  · have d0 : decide ((1048576 : Int) < (xs0.length : Int)) = true := by simp; omega
    have e0 : (1048576 : Int) < (xs0.length : Int) := by omega
    go_enter Tryd.func3, Tryd.ntmps3
    go_wp2
    go_ret
    exact ⟨rfl, Below.refl _ _⟩
  have hn0 : xs0.length ≤ 1048576 := by omega
  have d0 : decide ((1048576 : Int) < (xs0.length : Int)) = false := by simp; omega
  clear l0
  have hB0 := Below.refl w.heap.size w
  go_enter Tryd.func3, Tryd.ntmps3
  go_wp2_with fail
  refine (toWeights_any w.heap.size _ _ xs0 _ hn0 hB0.size (s0.below hB0)).mono ?_
  rintro e w1 ⟨rfl, t1, b1⟩
  have r0 := t1
  clear t1
  have hB1 := hB0.trans (b1.mono hB0.size)
  clear b1
  go_wp2_with fail
  refine (specWeightsText_any _ 0 _ xs0 _ hn0 r0.lt r0.at f0).mono ?_
  rintro e w2 ⟨rfl, b2⟩
  replace r0 := r0.below b2 r0.lt
  have hB2 := hB1.trans (b2.mono hB1.size)
  clear b2
  clear r0
  go_wp2_with fail
  refine (toWeights_any w.heap.size _ _ xs0 _ hn0 hB2.size (s0.below hB2)).mono ?_
  rintro e w3 ⟨rfl, t3, b3⟩
  have x0 := t3
  clear t3
  have hB3 := hB2.trans (b3.mono hB2.size)
  clear b3
  go_wp2_with fail
  refine (weightsText_any _ 0 _ xs0 _ hn0 x0.lt x0.at f0 (ht.below ‹Below w.heap.size w _›)).mono ?_
  rintro e w4 ⟨rfl, b4⟩
  replace x0 := x0.below b4 x0.lt
  have hB4 := hB3.trans (b4.mono hB3.size)
  clear b4
  go_wp2_with fail
  refine (toWeights_any w.heap.size _ _ xs0 _ hn0 hB4.size (s0.below hB4)).mono ?_
  rintro e w5 ⟨rfl, t5, b5⟩
  replace x0 := x0.below b5 x0.lt
  have y0 := t5
  clear t5
  have hB5 := hB4.trans (b5.mono hB4.size)
  clear b5
  go_wp2_with fail
  refine (eqWeights_same _ 0 _ _ 0 _ xs0 _ hn0 x0.at y0.at).mono ?_
  rintro e w6 ⟨rfl, b6⟩
  replace b6 := b6.below
  replace x0 := x0.below b6 x0.lt
  replace y0 := y0.below b6 y0.lt
  have hB6 := hB5.trans (b6.mono hB5.size)
  clear b6
  clear y0
  go_wp2
  go_ret
  exact ⟨rfl, hB6⟩

end Go.Proofs.YteicfelaelhaiaaDoor
