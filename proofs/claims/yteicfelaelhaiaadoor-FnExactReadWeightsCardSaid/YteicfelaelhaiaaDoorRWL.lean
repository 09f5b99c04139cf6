/-
  The walks of the exact laws of functions whose answers are slices.
-/
import Derived.Test.YteicfelaelhaiaaDoorSlaw
import Derived.Test.YteicfelaelhaiaaDoorRW4
namespace Go.Proofs.YteicfelaelhaiaaDoor
open Go.RowKit

theorem rwV_len (s : ByteArray) : (rwV s).length ≤ 1048576 := by
  by_cases h : GdW (wds s)
  · rw [(rw_t h).1]; have := h.2.2.1; omega
  · rw [(rw_f h).1]; simp
set_option maxRecDepth 100000 in
theorem walk_FnExactReadWeights_full (n0 : ByteArray) (w : World) (hv : PreR w) (hx : ¬ rwV n0 = []) :
    Calls Tryd.prog 4 #[.string n0] w fun e w' => e = .returned (.bool true) ∧ Below w.heap.size w w' := by
  by_cases l0 : 1048576 < n0.size
  · have d0 : decide ((1048576 : Int) < (n0.size : Int)) = true := by simp; omega
    have e0 : (1048576 : Int) < (n0.size : Int) := by omega
    go_enter Tryd.func4, Tryd.ntmps4
    go_wp2
    go_ret
    exact ⟨rfl, Below.refl _ _⟩
  have hn0 : n0.size ≤ 1048576 := by omega
  have d0 : decide ((1048576 : Int) < (n0.size : Int)) = false := by simp; omega
  clear l0
  have hB0 := Below.refl w.heap.size w
  have HX := Lib.hid hx
  clear hx
  have hm : (rwV n0).length ≤ 1048576 := rwV_len n0
  go_enter Tryd.func4, Tryd.ntmps4
  go_wp2_with fail
  refine (Calls.fullOf (specReadWeights_any n0 _ hn0) HX.out).mono ?_
  rintro e w1 ⟨p0, ccp0, rfl, ⟨op0, ltp0, atp0, fzp0⟩, b1⟩
  have hB1 := hB0.trans (b1.mono hB0.size)
  clear b1
  have no : p0 < w1.heap.size := ltp0
  go_wp2_with fail
  refine (Calls.fullOf (readWeights_any n0 _ hn0 (hv.below ‹Below w.heap.size w _›)) HX.out).mono ?_
  rintro e w2 ⟨p1, ccp1, rfl, ⟨op1, ltp1, atp1, fzp1⟩, b2⟩
  replace atp0 := atp0.below b2 ltp0
  replace fzp0 := frozen_below fzp0 b2 ltp0
  replace ltp0 := Nat.lt_of_lt_of_le ltp0 b2.size
  have hB2 := hB1.trans (b2.mono hB1.size)
  clear b2
  have ne10 : p0 ≠ p1 := by omega
  go_wp2_with fail
  refine (eqWeights_same p1 0 _ p0 0 _ _ _ hm atp1 atp0).mono ?_
  rintro e w3 ⟨rfl, b3⟩
  replace b3 := b3.below
  replace atp0 := atp0.below b3 ltp0
  replace atp1 := atp1.below b3 ltp1
  replace fzp0 := frozen_below fzp0 b3 ltp0
  replace fzp1 := frozen_below fzp1 b3 ltp1
  replace ltp0 := Nat.lt_of_lt_of_le ltp0 b3.size
  replace ltp1 := Nat.lt_of_lt_of_le ltp1 b3.size
  have hB3 := hB2.trans (b3.mono hB2.size)
  clear b3
  go_wp2_with fail
  refine (markWeights_own p1 _ _ _ hm atp1 fzp1).mono ?_
  rintro e w4 ⟨rfl, mk1, o4⟩
  replace atp0 := o4.at atp0 ne10
  clear atp1 fzp1 fzp0
  replace ltp0 := Nat.lt_of_lt_of_le ltp0 (Nat.le_of_eq o4.size.symm)
  replace ltp1 := Nat.lt_of_lt_of_le ltp1 (Nat.le_of_eq o4.size.symm)
  have hB4 := o4.below hB3 (by have := hB1.size; omega)
  clear o4
  go_wp2_with fail
  refine (heldWeights_own p1 _ _ _ hm mk1).mono ?_
  rintro e w' ⟨rfl, rfl⟩
  go_wp2_with fail
  refine (Calls.fullOf (readWeights_any n0 _ hn0 (hv.below ‹Below w.heap.size w _›)) HX.out).mono ?_
  rintro e w5 ⟨p2, ccp2, rfl, ⟨op2, ltp2, atp2, fzp2⟩, b5⟩
  replace atp0 := atp0.below b5 ltp0
  replace mk1 := mk1.below b5 ltp1
  replace ltp0 := Nat.lt_of_lt_of_le ltp0 b5.size
  replace ltp1 := Nat.lt_of_lt_of_le ltp1 b5.size
  have hB5 := hB4.trans (b5.mono hB4.size)
  clear b5
  go_wp2_with fail
  refine (eqWeights_same p2 0 _ p0 0 _ _ _ hm atp2 atp0).mono ?_
  rintro e w6 ⟨rfl, b6⟩
  replace b6 := b6.below
  replace atp0 := atp0.below b6 ltp0
  replace atp2 := atp2.below b6 ltp2
  replace fzp2 := frozen_below fzp2 b6 ltp2
  replace mk1 := mk1.below b6 ltp1
  replace ltp0 := Nat.lt_of_lt_of_le ltp0 b6.size
  replace ltp1 := Nat.lt_of_lt_of_le ltp1 b6.size
  replace ltp2 := Nat.lt_of_lt_of_le ltp2 b6.size
  have hB6 := hB5.trans (b6.mono hB5.size)
  clear b6
  go_wp2_with fail
  refine (heldWeights_own p1 _ _ _ hm mk1).mono ?_
  rintro e w' ⟨rfl, rfl⟩
  go_wp2
  go_ret
  exact ⟨rfl, hB6⟩
set_option maxRecDepth 100000 in
theorem walk_FnExactReadWeights_empty (n0 : ByteArray) (w : World) (hv : PreR w) (hx : rwV n0 = []) :
    Calls Tryd.prog 4 #[.string n0] w fun e w' => e = .returned (.bool true) ∧ Below w.heap.size w w' := by
  by_cases l0 : 1048576 < n0.size
  · have d0 : decide ((1048576 : Int) < (n0.size : Int)) = true := by simp; omega
    have e0 : (1048576 : Int) < (n0.size : Int) := by omega
    go_enter Tryd.func4, Tryd.ntmps4
    go_wp2
    go_ret
    exact ⟨rfl, Below.refl _ _⟩
  have hn0 : n0.size ≤ 1048576 := by omega
  have d0 : decide ((1048576 : Int) < (n0.size : Int)) = false := by simp; omega
  clear l0
  have hB0 := Below.refl w.heap.size w
  have HX := Lib.hid hx
  clear hx
  go_enter Tryd.func4, Tryd.ntmps4
  go_wp2_with fail
  refine (Calls.emptyOf (specReadWeights_any n0 _ hn0) HX.out).mono ?_
  rintro e w1 ⟨p0, ccp0, rfl, b1⟩
  have hB1 := hB0.trans (b1.mono hB0.size)
  clear b1
  go_wp2_with fail
  refine (Calls.emptyOf (readWeights_any n0 _ hn0 (hv.below ‹Below w.heap.size w _›)) HX.out).mono ?_
  rintro e w2 ⟨p1, ccp1, rfl, b2⟩
  have hB2 := hB1.trans (b2.mono hB1.size)
  clear b2
  go_wp2_with fail
  refine (eqWeights_empty p1 p0 _ _ _).mono ?_
  rintro e w3 ⟨rfl, b3⟩
  replace b3 := b3.below
  have hB3 := hB2.trans (b3.mono hB2.size)
  clear b3
  go_wp2_with fail
  refine (markWeights_nil p1 _ _).mono ?_
  rintro e w' ⟨rfl, rfl⟩
  go_wp2_with fail
  refine (heldWeights_nil p1 _ _).mono ?_
  rintro e w' ⟨rfl, rfl⟩
  go_wp2_with fail
  refine (Calls.emptyOf (readWeights_any n0 _ hn0 (hv.below ‹Below w.heap.size w _›)) HX.out).mono ?_
  rintro e w4 ⟨p2, ccp2, rfl, b4⟩
  have hB4 := hB3.trans (b4.mono hB3.size)
  clear b4
  go_wp2_with fail
  refine (eqWeights_empty p2 p0 _ _ _).mono ?_
  rintro e w5 ⟨rfl, b5⟩
  replace b5 := b5.below
  have hB5 := hB4.trans (b5.mono hB4.size)
  clear b5
  go_wp2_with fail
  refine (heldWeights_nil p1 _ _).mono ?_
  rintro e w' ⟨rfl, rfl⟩
  go_wp2
  go_ret
  exact ⟨rfl, hB5⟩
theorem walk_FnExactReadWeights (n0 : ByteArray) (w : World) (hv : PreR w) :
    Calls Tryd.prog 4 #[.string n0] w fun e w' => e = .returned (.bool true) ∧ Below w.heap.size w w' := by
  by_cases hx : rwV n0 = []
  · exact walk_FnExactReadWeights_empty n0 w hv hx
  · exact walk_FnExactReadWeights_full n0 w hv hx
end Go.Proofs.YteicfelaelhaiaaDoor
