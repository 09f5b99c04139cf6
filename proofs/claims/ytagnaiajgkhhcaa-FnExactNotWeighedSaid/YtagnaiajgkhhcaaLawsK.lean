/-
  The walks of the exact laws of functions whose answers are slices.
-/
import Derived.Test.YtagnaiajgkhhcaaSlaw
import Derived.Test.YtagnaiajgkhhcaaMiss
namespace Go.Proofs.Ytagnaiajgkhhcaa
open Go.RowKit

set_option maxRecDepth 100000 in
theorem walk_FnExactNotWeighed_full (a0 : Option Addr) (c0 : Nat) (xs0 : List Int) (q1 : Bool) (w : World) (s0 : Sl .i16 w.heap.size w a0 xs0) (f0 : I16 xs0) (hx : ¬ nwV xs0 q1 = []) :
    Calls Try.prog 6 #[.slice a0 xs0.length c0, .bool q1] w fun e w' => e = .returned (.bool true) ∧ Below w.heap.size w w' := by
  by_cases l0 : 1048576 < xs0.length
  · have d0 : decide ((1048576 : Int) < (xs0.length : Int)) = true := by simp; omega
    have e0 : (1048576 : Int) < (xs0.length : Int) := by omega
    go_enter Try.func6, Try.ntmps6
    go_wp2
    go_ret
    exact ⟨rfl, Below.refl _ _⟩
  have hn0 : xs0.length ≤ 1048576 := by omega
  have d0 : decide ((1048576 : Int) < (xs0.length : Int)) = false := by simp; omega
  clear l0
  have hB0 := Below.refl w.heap.size w
  have HX := Lib.hid hx
  clear hx
  have hm : (nwV xs0 q1).length ≤ 1048576 := nwV_len xs0 q1
  go_enter Try.func6, Try.ntmps6
  go_wp2_with fail
  refine (toWeights_any w.heap.size _ _ xs0 _ hn0 hB0.size (s0.below hB0)).mono ?_
  rintro e w1 ⟨rfl, t1, b1⟩
  have hB1 := hB0.trans (b1.mono hB0.size)
  have r0 := t1
  clear t1 b1
  go_wp2_with fail
  refine (Calls.fullOf (specNotWeighed_any _ 0 _ xs0 q1 _ hn0 r0.lt r0.at f0) HX.out).mono ?_
  rintro e w2 ⟨p0, ccp0, rfl, ⟨op0, ltp0, atp0, fzp0⟩, b2⟩
  replace r0 := r0.below b2 r0.lt
  have hB2 := hB1.trans (b2.mono hB1.size)
  clear b2
  clear r0
  have nz : p0 < w2.heap.size := ltp0
  go_wp2_with fail
  refine (toWeights_any w.heap.size _ _ xs0 _ hn0 hB2.size (s0.below hB2)).mono ?_
  rintro e w3 ⟨rfl, t3, b3⟩
  replace atp0 := atp0.below b3 ltp0
  replace fzp0 := frozen_below fzp0 b3 ltp0
  replace ltp0 := Nat.lt_of_lt_of_le ltp0 b3.size
  have hB3 := hB2.trans (b3.mono hB2.size)
  have x0 := t3
  have qx0 : w.heap.size ≤ w2.heap.size := hB2.size
  clear t3 b3
  have no : p0 < w3.heap.size := ltp0
  have nx0 := x0.lt
  go_wp2_with fail
  refine (Calls.fullOf (notWeighed_any _ 0 _ xs0 q1 _ hn0 x0.lt x0.at f0) HX.out).mono ?_
  rintro e w4 ⟨p1, ccp1, rfl, ⟨op1, ltp1, atp1, fzp1⟩, b4⟩
  replace x0 := x0.below b4 x0.lt
  replace atp0 := atp0.below b4 ltp0
  replace fzp0 := frozen_below fzp0 b4 ltp0
  replace ltp0 := Nat.lt_of_lt_of_le ltp0 b4.size
  have hB4 := hB3.trans (b4.mono hB3.size)
  clear b4
  have ne10 : p0 ≠ p1 := by omega
  go_wp2_with fail
  refine (eqInt64S_same p1 0 _ p0 0 _ _ _ hm atp1 atp0).mono ?_
  rintro e w5 ⟨rfl, b5⟩
  replace b5 := b5.below
  replace x0 := x0.below b5 x0.lt
  replace atp0 := atp0.below b5 ltp0
  replace atp1 := atp1.below b5 ltp1
  replace fzp0 := frozen_below fzp0 b5 ltp0
  replace fzp1 := frozen_below fzp1 b5 ltp1
  replace ltp0 := Nat.lt_of_lt_of_le ltp0 b5.size
  replace ltp1 := Nat.lt_of_lt_of_le ltp1 b5.size
  have hB5 := hB4.trans (b5.mono hB4.size)
  clear b5
  go_wp2_with fail
  refine (toWeights_any w.heap.size _ _ xs0 _ hn0 hB5.size (s0.below hB5)).mono ?_
  rintro e w6 ⟨rfl, t6, b6⟩
  replace x0 := x0.below b6 x0.lt
  replace atp0 := atp0.below b6 ltp0
  replace atp1 := atp1.below b6 ltp1
  replace fzp0 := frozen_below fzp0 b6 ltp0
  replace fzp1 := frozen_below fzp1 b6 ltp1
  replace ltp0 := Nat.lt_of_lt_of_le ltp0 b6.size
  replace ltp1 := Nat.lt_of_lt_of_le ltp1 b6.size
  have hB6 := hB5.trans (b6.mono hB5.size)
  have y0 := t6
  have qy0 : w.heap.size ≤ w5.heap.size := hB5.size
  clear t6 b6
  go_wp2_with fail
  refine (eqWeights_same _ 0 _ _ 0 _ xs0 _ hn0 x0.at y0.at).mono ?_
  rintro e w7 ⟨rfl, b7⟩
  replace b7 := b7.below
  replace x0 := x0.below b7 x0.lt
  replace y0 := y0.below b7 y0.lt
  replace atp0 := atp0.below b7 ltp0
  replace atp1 := atp1.below b7 ltp1
  replace fzp0 := frozen_below fzp0 b7 ltp0
  replace fzp1 := frozen_below fzp1 b7 ltp1
  replace ltp0 := Nat.lt_of_lt_of_le ltp0 b7.size
  replace ltp1 := Nat.lt_of_lt_of_le ltp1 b7.size
  have hB7 := hB6.trans (b7.mono hB6.size)
  clear b7
  clear y0
  go_wp2_with fail
  refine (markWeights_own _ _ xs0 _ hn0 x0.at (fun j => World.rowIs.frozen x0 j)).mono ?_
  rintro e w8 ⟨rfl, mk0, o8⟩
  replace atp0 := o8.at atp0 (by omega)
  replace atp1 := o8.at atp1 (by omega)
  replace fzp1 : ∀ j, w8.frozen? ⟨p1, j, none⟩ = false := fun j => by rw [World.frozen?_of_block (w := w7) (a := ⟨p1, j, none⟩) (o8.block p1 (by omega))]; exact fzp1 j
  replace fzp0 : ∀ j, w8.frozen? ⟨p0, j, none⟩ = false := fun j => by rw [World.frozen?_of_block (w := w7) (a := ⟨p0, j, none⟩) (o8.block p0 (by omega))]; exact fzp0 j
  replace ltp0 := Nat.lt_of_lt_of_le ltp0 (Nat.le_of_eq o8.size.symm)
  replace ltp1 := Nat.lt_of_lt_of_le ltp1 (Nat.le_of_eq o8.size.symm)
  have hB8 := o8.below hB7 (by have := hB7.size; omega)
  clear o8 mk0 x0
  go_wp2_with fail
  refine (eqInt64S_same p1 0 _ p0 0 _ _ _ hm atp1 atp0).mono ?_
  rintro e w9 ⟨rfl, b9⟩
  replace b9 := b9.below
  replace atp0 := atp0.below b9 ltp0
  replace atp1 := atp1.below b9 ltp1
  replace fzp0 := frozen_below fzp0 b9 ltp0
  replace fzp1 := frozen_below fzp1 b9 ltp1
  replace ltp0 := Nat.lt_of_lt_of_le ltp0 b9.size
  replace ltp1 := Nat.lt_of_lt_of_le ltp1 b9.size
  have hB9 := hB8.trans (b9.mono hB8.size)
  clear b9
  go_wp2_with fail
  refine (markInt64S_own p1 _ _ _ hm atp1 fzp1).mono ?_
  rintro e w10 ⟨rfl, mk1, o10⟩
  replace atp0 := o10.at atp0 ne10
  clear atp1 fzp1 fzp0
  replace ltp0 := Nat.lt_of_lt_of_le ltp0 (Nat.le_of_eq o10.size.symm)
  replace ltp1 := Nat.lt_of_lt_of_le ltp1 (Nat.le_of_eq o10.size.symm)
  have hB10 := o10.below hB9 (by have := hB3.size; omega)
  clear o10
  go_wp2_with fail
  refine (heldInt64S_own p1 _ _ _ hm mk1).mono ?_
  rintro e w' ⟨rfl, rfl⟩
  go_wp2_with fail
  refine (toWeights_any w.heap.size _ _ xs0 _ hn0 hB10.size (s0.below hB10)).mono ?_
  rintro e w11 ⟨rfl, t11, b11⟩
  replace atp0 := atp0.below b11 ltp0
  replace mk1 := mk1.below b11 ltp1
  replace ltp0 := Nat.lt_of_lt_of_le ltp0 b11.size
  replace ltp1 := Nat.lt_of_lt_of_le ltp1 b11.size
  have hB11 := hB10.trans (b11.mono hB10.size)
  have z0 := t11
  have qz0 : w.heap.size ≤ w10.heap.size := hB10.size
  clear t11 b11
  go_wp2_with fail
  refine (Calls.fullOf (notWeighed_any _ 0 _ xs0 q1 _ hn0 z0.lt z0.at f0) HX.out).mono ?_
  rintro e w12 ⟨p2, ccp2, rfl, ⟨op2, ltp2, atp2, fzp2⟩, b12⟩
  replace z0 := z0.below b12 z0.lt
  replace atp0 := atp0.below b12 ltp0
  replace mk1 := mk1.below b12 ltp1
  replace ltp0 := Nat.lt_of_lt_of_le ltp0 b12.size
  replace ltp1 := Nat.lt_of_lt_of_le ltp1 b12.size
  have hB12 := hB11.trans (b12.mono hB11.size)
  clear b12
  clear z0
  go_wp2_with fail
  refine (eqInt64S_same p2 0 _ p0 0 _ _ _ hm atp2 atp0).mono ?_
  rintro e w13 ⟨rfl, b13⟩
  replace b13 := b13.below
  replace atp0 := atp0.below b13 ltp0
  replace atp2 := atp2.below b13 ltp2
  replace fzp2 := frozen_below fzp2 b13 ltp2
  replace mk1 := mk1.below b13 ltp1
  replace ltp0 := Nat.lt_of_lt_of_le ltp0 b13.size
  replace ltp1 := Nat.lt_of_lt_of_le ltp1 b13.size
  replace ltp2 := Nat.lt_of_lt_of_le ltp2 b13.size
  have hB13 := hB12.trans (b13.mono hB12.size)
  clear b13
  go_wp2_with fail
  refine (heldInt64S_own p1 _ _ _ hm mk1).mono ?_
  rintro e w' ⟨rfl, rfl⟩
  go_wp2
  go_ret
  exact ⟨rfl, hB13⟩
set_option maxRecDepth 100000 in
theorem walk_FnExactNotWeighed_empty (a0 : Option Addr) (c0 : Nat) (xs0 : List Int) (q1 : Bool) (w : World) (s0 : Sl .i16 w.heap.size w a0 xs0) (f0 : I16 xs0) (hx : nwV xs0 q1 = []) :
    Calls Try.prog 6 #[.slice a0 xs0.length c0, .bool q1] w fun e w' => e = .returned (.bool true) ∧ Below w.heap.size w w' := by
  by_cases l0 : 1048576 < xs0.length
  · have d0 : decide ((1048576 : Int) < (xs0.length : Int)) = true := by simp; omega
    have e0 : (1048576 : Int) < (xs0.length : Int) := by omega
    go_enter Try.func6, Try.ntmps6
    go_wp2
    go_ret
    exact ⟨rfl, Below.refl _ _⟩
  have hn0 : xs0.length ≤ 1048576 := by omega
  have d0 : decide ((1048576 : Int) < (xs0.length : Int)) = false := by simp; omega
  clear l0
  have hB0 := Below.refl w.heap.size w
  have HX := Lib.hid hx
  clear hx
  go_enter Try.func6, Try.ntmps6
  go_wp2_with fail
  refine (toWeights_any w.heap.size _ _ xs0 _ hn0 hB0.size (s0.below hB0)).mono ?_
  rintro e w1 ⟨rfl, t1, b1⟩
  have hB1 := hB0.trans (b1.mono hB0.size)
  have r0 := t1
  clear t1 b1
  go_wp2_with fail
  refine (Calls.emptyOf (specNotWeighed_any _ 0 _ xs0 q1 _ hn0 r0.lt r0.at f0) HX.out).mono ?_
  rintro e w2 ⟨p0, ccp0, rfl, b2⟩
  replace r0 := r0.below b2 r0.lt
  have hB2 := hB1.trans (b2.mono hB1.size)
  clear b2
  clear r0
  go_wp2_with fail
  refine (toWeights_any w.heap.size _ _ xs0 _ hn0 hB2.size (s0.below hB2)).mono ?_
  rintro e w3 ⟨rfl, t3, b3⟩
  have hB3 := hB2.trans (b3.mono hB2.size)
  have x0 := t3
  have qx0 : w.heap.size ≤ w2.heap.size := hB2.size
  clear t3 b3
  go_wp2_with fail
  refine (Calls.emptyOf (notWeighed_any _ 0 _ xs0 q1 _ hn0 x0.lt x0.at f0) HX.out).mono ?_
  rintro e w4 ⟨p1, ccp1, rfl, b4⟩
  replace x0 := x0.below b4 x0.lt
  have hB4 := hB3.trans (b4.mono hB3.size)
  clear b4
  go_wp2_with fail
  refine (eqInt64S_empty p1 p0 _ _ _).mono ?_
  rintro e w5 ⟨rfl, b5⟩
  replace b5 := b5.below
  replace x0 := x0.below b5 x0.lt
  have hB5 := hB4.trans (b5.mono hB4.size)
  clear b5
  go_wp2_with fail
  refine (toWeights_any w.heap.size _ _ xs0 _ hn0 hB5.size (s0.below hB5)).mono ?_
  rintro e w6 ⟨rfl, t6, b6⟩
  replace x0 := x0.below b6 x0.lt
  have hB6 := hB5.trans (b6.mono hB5.size)
  have y0 := t6
  have qy0 : w.heap.size ≤ w5.heap.size := hB5.size
  clear t6 b6
  go_wp2_with fail
  refine (eqWeights_same _ 0 _ _ 0 _ xs0 _ hn0 x0.at y0.at).mono ?_
  rintro e w7 ⟨rfl, b7⟩
  replace b7 := b7.below
  replace x0 := x0.below b7 x0.lt
  replace y0 := y0.below b7 y0.lt
  have hB7 := hB6.trans (b7.mono hB6.size)
  clear b7
  clear y0
  go_wp2_with fail
  refine (markWeights_own _ _ xs0 _ hn0 x0.at (fun j => World.rowIs.frozen x0 j)).mono ?_
  rintro e w8 ⟨rfl, mk0, o8⟩
  have hB8 := o8.below hB7 (by have := hB7.size; omega)
  clear o8 mk0 x0
  go_wp2_with fail
  refine (eqInt64S_empty p1 p0 _ _ _).mono ?_
  rintro e w9 ⟨rfl, b9⟩
  replace b9 := b9.below
  have hB9 := hB8.trans (b9.mono hB8.size)
  clear b9
  go_wp2_with fail
  refine (markInt64S_nil p1 _ _).mono ?_
  rintro e w' ⟨rfl, rfl⟩
  go_wp2_with fail
  refine (heldInt64S_nil p1 _ _).mono ?_
  rintro e w' ⟨rfl, rfl⟩
  go_wp2_with fail
  refine (toWeights_any w.heap.size _ _ xs0 _ hn0 hB9.size (s0.below hB9)).mono ?_
  rintro e w10 ⟨rfl, t10, b10⟩
  have hB10 := hB9.trans (b10.mono hB9.size)
  have z0 := t10
  have qz0 : w.heap.size ≤ w9.heap.size := hB9.size
  clear t10 b10
  go_wp2_with fail
  refine (Calls.emptyOf (notWeighed_any _ 0 _ xs0 q1 _ hn0 z0.lt z0.at f0) HX.out).mono ?_
  rintro e w11 ⟨p2, ccp2, rfl, b11⟩
  replace z0 := z0.below b11 z0.lt
  have hB11 := hB10.trans (b11.mono hB10.size)
  clear b11
  clear z0
  go_wp2_with fail
  refine (eqInt64S_empty p2 p0 _ _ _).mono ?_
  rintro e w12 ⟨rfl, b12⟩
  replace b12 := b12.below
  have hB12 := hB11.trans (b12.mono hB11.size)
  clear b12
  go_wp2_with fail
  refine (heldInt64S_nil p1 _ _).mono ?_
  rintro e w' ⟨rfl, rfl⟩
  go_wp2
  go_ret
  exact ⟨rfl, hB12⟩
theorem walk_FnExactNotWeighed (a0 : Option Addr) (c0 : Nat) (xs0 : List Int) (q1 : Bool) (w : World) (s0 : Sl .i16 w.heap.size w a0 xs0) (f0 : I16 xs0) :
    Calls Try.prog 6 #[.slice a0 xs0.length c0, .bool q1] w fun e w' => e = .returned (.bool true) ∧ Below w.heap.size w w' := by
  by_cases hx : nwV xs0 q1 = []
  · exact walk_FnExactNotWeighed_empty a0 c0 xs0 q1 w s0 f0 hx
  · exact walk_FnExactNotWeighed_full a0 c0 xs0 q1 w s0 f0 hx
end Go.Proofs.Ytagnaiajgkhhcaa
