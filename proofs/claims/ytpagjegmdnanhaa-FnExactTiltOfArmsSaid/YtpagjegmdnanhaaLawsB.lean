/-
  The walks of the exact laws of functions whose answers are numbers or bools.
-/
import Derived.Test.YtpagjegmdnanhaaTilt
namespace Go.Proofs.Ytpagjegmdnanhaa
open Go.RowKit

theorem walk_FnExactTilt (a0 : Option Addr) (c0 : Nat) (xs0 : List Int) (a1 : Option Addr) (c1 : Nat) (xs1 : List Int) (n2 : Int) (w : World) (s0 : Sl .i16 w.heap.size w a0 xs0) (f0 : I16 xs0) (s1 : Sl .i8 w.heap.size w a1 xs1) (f1 : I8 xs1)  :
    Calls Try.prog 3 #[.slice a0 xs0.length c0, .slice a1 xs1.length c1, .int .i64 n2] w fun e w' => e = .returned (.bool true) ∧ Below w.heap.size w w' := by
  by_cases l0 : 1048576 < xs0.length
  · have d0 : decide ((1048576 : Int) < (xs0.length : Int)) = true := by simp; omega
    have e0 : (1048576 : Int) < (xs0.length : Int) := by omega
    go_enter Try.func3, Try.ntmps3
    go_wp2
    go_ret
    exact ⟨rfl, Below.refl _ _⟩
  have hn0 : xs0.length ≤ 1048576 := by omega
  have d0 : decide ((1048576 : Int) < (xs0.length : Int)) = false := by simp; omega
  clear l0
  by_cases l1 : 1048576 < xs1.length
  · have d1 : decide ((1048576 : Int) < (xs1.length : Int)) = true := by simp; omega
    have e1 : (1048576 : Int) < (xs1.length : Int) := by omega
    go_enter Try.func3, Try.ntmps3
    go_wp2
    go_ret
    exact ⟨rfl, Below.refl _ _⟩
  have hn1 : xs1.length ≤ 1048576 := by omega
  have d1 : decide ((1048576 : Int) < (xs1.length : Int)) = false := by simp; omega
  clear l1
  have hB0 := Below.refl w.heap.size w
  go_enter Try.func3, Try.ntmps3
  go_wp2_with fail
  refine (toWeights_any w.heap.size _ _ xs0 _ hn0 hB0.size (s0.below hB0)).mono ?_
  rintro e w1 ⟨rfl, t1, b1⟩
  have r0 := t1
  clear t1
  have hB1 := hB0.trans (b1.mono hB0.size)
  clear b1
  go_wp2_with fail
  refine (toPlacing_any w.heap.size _ _ xs1 _ hn1 hB1.size (s1.below hB1)).mono ?_
  rintro e w2 ⟨rfl, t2, b2⟩
  replace r0 := r0.below b2 r0.lt
  have r1 := t2
  clear t2
  have hB2 := hB1.trans (b2.mono hB1.size)
  clear b2
  go_wp2_with fail
  refine (specTilt_any _ 0 _ _ 0 _ xs0 xs1 n2 _ hn0 hn1 r0.at r1.at f0 f1).mono ?_
  rintro e w3 ⟨rfl, b3⟩
  replace b3 := b3.below
  replace r0 := r0.below b3 r0.lt
  replace r1 := r1.below b3 r1.lt
  have hB3 := hB2.trans (b3.mono hB2.size)
  clear b3
  clear r0
  clear r1
  go_wp2_with fail
  refine (toWeights_any w.heap.size _ _ xs0 _ hn0 hB3.size (s0.below hB3)).mono ?_
  rintro e w4 ⟨rfl, t4, b4⟩
  have x0 := t4
  clear t4
  have hB4 := hB3.trans (b4.mono hB3.size)
  clear b4
  go_wp2_with fail
  refine (toPlacing_any w.heap.size _ _ xs1 _ hn1 hB4.size (s1.below hB4)).mono ?_
  rintro e w5 ⟨rfl, t5, b5⟩
  replace x0 := x0.below b5 x0.lt
  have x1 := t5
  clear t5
  have hB5 := hB4.trans (b5.mono hB4.size)
  clear b5
  go_wp2_with fail
  refine (tilt_any _ 0 _ _ 0 _ xs0 xs1 n2 _ hn0 hn1 x0.lt x1.lt x0.at x1.at f0).mono ?_
  rintro e w6 ⟨rfl, b6⟩
  replace x0 := x0.below b6 x0.lt
  replace x1 := x1.below b6 x1.lt
  have hB6 := hB5.trans (b6.mono hB5.size)
  clear b6
  go_wp2_with fail
  refine (toWeights_any w.heap.size _ _ xs0 _ hn0 hB6.size (s0.below hB6)).mono ?_
  rintro e w7 ⟨rfl, t7, b7⟩
  replace x0 := x0.below b7 x0.lt
  replace x1 := x1.below b7 x1.lt
  have y0 := t7
  clear t7
  have hB7 := hB6.trans (b7.mono hB6.size)
  clear b7
  go_wp2_with fail
  refine (eqWeights_same _ 0 _ _ 0 _ xs0 _ hn0 x0.at y0.at).mono ?_
  rintro e w8 ⟨rfl, b8⟩
  replace b8 := b8.below
  replace x0 := x0.below b8 x0.lt
  replace x1 := x1.below b8 x1.lt
  replace y0 := y0.below b8 y0.lt
  have hB8 := hB7.trans (b8.mono hB7.size)
  clear b8
  clear y0
  go_wp2_with fail
  refine (toPlacing_any w.heap.size _ _ xs1 _ hn1 hB8.size (s1.below hB8)).mono ?_
  rintro e w9 ⟨rfl, t9, b9⟩
  replace x0 := x0.below b9 x0.lt
  replace x1 := x1.below b9 x1.lt
  have y1 := t9
  clear t9
  have hB9 := hB8.trans (b9.mono hB8.size)
  clear b9
  go_wp2_with fail
  refine (eqPlacing_same _ 0 _ _ 0 _ xs1 _ hn1 x1.at y1.at).mono ?_
  rintro e w10 ⟨rfl, b10⟩
  replace b10 := b10.below
  replace x0 := x0.below b10 x0.lt
  replace x1 := x1.below b10 x1.lt
  replace y1 := y1.below b10 y1.lt
  have hB10 := hB9.trans (b10.mono hB9.size)
  clear b10
  clear y1
  go_wp2
  go_ret
  exact ⟨rfl, hB10⟩

theorem walk_FnExactTiltOfArms (a0 : Option Addr) (c0 : Nat) (xs0 : List Int) (a1 : Option Addr) (c1 : Nat) (xs1 : List Int) (n2 : Int) (n3 : Int) (n4 : Int) (w : World) (s0 : Sl .i16 w.heap.size w a0 xs0) (f0 : I16 xs0) (s1 : Sl .i8 w.heap.size w a1 xs1)    :
    Calls Try.prog 4 #[.slice a0 xs0.length c0, .slice a1 xs1.length c1, .int .i64 n2, .int .i64 n3, .int .i64 n4] w fun e w' => e = .returned (.bool true) ∧ Below w.heap.size w w' := by
  by_cases l0 : 1048576 < xs0.length
  · have d0 : decide ((1048576 : Int) < (xs0.length : Int)) = true := by simp; omega
    have e0 : (1048576 : Int) < (xs0.length : Int) := by omega
    go_enter Try.func4, Try.ntmps4
    go_wp2
    go_ret
    exact ⟨rfl, Below.refl _ _⟩
  have hn0 : xs0.length ≤ 1048576 := by omega
  have d0 : decide ((1048576 : Int) < (xs0.length : Int)) = false := by simp; omega
  clear l0
  by_cases l1 : 1048576 < xs1.length
  · have d1 : decide ((1048576 : Int) < (xs1.length : Int)) = true := by simp; omega
    have e1 : (1048576 : Int) < (xs1.length : Int) := by omega
    go_enter Try.func4, Try.ntmps4
    go_wp2
    go_ret
    exact ⟨rfl, Below.refl _ _⟩
  have hn1 : xs1.length ≤ 1048576 := by omega
  have d1 : decide ((1048576 : Int) < (xs1.length : Int)) = false := by simp; omega
  clear l1
  have hB0 := Below.refl w.heap.size w
  go_enter Try.func4, Try.ntmps4
  go_wp2_with fail
  refine (toWeights_any w.heap.size _ _ xs0 _ hn0 hB0.size (s0.below hB0)).mono ?_
  rintro e w1 ⟨rfl, t1, b1⟩
  have r0 := t1
  clear t1
  have hB1 := hB0.trans (b1.mono hB0.size)
  clear b1
  go_wp2_with fail
  refine (toPlacing_any w.heap.size _ _ xs1 _ hn1 hB1.size (s1.below hB1)).mono ?_
  rintro e w2 ⟨rfl, t2, b2⟩
  replace r0 := r0.below b2 r0.lt
  have r1 := t2
  clear t2
  have hB2 := hB1.trans (b2.mono hB1.size)
  clear b2
  go_wp2_with fail
  refine (specTiltOfArms_any _ 0 _ _ 0 _ xs0 xs1 n2 n3 n4 _ hn0 hn1 r0.at r1.at f0).mono ?_
  rintro e w3 ⟨rfl, b3⟩
  replace b3 := b3.below
  replace r0 := r0.below b3 r0.lt
  replace r1 := r1.below b3 r1.lt
  have hB3 := hB2.trans (b3.mono hB2.size)
  clear b3
  clear r0
  clear r1
  go_wp2_with fail
  refine (toWeights_any w.heap.size _ _ xs0 _ hn0 hB3.size (s0.below hB3)).mono ?_
  rintro e w4 ⟨rfl, t4, b4⟩
  have x0 := t4
  clear t4
  have hB4 := hB3.trans (b4.mono hB3.size)
  clear b4
  go_wp2_with fail
  refine (toPlacing_any w.heap.size _ _ xs1 _ hn1 hB4.size (s1.below hB4)).mono ?_
  rintro e w5 ⟨rfl, t5, b5⟩
  replace x0 := x0.below b5 x0.lt
  have x1 := t5
  clear t5
  have hB5 := hB4.trans (b5.mono hB4.size)
  clear b5
  go_wp2_with fail
  refine (tiltOfArms_any _ 0 _ _ 0 _ xs0 xs1 n2 n3 n4 _ hn0 hn1 x0.lt x1.lt x0.at x1.at f0).mono ?_
  rintro e w6 ⟨rfl, b6⟩
  replace x0 := x0.below b6 x0.lt
  replace x1 := x1.below b6 x1.lt
  have hB6 := hB5.trans (b6.mono hB5.size)
  clear b6
  go_wp2_with fail
  refine (toWeights_any w.heap.size _ _ xs0 _ hn0 hB6.size (s0.below hB6)).mono ?_
  rintro e w7 ⟨rfl, t7, b7⟩
  replace x0 := x0.below b7 x0.lt
  replace x1 := x1.below b7 x1.lt
  have y0 := t7
  clear t7
  have hB7 := hB6.trans (b7.mono hB6.size)
  clear b7
  go_wp2_with fail
  refine (eqWeights_same _ 0 _ _ 0 _ xs0 _ hn0 x0.at y0.at).mono ?_
  rintro e w8 ⟨rfl, b8⟩
  replace b8 := b8.below
  replace x0 := x0.below b8 x0.lt
  replace x1 := x1.below b8 x1.lt
  replace y0 := y0.below b8 y0.lt
  have hB8 := hB7.trans (b8.mono hB7.size)
  clear b8
  clear y0
  go_wp2_with fail
  refine (toPlacing_any w.heap.size _ _ xs1 _ hn1 hB8.size (s1.below hB8)).mono ?_
  rintro e w9 ⟨rfl, t9, b9⟩
  replace x0 := x0.below b9 x0.lt
  replace x1 := x1.below b9 x1.lt
  have y1 := t9
  clear t9
  have hB9 := hB8.trans (b9.mono hB8.size)
  clear b9
  go_wp2_with fail
  refine (eqPlacing_same _ 0 _ _ 0 _ xs1 _ hn1 x1.at y1.at).mono ?_
  rintro e w10 ⟨rfl, b10⟩
  replace b10 := b10.below
  replace x0 := x0.below b10 x0.lt
  replace x1 := x1.below b10 x1.lt
  replace y1 := y1.below b10 y1.lt
  have hB10 := hB9.trans (b10.mono hB9.size)
  clear b10
  clear y1
  go_wp2
  go_ret
  exact ⟨rfl, hB10⟩
end Go.Proofs.Ytpagjegmdnanhaa
