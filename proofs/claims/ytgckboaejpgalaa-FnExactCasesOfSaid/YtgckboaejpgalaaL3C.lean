/-
  The walk of the law of CasesOf.
-/
import Derived.Test.YtgckboaejpgalaaK2
namespace Go.Proofs.Ytgckboaejpgalaa
open Go.RowKit
set_option linter.unusedVariables false

set_option maxRecDepth 100000 in
set_option maxHeartbeats 4000000 in
theorem walk_FnExactCasesOf (c0 k0 : Int) (n0 g0 : Bool) (w : World) (p0 : B8 c0) (q0 : B8 k0) :
    Calls Try.prog 5 #[taskV c0 k0 n0 g0] w fun e w' => e = .returned (.bool true) ∧ Below w.heap.size w w' := by
  have F0 := (FR.start w).box #[.int .i8 c0, .int .i8 k0, .bool n0, .bool g0] 24
  have HS := Lib.hid (fun W => specCasesOf_any c0 k0 n0 g0 W p0 q0)
  have HI := Lib.hid (fun W => casesOf_any c0 k0 n0 g0 W p0 q0)
  have hn := casL_len c0 k0 n0
  clear p0 q0
  generalize casL c0 k0 n0 = cs at *
  generalize casC c0 k0 = cc at *
  have hnz : (cs.length : Int) ≤ 27 := by omega
  go_enter Try.func5, Try.ntmps5
  obtain ⟨q0, q1, q2, q3, -⟩ := (F0.blk _ List.mem_cons_self).four
  go_wp2_with fail
  refine (toTask_fr F0 c0 k0 n0 g0).mono ?_
  rintro e w1 ⟨rfl, F1⟩
  clear q0 q1 q2 q3 F0
  go_wp2_with fail
  refine (HS.out _).mono ?_
  rintro e w2 ⟨v1, rfl, ho, hb1⟩
  obtain ⟨a1, s1, rfl, X1⟩ := CX.of ho
  have F2 := F1.next hb1
  clear ho
  have hw2 := hb1.size
  have hz1 := (F1.blk _ List.mem_cons_self).lt
  clear hb1 F1
  obtain ⟨q0, q1, q2, q3, -⟩ := (F2.blk _ List.mem_cons_self).four
  go_wp2_with fail
  refine (toTask_any c0 k0 n0 g0 _).mono ?_
  rintro e w3 ⟨rfl, hb3⟩
  have F3 := F2.next hb3
  have X1b := X1.below hb3
  have hw3 := hb3.size
  clear hb3 X1 q0 q1 q2 q3 F2
  go_wp2_with fail
  refine (HI.out _).mono ?_
  rintro e w4 ⟨v2, rfl, ho, hb5⟩
  obtain ⟨a2, s2, rfl, X2⟩ := CX.of ho
  have F4 := F3.next hb5
  have X1 := X1b.below hb5
  clear ho X1b
  have HZ := Lib.hid (show w.heap.size < w3.heap.size ∧ w2.heap.size ≤ w3.heap.size ∧ w3.heap.size ≤ w4.heap.size from ⟨by have := hz1; omega, hw3, hb5.size⟩)
  clear hb5 F3 hz1 hw2 hw3
  go_wp2_with fail
  refine (eqCaseS_x X2 X1 _ _ (by omega)).mono ?_
  rintro e w5 ⟨rfl, hb⟩
  have F5 := F4.next hb
  have Y2 := X2.below hb
  have Y1 := X1.below hb
  clear hb F4 X1 X2
  go_wp2_with fail
  refine (markCaseS_x Y2 _ 1 (by omega) (by omega)).mono ?_
  rintro e w6 ⟨rfl, H6, O6⟩
  have F6 := F5.only2 O6 (by have := HZ.out; omega) (fun p hp => by rw [List.mem_singleton] at hp; subst hp; exact .inl HZ.out.1)
  have Z1 := Y1.only2 O6 (.inl HZ.out.2.1)
  clear F5 Y1 Y2 O6
  go_wp2_with fail
  refine (heldCaseS_x H6 _ (by omega) (by omega)).mono ?_
  rintro e w7 ⟨rfl, rfl⟩
  obtain ⟨q0, q1, q2, q3, -⟩ := (F6.blk _ List.mem_cons_self).four
  go_wp2_with fail
  refine (toTask_any c0 k0 n0 g0 _).mono ?_
  rintro e w7 ⟨rfl, hb⟩
  have F7 := F6.next hb
  have H7 := H6.below hb
  have T1 := Z1.below hb
  clear hb F6 H6 Z1 q0 q1 q2 q3
  go_wp2_with fail
  refine (HI.out _).mono ?_
  rintro e w8 ⟨v3, rfl, ho, hb⟩
  obtain ⟨a3, s3, rfl, X3⟩ := CX.of ho
  have F8 := F7.next hb
  have H8 := H7.below hb
  have U1 := T1.below hb
  clear hb F7 H7 T1 ho
  go_wp2_with fail
  refine (eqCaseS_x X3 U1 _ _ (by omega)).mono ?_
  rintro e w9 ⟨rfl, hb⟩
  have F9 := F8.next hb
  have H9 := H8.below hb
  clear hb F8 H8 U1 X3
  go_wp2_with fail
  refine (heldCaseS_x H9 _ (by omega) (by omega)).mono ?_
  rintro e w10 ⟨rfl, rfl⟩
  clear H9
  go_wp2
  go_ret
  exact ⟨rfl, F9.below⟩
end Go.Proofs.Ytgckboaejpgalaa
