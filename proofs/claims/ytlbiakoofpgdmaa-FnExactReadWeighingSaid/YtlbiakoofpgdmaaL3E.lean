/-
  The walk of the law of ReadWeighing.
-/
import Derived.Test.YtlbiakoofpgdmaaW4
namespace Go.Proofs.Ytlbiakoofpgdmaa
open Go.RowKit
set_option linter.unusedVariables false

set_option maxRecDepth 100000 in
set_option maxHeartbeats 4000000 in
theorem walk_FnExactReadWeighing (c0 k0 : Int) (n0 g0 : Bool) (s1 : ByteArray) (w : World) (p0 : B8 c0) (q0 : B8 k0) (g1 : s1.size ≤ maxLen) :
    Calls Try.prog 6 #[taskV c0 k0 n0 g0, .string s1] w fun e w' => e = .returned (.bool true) ∧ Below w.heap.size w w' := by
  have F0 := (FR.start w).box #[.int .i8 c0, .int .i8 k0, .bool n0, .bool g0] 24
  by_cases hl : 1048576 < s1.size
  · have HF := Lib.hid F0.below
    have hlz : (1048576 : Int) < (s1.size : Int) := by omega
    have hm : (s1.size : Int) ≤ 9223372036854775807 := by unfold maxLen at g1; omega
    clear F0 p0 q0 g1
    go_enter Try.func6, Try.ntmps6
    go_wp2
    go_ret
    exact ⟨rfl, HF.out⟩
  have hs : s1.size ≤ 1048576 := by omega
  have hlz : ¬ (1048576 : Int) < (s1.size : Int) := by omega
  have HS := Lib.hid (fun W => specReadWeighing_any c0 k0 n0 g0 s1 W p0 q0 hs)
  have HI := Lib.hid (fun W => readWeighing_any c0 k0 n0 g0 s1 W p0 q0 hs)
  clear p0 q0 g1 hl
  generalize rwV c0 k0 g0 s1 = x at *
  generalize rwC c0 k0 g0 s1 = cc at *
  obtain ⟨q0, q1, q2, q3, -⟩ := (F0.blk _ List.mem_cons_self).four
  go_enter Try.func6, Try.ntmps6
  go_wp2_with fail
  refine (toTask_fr F0 c0 k0 n0 g0).mono ?_
  rintro e w1 ⟨rfl, F1⟩
  clear q0 q1 q2 q3 F0
  go_wp2_with fail
  refine (Calls.fr F1 (HS.out _)).mono ?_
  rintro e w2 ⟨rfl, F2⟩
  clear F1
  have F3 : FR w [(w2.heap.size, weigC x, 34), (w.heap.size, #[.int .i8 c0, .int .i8 k0, .bool n0, .bool g0], 24)] (w2.alloc (.cells (weigC x) 34)) := F2.box (weigC x) 34
  obtain ⟨q0, q1, q2, q3, -⟩ := (F3.blk _ (List.mem_cons_of_mem _ List.mem_cons_self)).four
  clear F2
  go_wp2_with fail
  refine (toTask_fr F3 c0 k0 n0 g0).mono ?_
  rintro e w3 ⟨rfl, F4⟩
  clear q0 q1 q2 q3 F3
  go_wp2_with fail
  refine (Calls.fr F4 (HI.out _)).mono ?_
  rintro e w4 ⟨rfl, F5⟩
  clear F4
  have F6 : FR w [(w4.heap.size, weigC x, 34), (w2.heap.size, weigC x, 34), (w.heap.size, #[.int .i8 c0, .int .i8 k0, .bool n0, .bool g0], 24)] (w4.alloc (.cells (weigC x) 34)) := F5.box (weigC x) 34
  clear F5
  obtain ⟨d0, d1, d2, d3, d4, d5, d6, d7, d8, d9, d10, d11, d12, d13, -⟩ := Blk.fourteen (x := x) (F6.blk _ List.mem_cons_self)
  obtain ⟨e0, e1, e2, e3, e4, e5, e6, e7, e8, e9, e10, e11, e12, e13, -⟩ := Blk.fourteen (x := x) (F6.blk _ (List.mem_cons_of_mem _ List.mem_cons_self))
  go_wp2_with fail
  refine (Calls.fr F6 (eqWeighing_same x _)).mono ?_
  rintro e w5 ⟨rfl, F7⟩
  clear F6 d0 d1 d2 d3 d4 d5 d6 d7 d8 d9 d10 d11 d12 d13 e0 e1 e2 e3 e4 e5 e6 e7 e8 e9 e10 e11 e12 e13
  go_wp2
  go_ret
  exact ⟨rfl, F7.below⟩
end Go.Proofs.Ytlbiakoofpgdmaa
