/-
  The program's split of a state: for whom an answer is right.
-/
import Derived.Test.YtkikkpahfplkaaaZ15
import Derived.BigRegion
namespace Go.Proofs.Ytkikkpahfplkaaa
open Go.RowKit
set_option maxRecDepth 100000
set_option linter.unusedVariables false

abbrev yesV : Value := .iface 39 (.agg #[])
abbrev noV : Value := .iface 40 (.agg #[])
theorem ta_yy (w : World) : (Instr.typeAssert yesV 42 39 true).run Try.prog w = .ok (.tuple #[.agg #[], .bool true]) w := by kernel_rfl
theorem ta_ny (w : World) : (Instr.typeAssert noV 42 39 true).run Try.prog w = .ok (.tuple #[.agg #[], .bool false]) w := by kernel_rfl
theorem ta_nn (w : World) : (Instr.typeAssert noV 42 40 true).run Try.prog w = .ok (.tuple #[.agg #[], .bool true]) w := by kernel_rfl
theorem res_rightFor {W : World} {b : Nat} {v0 v1 v2 v3 : Value} (K : Blk W b #[v0, v1, v2, v3] 23) (tmps : Array Value) (h2 : tmps.getD 6 undef = .pointer (some ⟨b, 0, none⟩)) : (results Try.f19 tmps).run Try.prog W = .ok (.agg #[v0, v1, v2, v3]) W := by
  have h2' : tmps[6]?.getD undef = .pointer (some ⟨b, 0, none⟩) := by simpa using h2
  obtain ⟨e0, e1, e2, e3, -⟩ := K.four
  simp [results, Try.results19, go_sem, e0, e1, e2, e3, h2']
theorem rightFor_yes (x a : Nat → Int) (w : World) :
    Calls Try.prog 19 #[yesV, staV x, staV a] w fun e w' => e = .returned (staV a) ∧ Below w.heap.size w w' := by
  have F0 := (((FR.start w).box (staC x) 23).box (staC a) 23).box (staC (fun _ => 0)) 23
  simp only [World.size_alloc] at F0
  have K := Lib.hid F0
  clear F0
  go_enter Try.func19, Try.ntmps19
  go_wp2
  generalize ((w.alloc (Obj.cells (staC x) 23)).alloc (Obj.cells (staC a) 23)).alloc (Obj.cells (staC (fun _ => 0)) 23) = w1 at *
  have k1 := K.out.blk _ List.mem_cons_self
  have HR := Lib.hid (Blk.setAll k1 (.int .i64 (a 0)) (.int .i64 (a 1)) (.int .i64 (a 2)) (.int .i64 (a 3)))
  have HB := Lib.hid (below_setAll K.out.below (show w.heap.size ≤ w.heap.size + 1 + 1 by omega) (.int .i64 (a 0)) (.int .i64 (a 1)) (.int .i64 (a 2)) (.int .i64 (a 3)))
  obtain ⟨d0, d1, d2, d3, d4⟩ := k1.four
  obtain ⟨c0, c1, c2, c3, -⟩ := (K.out.blk _ (List.mem_cons_of_mem _ List.mem_cons_self)).four
  have t1 := ta_yy w1
  clear K k1
  go_wp2
  exact bodyPost_ret (res_rightFor HR.out _ rfl) rfl ⟨rfl, HB.out⟩
def subP (x a : Nat → Int) (i j : Nat) : Int := if j < i then x j - a j else x j
theorem sub_next (x a : Nat → Int) (i : Nat) (hi : i < 4) : (staC (subP x a i)).setIfInBounds i (.int .i64 (x i - a i)) = staC (subP x a (i + 1)) := by
  have e : x i - a i = subP x a (i + 1) i := by unfold subP; rw [if_pos (by omega)]
  rw [e]
  refine sta_set _ _ i hi (fun j hj => ?_)
  by_cases h : j = i
  · subst h; rw [if_pos rfl]
  · rw [if_neg h]; unfold subP
    by_cases h2 : j < i
    · rw [if_pos h2, if_pos (by omega)]
    · rw [if_neg h2, if_neg (by omega)]
set_option maxHeartbeats 2000000 in
theorem rightFor_no (x a : Nat → Int) (w : World) (hx : Sm x) (ha : InS x a) :
    Calls Try.prog 19 #[noV, staV x, staV a] w fun e w' => e = .returned (staV (fun j => x j - a j)) ∧ Below w.heap.size w w' := by
  have F0 := (((FR.start w).box (staC x) 23).box (staC a) 23).box (staC (fun _ => 0)) 23
  simp only [World.size_alloc] at F0
  have K2 := Lib.hid (F0.blk _ List.mem_cons_self)
  have K1 := Lib.hid (F0.blk _ (List.mem_cons_of_mem _ List.mem_cons_self))
  have K0 := F0.blk _ (List.mem_cons_of_mem _ (List.mem_cons_of_mem _ List.mem_cons_self))
  have K0' := Lib.hid (show Blk _ w.heap.size (staC (subP x a 0)) _ from K0)
  have HB := Lib.hid F0.below
  have t1 := fun W => ta_ny W
  have t2 := fun W => ta_nn W
  clear F0 K0
  go_enter Try.func19, Try.ntmps19
  go_wp2
  generalize ((w.alloc (Obj.cells (staC x) 23)).alloc (Obj.cells (staC a) 23)).alloc (Obj.cells (staC (fun _ => 0)) 23) = w1 at *
  clear t1 t2
  go_loopw [7, 16] (fun _ iv wr => ∃ i : Nat, iv = .int .i64 (i : Int) ∧ i ≤ 4 ∧ Blk wr w.heap.size (staC (subP x a i)) 23 ∧ Blk wr (w.heap.size + 1) (staC a) 23 ∧ Blk wr (w.heap.size + 1 + 1) (staC (fun _ => 0)) 23 ∧ Below w.heap.size w wr) (fun _ iv _ => 4 - (intOf iv).toNat)
  case atStart => exact ⟨0, rfl, by omega, K0'.out, K1.out, K2.out, HB.out⟩
  case round =>
    obtain ⟨i, rfl, hi, k0, k1, k2, hb⟩ := hrel
    by_cases hlt : i < 4
    case neg =>
      obtain rfl : i = 4 := by omega
      rw [show staC (subP x a 4) = staC (fun j => x j - a j) from by simp [subP]] at k0
      have HR := Lib.hid (Blk.setAll k2 (.int .i64 (x 0 - a 0)) (.int .i64 (x 1 - a 1)) (.int .i64 (x 2 - a 2)) (.int .i64 (x 3 - a 3)))
      have HB := Lib.hid (below_setAll hb (show w.heap.size ≤ w.heap.size + 1 + 1 by omega) (.int .i64 (x 0 - a 0)) (.int .i64 (x 1 - a 1)) (.int .i64 (x 2 - a 2)) (.int .i64 (x 3 - a 3)))
      obtain ⟨c0, c1, c2, c3, -⟩ := k0.four
      obtain ⟨d0, d1, d2, d3, d4⟩ := k2.four
      clear k0 k1 k2 hb
      go_wp2
      exact bodyPost_ret (res_rightFor HR.out _ rfl) rfl ⟨rfl, HB.out⟩
    have hlz : (i : Int) < 4 := by omega
    have c0 := Blk.sta k0 i hlt
    rw [show subP x a i i = x i from by unfold subP; rw [if_neg (by omega)]] at c0
    have d0 := Blk.sta k1 i hlt
    have f0 := k0.free i
    have h1 := hx i hlt
    have h2 := ha i hlt
    have h3 := k0.set i (.int .i64 (x i - a i))
    rw [sub_next x a i hlt] at h3
    have HN := Lib.hid (And.intro h3 (And.intro (k1.setOther (show w.heap.size + 1 ≠ w.heap.size by omega) i (.int .i64 (x i - a i))) (And.intro (k2.setOther (show w.heap.size + 1 + 1 ≠ w.heap.size by omega) i (.int .i64 (x i - a i))) (hb.setCell (p := ⟨w.heap.size, i, none⟩) (Nat.le_refl _) (.int .i64 (x i - a i))))))
    generalize x i = u at *
    generalize a i = v at *
    clear k0 k1 k2 hb h3
    go_wp2
    go_region
    go_wp2
    go_roundw
    case rel => exact ⟨i + 1, by go_num, by omega, HN.out.1, HN.out.2.1, HN.out.2.2.1, HN.out.2.2.2.drew⟩
    case measure => simp [intOf]; omega
end Go.Proofs.Ytkikkpahfplkaaa
