/-
  The seen word of a case: the program's and the model's.
-/
import Derived.Test.YtieghjpecoiodaaE3
import Derived.Test.YtieghjpecoiodaaA2
namespace Go.Proofs.Ytieghjpecoiodaa
open Go.RowKit
set_option maxRecDepth 100000
set_option linter.unusedVariables false

/-- The opposite word. -/
def opD (x : Nat → Int) (i : Nat) : Int := IntKind.i8.wrap (- x i)
set_option maxHeartbeats 2000000 in
theorem l04Opposite_any (x : Nat → Int) (w : World) (hx : W4 x) :
    Calls Try.prog 53 #[wordV x] w fun e w' => e = .returned (wordV (opD x)) ∧ Below w.heap.size w w' := by
  have F0 := (FR.start w).box (wordC x) 40
  obtain ⟨h0, h1, h2, h3⟩ := hx.quad
  obtain ⟨c0, c1, c2, c3, c4⟩ := (F0.blk _ List.mem_cons_self).four
  clear F0 hx
  go_enter Try.func53, Try.ntmps53
  go_wp2
  refine wp_loop_rounds 5 ?_
  iterate 5 (rw [rounds_succ]; go_wp2)
  exact bodyPost_ret (v := wordV (opD x)) (by simp [results, Try.results53, go_sem]; simp only [opD, and_self]) rfl ⟨rfl, by repeat (first | exact Below.refl _ _ | refine Below.setCell ?_ (by simp <;> omega) _ | refine Below.alloc ?_ (by simp <;> omega) _)⟩
set_option maxHeartbeats 2000000 in
theorem oppositeWord_any (x : Nat → Int) (w : World) (hx : W4 x) :
    Calls Try.prog 65 #[wordV x] w fun e w' => e = .returned (wordV (opD x)) ∧ Below w.heap.size w w' := by
  have F0 := (FR.start w).box (wordC x) 40
  obtain ⟨h0, h1, h2, h3⟩ := hx.quad
  obtain ⟨c0, c1, c2, c3, c4⟩ := (F0.blk _ List.mem_cons_self).four
  clear F0 hx
  go_enter Try.func65, Try.ntmps65
  go_wp2
  refine wp_loop_rounds 5 ?_
  iterate 5 (rw [rounds_succ]; go_wp2)
  exact bodyPost_ret (v := wordV (opD x)) (by simp [results, Try.results65, go_sem]; simp only [opD, and_self]) rfl ⟨rfl, by repeat (first | exact Below.refl _ _ | refine Below.setCell ?_ (by simp <;> omega) _ | refine Below.alloc ?_ (by simp <;> omega) _)⟩

/-- The seen word of a case. -/
def seenV (ws : List Wf) (x : Cs) : Wf := if x.1 < 0 then fun _ => 0 else if x.2 = true then wI ws x.1.toNat else opD (wI ws x.1.toNat)
theorem seen_none (ws : List Wf) {c : Int} (h : Bool) (hc : c < 0) : seenV ws (c, h) = fun _ => 0 := if_pos hc
theorem seen_heavy (ws : List Wf) (j : Nat) : seenV ws ((j : Int), true) = wI ws j := by rw [seenV, if_neg (show ¬ ((j : Int) < 0) by omega)]; simp
theorem seen_light (ws : List Wf) (j : Nat) : seenV ws ((j : Int), false) = opD (wI ws j) := by rw [seenV, if_neg (show ¬ ((j : Int) < 0) by omega)]; simp
set_option maxHeartbeats 2000000 in
theorem seenNone_any (a : Option Addr) (n c : Nat) (hh : Bool) (w : World) :
    Calls Try.prog 52 #[.slice a n c, caseV (-1) hh] w fun e w' => e = .returned (wordV fun _ => 0) ∧ Below w.heap.size w w' := by
  have F0 := ((FR.start w).box #[.int .i8 (-1), .bool hh] 37)
  obtain ⟨c0, c1, -⟩ := (F0.blk _ List.mem_cons_self).two
  clear F0
  go_enter Try.func52, Try.ntmps52
  go_wp2
  exact bodyPost_ret (v := wordV fun _ => 0) (by simp [results, Try.results52, go_sem]) rfl ⟨rfl, by repeat (first | exact Below.refl _ _ | refine Below.setCell ?_ (by simp <;> omega) _ | refine Below.alloc ?_ (by simp <;> omega) _)⟩
set_option maxHeartbeats 2000000 in
theorem seenHeavy_any (b off c j : Nat) (ws : List Wf) (w : World) (hj : j < ws.length) (hn : ws.length ≤ 80) (hb : b < w.heap.size) (hc : WAt w b off ws) :
    Calls Try.prog 52 #[.slice (some ⟨b, off, none⟩) ws.length c, caseV (j : Int) true] w fun e w' => e = .returned (wordV (wI ws j)) ∧ Below w.heap.size w w' := by
  have F0 := ((FR.start w).box #[.int .i8 (j : Int), .bool true] 37).box #[.int .i8 0, .int .i8 0, .int .i8 0, .int .i8 0] 40
  obtain ⟨c0, c1, -⟩ := (F0.blk _ (List.mem_cons_of_mem _ List.mem_cons_self)).two
  obtain ⟨d0, d1, d2, d3⟩ := (hc.below F0.below hb).four j hj
  have hjn : (j : Int) < (ws.length : Int) := by omega
  have hj0 : ¬ ((j : Int) < 0) := by omega
  have hne : b ≠ w.heap.size := by omega
  have hne2 : b ≠ w.heap.size + 1 := by omega
  generalize wI ws j = x at *
  clear F0 hc
  go_enter Try.func52, Try.ntmps52
  go_wp2
  exact bodyPost_ret (v := wordV x) (by simp [results, Try.results52, go_sem]) rfl ⟨rfl, by repeat (first | exact Below.refl _ _ | refine Below.setCell ?_ (by simp <;> omega) _ | refine Below.alloc ?_ (by simp <;> omega) _)⟩
set_option maxHeartbeats 2000000 in
theorem seenLight_any (b off c j : Nat) (ws : List Wf) (w : World) (hj : j < ws.length) (hn : ws.length ≤ 80) (hb : b < w.heap.size) (hc : WAt w b off ws) (hw : W4 (wI ws j)) :
    Calls Try.prog 52 #[.slice (some ⟨b, off, none⟩) ws.length c, caseV (j : Int) false] w fun e w' => e = .returned (wordV (opD (wI ws j))) ∧ Below w.heap.size w w' := by
  have F0 := ((FR.start w).box #[.int .i8 (j : Int), .bool false] 37).box #[.int .i8 0, .int .i8 0, .int .i8 0, .int .i8 0] 40
  obtain ⟨c0, c1, -⟩ := (F0.blk _ (List.mem_cons_of_mem _ List.mem_cons_self)).two
  obtain ⟨d0, d1, d2, d3⟩ := (hc.below F0.below hb).four j hj
  have HO := Lib.hid (fun W => oppositeWord_any (wI ws j) W hw)
  have hjn : (j : Int) < (ws.length : Int) := by omega
  have hj0 : ¬ ((j : Int) < 0) := by omega
  have hne : b ≠ w.heap.size := by omega
  have hne2 : b ≠ w.heap.size + 1 := by omega
  generalize wI ws j = x at *
  have HF := Lib.hid F0
  clear F0 hc
  go_enter Try.func52, Try.ntmps52
  go_wp2_with fail
  refine (HO.out _).mono ?_
  rintro e w2 ⟨rfl, hb2⟩
  have F2 := HF.out.next hb2
  have HB := Lib.hid F2.below
  have K := F2.blk _ List.mem_cons_self
  obtain ⟨k0, k1, k2, k3, k4⟩ := K.four
  clear c0 c1 d0 d1 d2 d3 F2 hb2 K
  have hsz : w.heap.size ≤ w.heap.size + 1 := by omega
  simp only [World.size_alloc] at k0 k1 k2 k3 k4
  go_wp2
  exact bodyPost_ret (v := wordV (opD x)) (by simp [results, Try.results52, go_sem, *]) rfl ⟨rfl, by repeat (first | exact HB.out | refine Below.setCell ?_ (by simp <;> omega) _)⟩
end Go.Proofs.Ytieghjpecoiodaa
