/-
  The walks of the laws of TurnGlasses and WaitFor.
-/
import Derived.Test.YtfigoidpkihnnaaDoorFG
import Derived.Test.YtfigoidpkihnnaaDoorH14
import Derived.Deep.DeepCutAuto
namespace Go.Proofs.YtfigoidpkihnnaaDoor
open Go.RowKit
set_option linter.unusedVariables false

set_option maxRecDepth 100000 in
set_option maxHeartbeats 4000000 in
theorem walk_FnExactTurnGlasses (a0 : Option Addr) (c0 : Nat) (xs0 : List Int) (x1 : Nat → Int) (n2 : Int) (w : World) (m0 : xs0.length ≤ 9223372036854775807) (s0 : Sl .i16 w.heap.size w a0 xs0) (g0 : I16 xs0) (v1 : W16 x1) (p2 : 0 ≤ n2 ∧ n2 ≤ 255) (hE0 : w.cell? ⟨0, 0, none⟩ = some errV) :
    Calls Tryd.prog 3 #[.slice a0 xs0.length c0, watV x1, .int .u8 n2] w fun e w' => e = .returned (.bool true) ∧ Below w.heap.size w w' := by
  have F0 := (GR.start w).box #[.int .i16 (x1 0), .int .i16 (x1 1), .int .i16 (x1 2), .int .i16 (x1 3)] 24
  have HS0 := Lib.hid s0
  have HEE := Lib.hid hE0
  have hge := errV_lt hE0
  clear s0 hE0
  by_cases l0 : (1048576 : Int) < xs0.length
  · have HB := Lib.hid F0.below
    clear F0 HS0 g0
    generalize xs0.length = len0 at *
    go_enter Tryd.func3, Tryd.ntmps3
    go_wp2
    go_ret
    exact ⟨rfl, HB.out⟩
  have hn0 : xs0.length ≤ 1048576 := by omega
  have hz0 : (xs0.length : Int) ≤ 1048576 := by omega
  clear l0
  go_enter Tryd.func3, Tryd.ntmps3
  go_upto_region 3 with fail
  generalize hgg : w.alloc (.cells #[.int .i16 (x1 0), .int .i16 (x1 1), .int .i16 (x1 2), .int .i16 (x1 3)] 24) = w1 at *
  clear hgg
  have keepS : ∀ L R W', GR w L R W' → (∀ q ∈ ([(w.heap.size, #[.int .i16 (x1 0), .int .i16 (x1 1), .int .i16 (x1 2), .int .i16 (x1 3)], 24)] : List (Nat × Array Value × TypeId)), q ∈ L) → (W'.cell? ⟨w.heap.size, 0, none⟩ = some (.int .i16 (x1 0)) ∧ W'.cell? ⟨w.heap.size, 1, none⟩ = some (.int .i16 (x1 1)) ∧ W'.cell? ⟨w.heap.size, 2, none⟩ = some (.int .i16 (x1 2)) ∧ W'.cell? ⟨w.heap.size, 3, none⟩ = some (.int .i16 (x1 3))) := by
    intro L R W' h hs
    exact ⟨(h.blk _ (hs _ (List.mem_cons_self))).cell 0, (h.blk _ (hs _ (List.mem_cons_self))).cell 1, (h.blk _ (hs _ (List.mem_cons_self))).cell 2, (h.blk _ (hs _ (List.mem_cons_self))).cell 3⟩
  go_cut [7, 8] (fun s0 s1 wx => ∃ Bq, s0 = .pointer (some ⟨Bq, 0, none⟩) ∧ s1 = .int .i64 (tgC xs0 x1 n2) ∧ GR w ((Bq, #[.int .i16 (tgX xs0 x1 n2 0), .int .i16 (tgX xs0 x1 n2 1), .int .i16 (tgX xs0 x1 n2 2), .int .i16 (tgX xs0 x1 n2 3)], 25) :: [(w.heap.size, #[.int .i16 (x1 0), .int .i16 (x1 1), .int .i16 (x1 2), .int .i16 (x1 3)], 24)]) [] wx)
  case first =>
    go_region_held3 (fun W' => W'.cell? ⟨w.heap.size, 0, none⟩ = some (.int .i16 (x1 0)) ∧ W'.cell? ⟨w.heap.size, 1, none⟩ = some (.int .i16 (x1 1)) ∧ W'.cell? ⟨w.heap.size, 2, none⟩ = some (.int .i16 (x1 2)) ∧ W'.cell? ⟨w.heap.size, 3, none⟩ = some (.int .i16 (x1 3)))
      (exact keepS _ _ _ (by first | assumption | exact GR.drew (by assumption) | exact GR.drew (GR.box (by assumption) _ _) | exact GR.drew (GR.setTop4 (by assumption)) | exact GR.box (by first | assumption | exact GR.drew (by assumption)) _ _ | exact GR.setTop4 (by assumption)) (by first | exact fun _ h => h | exact fun _ h => List.mem_cons_of_mem _ h))
      (first
        | (go_at_call 6; with_reducible refine (toGlasses_gr (by first | assumption | exact GR.drew (by assumption) | exact GR.drew (GR.box (by assumption) _ _) | exact GR.drew (GR.setTop4 (by assumption)) | exact GR.box (by first | assumption | exact GR.drew (by assumption)) _ _ | exact GR.setTop4 (by assumption)) a0 c0 xs0 hn0 HS0.out).mono ?_; rintro e w' ⟨r0, rfl, F2⟩)
        | (go_at_call 7; with_reducible refine (toTops_gr (by first | assumption | exact GR.drew (by assumption) | exact GR.drew (GR.box (by assumption) _ _) | exact GR.drew (GR.setTop4 (by assumption)) | exact GR.box (by first | assumption | exact GR.drew (by assumption)) _ _ | exact GR.setTop4 (by assumption)) x1).mono ?_; rintro e w' ⟨rfl, F3⟩)
        | (go_at_call 5; with_reducible refine (Calls.grow (by first | assumption | exact GR.drew (by assumption) | exact GR.drew (GR.box (by assumption) _ _) | exact GR.drew (GR.setTop4 (by assumption)) | exact GR.box (by first | assumption | exact GR.drew (by assumption)) _ _ | exact GR.setTop4 (by assumption)) List.mem_cons_self (fun h1 h2 => specTurnGlasses_any _ 0 _ xs0 x1 n2 _ hn0 h1 h2 p2)).mono ?_; rintro e w' ⟨rfl, F5⟩; try (obtain ⟨zz0, zz1, zz2, zz3, zz4⟩ := (F5.blk _ List.mem_cons_self).four)))
    all_goals (go_wp2_with fail; go_meet; exact ⟨_, rfl, rfl, GR.none (by first | assumption | exact GR.drew (by assumption) | exact GR.drew (GR.box (by assumption) _ _) | exact GR.drew (GR.setTop4 (by assumption)) | exact GR.box (by first | assumption | exact GR.drew (by assumption)) _ _ | exact GR.setTop4 (by assumption))⟩)
  case rest =>
  obtain ⟨B, rfl, rfl, F2⟩ := hcut
  clear F0 keepS
  go_wp2_with fail
  refine (toGlasses_gr F2 a0 c0 xs0 hn0 HS0.out).mono ?_
  rintro e w3 ⟨z0, rfl, F3⟩
  clear F2
  obtain ⟨y0, y1, y2, y3, -⟩ := (F3.blk _ (List.mem_cons_of_mem _ (List.mem_cons_self))).four
  go_wp2_with fail
  refine (toTops_gr F3 x1).mono ?_
  rintro e w4 ⟨rfl, F4⟩
  clear F3 y0 y1 y2 y3
  have hEv := Lib.hid (errV_below HEE.out F4.below hge)
  go_wp2_with fail
  refine (Calls.grow F4 List.mem_cons_self (fun h1 h2 => turnGlasses_any _ 0 _ xs0 x1 n2 _ hn0 h1 h2 g0 p2 hEv.out)).mono ?_
  rintro e w5 ⟨rfl, F5⟩
  clear F4
  have F6 := F5.box #[.int .i16 (tgX xs0 x1 n2 0), .int .i16 (tgX xs0 x1 n2 1), .int .i16 (tgX xs0 x1 n2 2), .int .i16 (tgX xs0 x1 n2 3)] 25
  clear F5
  obtain ⟨a0_, a1_, a2_, a3_, -⟩ := (F6.blk _ (List.mem_cons_self)).four
  obtain ⟨b0_, b1_, b2_, b3_, -⟩ := (F6.blk _ (List.mem_cons_of_mem _ (List.mem_cons_self))).four
  go_wp2_with fail
  refine (eqTops_gr F6 (tgX xs0 x1 n2)).mono ?_
  rintro e w6 ⟨rfl, F7⟩
  clear a0_ a1_ a2_ a3_ b0_ b1_ b2_ b3_ F6
  go_wp2_with fail
  refine (toGlasses_gr F7 a0 c0 xs0 hn0 HS0.out).mono ?_
  rintro e w7 ⟨q0, rfl, F8⟩
  clear F7
  go_wp2_with fail
  refine (eqGlasses_gr F8 (List.mem_cons_of_mem _ (List.mem_cons_self)) (List.mem_cons_self) _ _ hn0).mono ?_
  rintro e w8 ⟨rfl, F9⟩
  clear F8
  have HB := Lib.hid F9.below
  clear F9
  go_wp2
  go_ret
  exact ⟨rfl, HB.out⟩
set_option maxRecDepth 100000 in
set_option maxHeartbeats 4000000 in
theorem walk_FnExactWaitFor (a0 : Option Addr) (c0 : Nat) (xs0 : List Int) (x1 : Nat → Int) (w : World) (m0 : xs0.length ≤ 9223372036854775807) (s0 : Sl .i16 w.heap.size w a0 xs0) (g0 : I16 xs0) (v1 : W16 x1) (hE0 : w.cell? ⟨0, 0, none⟩ = some errV) :
    Calls Tryd.prog 4 #[.slice a0 xs0.length c0, watV x1] w fun e w' => e = .returned (.bool true) ∧ Below w.heap.size w w' := by
  have F0 := (GR.start w).box #[.int .i16 (x1 0), .int .i16 (x1 1), .int .i16 (x1 2), .int .i16 (x1 3)] 24
  have HS0 := Lib.hid s0
  have HEE := Lib.hid hE0
  have hge := errV_lt hE0
  clear s0 hE0
  by_cases l0 : (1048576 : Int) < xs0.length
  · have HB := Lib.hid F0.below
    clear F0 HS0 g0
    generalize xs0.length = len0 at *
    go_enter Tryd.func4, Tryd.ntmps4
    go_wp2
    go_ret
    exact ⟨rfl, HB.out⟩
  have hn0 : xs0.length ≤ 1048576 := by omega
  have hz0 : (xs0.length : Int) ≤ 1048576 := by omega
  clear l0
  go_enter Tryd.func4, Tryd.ntmps4
  go_upto_region 3 with fail
  generalize hgg : w.alloc (.cells #[.int .i16 (x1 0), .int .i16 (x1 1), .int .i16 (x1 2), .int .i16 (x1 3)] 24) = w1 at *
  clear hgg
  have keepS : ∀ L R W', GR w L R W' → (∀ q ∈ ([(w.heap.size, #[.int .i16 (x1 0), .int .i16 (x1 1), .int .i16 (x1 2), .int .i16 (x1 3)], 24)] : List (Nat × Array Value × TypeId)), q ∈ L) → (W'.cell? ⟨w.heap.size, 0, none⟩ = some (.int .i16 (x1 0)) ∧ W'.cell? ⟨w.heap.size, 1, none⟩ = some (.int .i16 (x1 1)) ∧ W'.cell? ⟨w.heap.size, 2, none⟩ = some (.int .i16 (x1 2)) ∧ W'.cell? ⟨w.heap.size, 3, none⟩ = some (.int .i16 (x1 3))) := by
    intro L R W' h hs
    exact ⟨(h.blk _ (hs _ (List.mem_cons_self))).cell 0, (h.blk _ (hs _ (List.mem_cons_self))).cell 1, (h.blk _ (hs _ (List.mem_cons_self))).cell 2, (h.blk _ (hs _ (List.mem_cons_self))).cell 3⟩
  go_cut [5, 6, 7] (fun s0 s1 s2 wx => ∃ Bq, s0 = .pointer (some ⟨Bq, 0, none⟩) ∧ s1 = .int .i64 (wfM xs0 x1) ∧ s2 = .int .i64 (wfC xs0 x1) ∧ GR w ((Bq, #[.int .i16 (wfX xs0 x1 0), .int .i16 (wfX xs0 x1 1), .int .i16 (wfX xs0 x1 2), .int .i16 (wfX xs0 x1 3)], 25) :: [(w.heap.size, #[.int .i16 (x1 0), .int .i16 (x1 1), .int .i16 (x1 2), .int .i16 (x1 3)], 24)]) [] wx)
  case first =>
    go_region_held3 (fun W' => W'.cell? ⟨w.heap.size, 0, none⟩ = some (.int .i16 (x1 0)) ∧ W'.cell? ⟨w.heap.size, 1, none⟩ = some (.int .i16 (x1 1)) ∧ W'.cell? ⟨w.heap.size, 2, none⟩ = some (.int .i16 (x1 2)) ∧ W'.cell? ⟨w.heap.size, 3, none⟩ = some (.int .i16 (x1 3)))
      (exact keepS _ _ _ (by first | assumption | exact GR.drew (by assumption) | exact GR.drew (GR.box (by assumption) _ _) | exact GR.drew (GR.setTop4 (by assumption)) | exact GR.box (by first | assumption | exact GR.drew (by assumption)) _ _ | exact GR.setTop4 (by assumption)) (by first | exact fun _ h => h | exact fun _ h => List.mem_cons_of_mem _ h))
      (first
        | (go_at_call 6; with_reducible refine (toGlasses_gr (by first | assumption | exact GR.drew (by assumption) | exact GR.drew (GR.box (by assumption) _ _) | exact GR.drew (GR.setTop4 (by assumption)) | exact GR.box (by first | assumption | exact GR.drew (by assumption)) _ _ | exact GR.setTop4 (by assumption)) a0 c0 xs0 hn0 HS0.out).mono ?_; rintro e w' ⟨r0, rfl, F2⟩)
        | (go_at_call 7; with_reducible refine (toTops_gr (by first | assumption | exact GR.drew (by assumption) | exact GR.drew (GR.box (by assumption) _ _) | exact GR.drew (GR.setTop4 (by assumption)) | exact GR.box (by first | assumption | exact GR.drew (by assumption)) _ _ | exact GR.setTop4 (by assumption)) x1).mono ?_; rintro e w' ⟨rfl, F3⟩)
        | (go_at_call 11; with_reducible refine (Calls.grow (by first | assumption | exact GR.drew (by assumption) | exact GR.drew (GR.box (by assumption) _ _) | exact GR.drew (GR.setTop4 (by assumption)) | exact GR.box (by first | assumption | exact GR.drew (by assumption)) _ _ | exact GR.setTop4 (by assumption)) List.mem_cons_self (fun h1 h2 => specWaitFor_any _ 0 _ xs0 x1 _ hn0 h1 h2 v1)).mono ?_; rintro e w' ⟨rfl, F5⟩; try (obtain ⟨zz0, zz1, zz2, zz3, zz4⟩ := (F5.blk _ List.mem_cons_self).four)))
    all_goals (go_wp2_with fail; go_meet; exact ⟨_, rfl, rfl, rfl, GR.none (by first | assumption | exact GR.drew (by assumption) | exact GR.drew (GR.box (by assumption) _ _) | exact GR.drew (GR.setTop4 (by assumption)) | exact GR.box (by first | assumption | exact GR.drew (by assumption)) _ _ | exact GR.setTop4 (by assumption))⟩)
  case rest =>
  obtain ⟨B, rfl, rfl, rfl, F2⟩ := hcut
  clear F0 keepS
  go_wp2_with fail
  refine (toGlasses_gr F2 a0 c0 xs0 hn0 HS0.out).mono ?_
  rintro e w3 ⟨z0, rfl, F3⟩
  clear F2
  obtain ⟨y0, y1, y2, y3, -⟩ := (F3.blk _ (List.mem_cons_of_mem _ (List.mem_cons_self))).four
  go_wp2_with fail
  refine (toTops_gr F3 x1).mono ?_
  rintro e w4 ⟨rfl, F4⟩
  clear F3 y0 y1 y2 y3
  have hEv := Lib.hid (errV_below HEE.out F4.below hge)
  go_wp2_with fail
  refine (Calls.grow F4 List.mem_cons_self (fun h1 h2 => waitFor_any _ 0 _ xs0 x1 _ hn0 h1 h2 g0 v1 hEv.out)).mono ?_
  rintro e w5 ⟨rfl, F5⟩
  clear F4
  have F6 := F5.box #[.int .i16 (wfX xs0 x1 0), .int .i16 (wfX xs0 x1 1), .int .i16 (wfX xs0 x1 2), .int .i16 (wfX xs0 x1 3)] 25
  clear F5
  obtain ⟨a0_, a1_, a2_, a3_, -⟩ := (F6.blk _ (List.mem_cons_self)).four
  obtain ⟨b0_, b1_, b2_, b3_, -⟩ := (F6.blk _ (List.mem_cons_of_mem _ (List.mem_cons_self))).four
  go_wp2_with fail
  refine (eqTops_gr F6 (wfX xs0 x1)).mono ?_
  rintro e w6 ⟨rfl, F7⟩
  clear a0_ a1_ a2_ a3_ b0_ b1_ b2_ b3_ F6
  go_wp2_with fail
  refine (toGlasses_gr F7 a0 c0 xs0 hn0 HS0.out).mono ?_
  rintro e w7 ⟨q0, rfl, F8⟩
  clear F7
  go_wp2_with fail
  refine (eqGlasses_gr F8 (List.mem_cons_of_mem _ (List.mem_cons_self)) (List.mem_cons_self) _ _ hn0).mono ?_
  rintro e w8 ⟨rfl, F9⟩
  clear F8
  have HB := Lib.hid F9.below
  clear F9
  go_wp2
  go_ret
  exact ⟨rfl, HB.out⟩
end Go.Proofs.YtfigoidpkihnnaaDoor
