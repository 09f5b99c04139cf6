/-
  The walk of the law of Decode.
-/
import Derived.Test.YtnleblnikcoaiaaFWr
import Derived.Test.YtnleblnikcoaiaaK0
import Derived.Test.YtnleblnikcoaiaaB11
import Derived.Test.YtnleblnikcoaiaaB13
import Derived.Deep.DeepCutAuto
namespace Go.Proofs.Ytnleblnikcoaiaa
open Go.RowKit
set_option linter.unusedVariables false

theorem LDC.st2 {w0 w : World} {b : Nat} {z0 z1 v0 v1 : Value} {t : TypeId} {L : List (Nat × Array Value × TypeId)} {R : List (Nat × List Wf)} (h : FW w0 ((b, #[z0, z1], t) :: L) R w) :
    FW w0 ((b, #[v0, v1], t) :: L) [] ((w.setCell ⟨b, 0, none⟩ v0).setCell ⟨b, 1, none⟩ v1) :=
  (h.setTop 0 v0).setTop 1 v1
theorem LDC.st2R {w0 w : World} {b : Nat} {z0 z1 v0 v1 : Value} {t : TypeId} {L : List (Nat × Array Value × TypeId)} {R R' : List (Nat × List Wf)} (h : FW w0 ((b, #[z0, z1], t) :: L) R w) (hR : ∀ p ∈ R', p ∈ R ∧ ∃ q ∈ L, p.1 < q.1) :
    FW w0 ((b, #[v0, v1], t) :: L) R' ((w.setCell ⟨b, 0, none⟩ v0).setCell ⟨b, 1, none⟩ v1) :=
  have hR2 : ∀ p ∈ R', p ∈ R' ∧ ∃ q ∈ L, p.1 < q.1 := fun p hp => ⟨hp, (hR p hp).2⟩
  (h.setTopR hR 0 v0).setTopR hR2 1 v1
theorem LDC.toWord_fw {w0 W : World} {L : List (Nat × Array Value × TypeId)} {R : List (Nat × List Wf)} (h : FW w0 L R W) (x : Nat → Int) :
    Calls Try.prog 17 #[wordV x] W fun e w' => e = .returned (wordV x) ∧ FW w0 L R w' := Calls.fw h (toWord_any x W)
theorem LDC.eqCase_fw {w0 W : World} {L : List (Nat × Array Value × TypeId)} {R : List (Nat × List Wf)} (h : FW w0 L R W) (c : Int) (g : Bool) :
    Calls Try.prog 19 #[caseV c g, caseV c g] W fun e w' => e = .returned (.bool true) ∧ FW w0 L R w' := Calls.fw h (eqCase_same c g W)
set_option maxRecDepth 100000 in
set_option maxHeartbeats 40000000 in
theorem walk_FnExactDecode (l0 k0 : Int) (a0 : Option Addr) (c0 : Nat) (ws0 : List Wf) (x1 : Nat → Int) (w : World) (p0 : B8 l0) (q0 : B8 k0) (m0 : ws0.length ≤ 9223372036854775807) (s0 : Slw w.heap.size w a0 ws0) (r0 : Wall ws0) (p1 : W4 x1) :
    Calls Try.prog 4 #[fixV l0 k0 a0 ws0.length c0, wordV x1] w fun e w' => e = .returned (.bool true) ∧ Below w.heap.size w w' := by
  have F0 := ((FW.start w).box #[.int .i8 l0, .int .i8 k0, .slice a0 ws0.length c0] 25).box #[.int .i8 (x1 0), .int .i8 (x1 1), .int .i8 (x1 2), .int .i8 (x1 3)] 29
  simp only [World.size_alloc] at F0
  have HS0 := Lib.hid s0
  clear s0
  by_cases z0 : (1048576 : Int) < ws0.length
  · have HZ := Lib.hid (szFixed_fw F0 l0 k0 a0 ws0.length c0 m0)
    simp only [if_pos z0] at HZ
    clear F0 z0
    go_enter Try.func4, Try.ntmps4
    go_wp2_with fail
    refine HZ.out.mono ?_
    rintro e w1 ⟨rfl, F1⟩
    go_wp2
    go_ret
    exact ⟨rfl, F1.below⟩
  have hn0 : ws0.length ≤ 1048576 := by omega
  have hz0 : (ws0.length : Int) ≤ 1048576 := by omega
  have HZ := Lib.hid (szFixed_fw F0 l0 k0 a0 ws0.length c0 m0)
  simp only [if_neg z0] at HZ
  have HSS := Lib.hid (fun (a : Option Addr) (c : Nat) (W : World) (h2 : Slw W.heap.size W a ws0) => specDecode_any l0 k0 a c ws0 x1 W h2 p0 q0 hn0 r0 p1)
  have HII := Lib.hid (fun (a : Option Addr) (c : Nat) (W : World) (h2 : Slw W.heap.size W a ws0) => decode_any l0 k0 a c ws0 x1 W h2 p0 q0 hn0 r0 p1)
  clear F0 z0
  go_enter Try.func4, Try.ntmps4
  go_wp2_with fail
  refine HZ.out.mono ?_
  rintro e w1 ⟨rfl, F1⟩
  clear HZ
  go_upto_region 5 with fail
  have keepS : ∀ L R W', FW w L R W' → (∀ q ∈ ([(w.heap.size + 1, #[.int .i8 (x1 0), .int .i8 (x1 1), .int .i8 (x1 2), .int .i8 (x1 3)], 29), (w.heap.size, #[.int .i8 l0, .int .i8 k0, .slice a0 ws0.length c0], 25)] : List (Nat × Array Value × TypeId)), q ∈ L) → (W'.cell? ⟨w.heap.size, 0, none⟩ = some (.int .i8 l0) ∧ W'.cell? ⟨w.heap.size, 1, none⟩ = some (.int .i8 k0) ∧ W'.cell? ⟨w.heap.size, 2, none⟩ = some (.slice a0 ws0.length c0) ∧ W'.cell? ⟨w.heap.size + 1, 0, none⟩ = some (.int .i8 (x1 0)) ∧ W'.cell? ⟨w.heap.size + 1, 1, none⟩ = some (.int .i8 (x1 1)) ∧ W'.cell? ⟨w.heap.size + 1, 2, none⟩ = some (.int .i8 (x1 2)) ∧ W'.cell? ⟨w.heap.size + 1, 3, none⟩ = some (.int .i8 (x1 3))) := by
    intro L R W' h hs
    exact ⟨(h.blk _ (hs _ (List.mem_cons_of_mem _ (List.mem_cons_self)))).cell 0, (h.blk _ (hs _ (List.mem_cons_of_mem _ (List.mem_cons_self)))).cell 1, (h.blk _ (hs _ (List.mem_cons_of_mem _ (List.mem_cons_self)))).cell 2, (h.blk _ (hs _ (List.mem_cons_self))).cell 0, (h.blk _ (hs _ (List.mem_cons_self))).cell 1, (h.blk _ (hs _ (List.mem_cons_self))).cell 2, (h.blk _ (hs _ (List.mem_cons_self))).cell 3⟩
  go_cut [6, 7] (fun s1 s2 wx => ∃ Bq, s1 = .pointer (some ⟨Bq, 0, none⟩) ∧ s2 = .int .i64 (deC l0 k0 ws0 x1) ∧ FW w ((Bq, #[.int .i8 (deV l0 k0 ws0 x1).1, .bool (deV l0 k0 ws0 x1).2], 37) :: [(w.heap.size + 1, #[.int .i8 (x1 0), .int .i8 (x1 1), .int .i8 (x1 2), .int .i8 (x1 3)], 29), (w.heap.size, #[.int .i8 l0, .int .i8 k0, .slice a0 ws0.length c0], 25)]) [] wx)
  case first =>
    go_region_held3 (fun W' => W'.cell? ⟨w.heap.size, 0, none⟩ = some (.int .i8 l0) ∧ W'.cell? ⟨w.heap.size, 1, none⟩ = some (.int .i8 k0) ∧ W'.cell? ⟨w.heap.size, 2, none⟩ = some (.slice a0 ws0.length c0) ∧ W'.cell? ⟨w.heap.size + 1, 0, none⟩ = some (.int .i8 (x1 0)) ∧ W'.cell? ⟨w.heap.size + 1, 1, none⟩ = some (.int .i8 (x1 1)) ∧ W'.cell? ⟨w.heap.size + 1, 2, none⟩ = some (.int .i8 (x1 2)) ∧ W'.cell? ⟨w.heap.size + 1, 3, none⟩ = some (.int .i8 (x1 3)))
      (exact keepS _ _ _ (by first | assumption | exact FW.drew (by assumption) | exact FW.drew (FW.box (by assumption) _ _) | exact FW.drew (LDC.st2 (by assumption)) | exact FW.box (by first | assumption | exact FW.drew (by assumption)) _ _ | exact LDC.st2 (by assumption)) (by first | exact fun _ h => h | exact fun _ h => List.mem_cons_of_mem _ h))
      (first
        | (go_at_call 11; with_reducible refine (toFixed_fw (by first | assumption | exact FW.drew (by assumption) | exact FW.drew (FW.box (by assumption) _ _) | exact FW.drew (LDC.st2 (by assumption)) | exact FW.box (by first | assumption | exact FW.drew (by assumption)) _ _ | exact LDC.st2 (by assumption)) l0 k0 a0 c0 ws0 hn0 HS0.out).mono ?_; rintro e w' ⟨r0', rfl, F2⟩)
        | (go_at_call 17; with_reducible refine (LDC.toWord_fw (by first | assumption | exact FW.drew (by assumption) | exact FW.drew (FW.box (by assumption) _ _) | exact FW.drew (LDC.st2 (by assumption)) | exact FW.box (by first | assumption | exact FW.drew (by assumption)) _ _ | exact LDC.st2 (by assumption)) x1).mono ?_; rintro e w' ⟨rfl, F3⟩)
        | (go_at_call 16; with_reducible refine (Calls.fwrow (by first | assumption | exact FW.drew (by assumption) | exact FW.drew (FW.box (by assumption) _ _) | exact FW.drew (LDC.st2 (by assumption)) | exact FW.box (by first | assumption | exact FW.drew (by assumption)) _ _ | exact LDC.st2 (by assumption)) List.mem_cons_self (fun h2 => HSS.out _ _ _ h2)).mono ?_; rintro e w' ⟨rfl, F5⟩; try (obtain ⟨zz0, zz1, zz2⟩ := (F5.blk _ List.mem_cons_self).two)))
    all_goals (go_wp2_with fail; go_meet; exact ⟨_, rfl, rfl, FW.none (by first | assumption | exact FW.drew (by assumption) | exact FW.drew (FW.box (by assumption) _ _) | exact FW.drew (LDC.st2 (by assumption)) | exact FW.box (by first | assumption | exact FW.drew (by assumption)) _ _ | exact LDC.st2 (by assumption))⟩)
  case rest =>
  obtain ⟨B, rfl, rfl, F2⟩ := hcut
  clear F1 keepS
  obtain ⟨y0_0, y0_1, y0_2, -⟩ := (F2.blk _ (List.mem_cons_of_mem _ (List.mem_cons_of_mem _ (List.mem_cons_self)))).three
  go_wp2_with fail
  refine (toFixed_fw F2 l0 k0 a0 c0 ws0 hn0 HS0.out).mono ?_
  rintro e w3 ⟨z1, rfl, F3⟩
  clear y0_0 y0_1 y0_2 F2
  have F4 := F3.box #[.int .i8 l0, .int .i8 k0, .slice (some ⟨z1, 0, none⟩) ws0.length ws0.length] 35
  have hz7 : ∀ p ∈ [(z1, ws0)], p ∈ [(z1, ws0)] ∧ ∃ q ∈ ([(w3.heap.size, #[.int .i8 l0, .int .i8 k0, .slice (some ⟨z1, 0, none⟩) ws0.length ws0.length], 35), (B, #[.int .i8 (deV l0 k0 ws0 x1).1, .bool (deV l0 k0 ws0 x1).2], 37), (w.heap.size + 1, #[.int .i8 (x1 0), .int .i8 (x1 1), .int .i8 (x1 2), .int .i8 (x1 3)], 29), (w.heap.size, #[.int .i8 l0, .int .i8 k0, .slice a0 ws0.length c0], 25)] : List (Nat × Array Value × TypeId)), p.1 < q.1 := fun p hp => ⟨hp, _, List.mem_cons_self, by cases hp with | head => exact (F3.row _ List.mem_cons_self).lt | tail _ h => cases h⟩
  replace F4 : FW w _ [(z1, ws0)] _ := F4
  clear F3
  go_upto_region 7 with fail
  generalize hgg : w3.alloc (.cells #[.int .i8 l0, .int .i8 k0, .slice (some ⟨z1, 0, none⟩) ws0.length ws0.length] 35) = w4 at *
  clear hgg
  have keepS : ∀ L R W', FW w L R W' → (∀ q ∈ ([(w3.heap.size, #[.int .i8 l0, .int .i8 k0, .slice (some ⟨z1, 0, none⟩) ws0.length ws0.length], 35), (B, #[.int .i8 (deV l0 k0 ws0 x1).1, .bool (deV l0 k0 ws0 x1).2], 37), (w.heap.size + 1, #[.int .i8 (x1 0), .int .i8 (x1 1), .int .i8 (x1 2), .int .i8 (x1 3)], 29), (w.heap.size, #[.int .i8 l0, .int .i8 k0, .slice a0 ws0.length c0], 25)] : List (Nat × Array Value × TypeId)), q ∈ L) → (W'.cell? ⟨w3.heap.size, 0, none⟩ = some (.int .i8 l0) ∧ W'.cell? ⟨w3.heap.size, 1, none⟩ = some (.int .i8 k0) ∧ W'.cell? ⟨w3.heap.size, 2, none⟩ = some (.slice (some ⟨z1, 0, none⟩) ws0.length ws0.length) ∧ W'.cell? ⟨w.heap.size + 1, 0, none⟩ = some (.int .i8 (x1 0)) ∧ W'.cell? ⟨w.heap.size + 1, 1, none⟩ = some (.int .i8 (x1 1)) ∧ W'.cell? ⟨w.heap.size + 1, 2, none⟩ = some (.int .i8 (x1 2)) ∧ W'.cell? ⟨w.heap.size + 1, 3, none⟩ = some (.int .i8 (x1 3))) := by
    intro L R W' h hs
    exact ⟨(h.blk _ (hs _ (List.mem_cons_self))).cell 0, (h.blk _ (hs _ (List.mem_cons_self))).cell 1, (h.blk _ (hs _ (List.mem_cons_self))).cell 2, (h.blk _ (hs _ (List.mem_cons_of_mem _ (List.mem_cons_of_mem _ (List.mem_cons_self))))).cell 0, (h.blk _ (hs _ (List.mem_cons_of_mem _ (List.mem_cons_of_mem _ (List.mem_cons_self))))).cell 1, (h.blk _ (hs _ (List.mem_cons_of_mem _ (List.mem_cons_of_mem _ (List.mem_cons_self))))).cell 2, (h.blk _ (hs _ (List.mem_cons_of_mem _ (List.mem_cons_of_mem _ (List.mem_cons_self))))).cell 3⟩
  go_cut [9, 10] (fun s1 s2 wx => ∃ Bq, s1 = .pointer (some ⟨Bq, 0, none⟩) ∧ s2 = .int .i64 (deC l0 k0 ws0 x1) ∧ FW w ((Bq, #[.int .i8 (deV l0 k0 ws0 x1).1, .bool (deV l0 k0 ws0 x1).2], 37) :: [(w3.heap.size, #[.int .i8 l0, .int .i8 k0, .slice (some ⟨z1, 0, none⟩) ws0.length ws0.length], 35), (B, #[.int .i8 (deV l0 k0 ws0 x1).1, .bool (deV l0 k0 ws0 x1).2], 37), (w.heap.size + 1, #[.int .i8 (x1 0), .int .i8 (x1 1), .int .i8 (x1 2), .int .i8 (x1 3)], 29), (w.heap.size, #[.int .i8 l0, .int .i8 k0, .slice a0 ws0.length c0], 25)]) [(z1, ws0)] wx)
  case first =>
    go_region_held3 (fun W' => W'.cell? ⟨w3.heap.size, 0, none⟩ = some (.int .i8 l0) ∧ W'.cell? ⟨w3.heap.size, 1, none⟩ = some (.int .i8 k0) ∧ W'.cell? ⟨w3.heap.size, 2, none⟩ = some (.slice (some ⟨z1, 0, none⟩) ws0.length ws0.length) ∧ W'.cell? ⟨w.heap.size + 1, 0, none⟩ = some (.int .i8 (x1 0)) ∧ W'.cell? ⟨w.heap.size + 1, 1, none⟩ = some (.int .i8 (x1 1)) ∧ W'.cell? ⟨w.heap.size + 1, 2, none⟩ = some (.int .i8 (x1 2)) ∧ W'.cell? ⟨w.heap.size + 1, 3, none⟩ = some (.int .i8 (x1 3)))
      (exact keepS _ _ _ (by first | assumption | exact FW.drew (by assumption) | exact FW.drew (FW.box (by assumption) _ _) | exact FW.drew (LDC.st2 (by assumption)) | exact FW.box (by first | assumption | exact FW.drew (by assumption)) _ _ | exact LDC.st2 (by assumption)) (by first | exact fun _ h => h | exact fun _ h => List.mem_cons_of_mem _ h))
      (first
        | (go_at_call 17; with_reducible refine (LDC.toWord_fw (by first | assumption | exact FW.drew (by assumption) | exact FW.drew (FW.box (by assumption) _ _) | exact FW.drew (LDC.st2 (by assumption)) | exact FW.box (by first | assumption | exact FW.drew (by assumption)) _ _ | exact LDC.st2 (by assumption)) x1).mono ?_; rintro e w' ⟨rfl, F5⟩)
        | (go_at_call 18; with_reducible refine (Calls.fwrow (by first | assumption | exact FW.drew (by assumption) | exact FW.drew (FW.box (by assumption) _ _) | exact FW.drew (LDC.st2 (by assumption)) | exact FW.box (by first | assumption | exact FW.drew (by assumption)) _ _ | exact LDC.st2 (by assumption)) List.mem_cons_self (fun h2 => HII.out _ _ _ h2)).mono ?_; rintro e w' ⟨rfl, F7⟩; try (obtain ⟨zz0, zz1, zz2⟩ := (F7.blk _ List.mem_cons_self).two)))
    all_goals (go_wp2_with fail; go_meet; exact ⟨_, rfl, rfl, (by first | assumption | exact FW.drew (by assumption) | exact FW.drew (FW.box (by assumption) _ _) | exact FW.drew (LDC.st2R (by assumption) hz7) | exact FW.box (by first | assumption | exact FW.drew (by assumption)) _ _ | exact LDC.st2R (by assumption) hz7)⟩)
  case rest =>
  obtain ⟨B2, rfl, rfl, F5⟩ := hcut
  clear F4 keepS hz7
  obtain ⟨a0_, a1_, -⟩ := (F5.blk _ (List.mem_cons_self)).two
  obtain ⟨b0_, b1_, -⟩ := (F5.blk _ (List.mem_cons_of_mem _ (List.mem_cons_of_mem _ (List.mem_cons_self)))).two
  go_wp2_with fail
  refine (LDC.eqCase_fw F5 (deV l0 k0 ws0 x1).1 (deV l0 k0 ws0 x1).2).mono ?_
  rintro e w6 ⟨rfl, F6⟩
  clear a0_ a1_ b0_ b1_ F5
  go_wp2_with fail
  have F7 := F6.drew
  go_region_held3 (fun W' => W'.cell? ⟨w3.heap.size, 0, none⟩ = some (.int .i8 l0) ∧ W'.cell? ⟨w3.heap.size, 1, none⟩ = some (.int .i8 k0) ∧ W'.cell? ⟨w3.heap.size, 2, none⟩ = some (.slice (some ⟨z1, 0, none⟩) ws0.length ws0.length) ∧ W'.cell? ⟨w.heap.size, 0, none⟩ = some (.int .i8 l0) ∧ W'.cell? ⟨w.heap.size, 1, none⟩ = some (.int .i8 k0) ∧ W'.cell? ⟨w.heap.size, 2, none⟩ = some (.slice a0 ws0.length c0))
    (first | exact ⟨(F9.blk _ (List.mem_cons_of_mem _ (List.mem_cons_self))).cell 0, (F9.blk _ (List.mem_cons_of_mem _ (List.mem_cons_self))).cell 1, (F9.blk _ (List.mem_cons_of_mem _ (List.mem_cons_self))).cell 2, (F9.blk _ (List.mem_cons_of_mem _ (List.mem_cons_of_mem _ (List.mem_cons_of_mem _ (List.mem_cons_of_mem _ (List.mem_cons_self)))))).cell 0, (F9.blk _ (List.mem_cons_of_mem _ (List.mem_cons_of_mem _ (List.mem_cons_of_mem _ (List.mem_cons_of_mem _ (List.mem_cons_self)))))).cell 1, (F9.blk _ (List.mem_cons_of_mem _ (List.mem_cons_of_mem _ (List.mem_cons_of_mem _ (List.mem_cons_of_mem _ (List.mem_cons_self)))))).cell 2⟩ | exact ⟨(F8.blk _ (List.mem_cons_of_mem _ (List.mem_cons_self))).cell 0, (F8.blk _ (List.mem_cons_of_mem _ (List.mem_cons_self))).cell 1, (F8.blk _ (List.mem_cons_of_mem _ (List.mem_cons_self))).cell 2, (F8.blk _ (List.mem_cons_of_mem _ (List.mem_cons_of_mem _ (List.mem_cons_of_mem _ (List.mem_cons_of_mem _ (List.mem_cons_self)))))).cell 0, (F8.blk _ (List.mem_cons_of_mem _ (List.mem_cons_of_mem _ (List.mem_cons_of_mem _ (List.mem_cons_of_mem _ (List.mem_cons_self)))))).cell 1, (F8.blk _ (List.mem_cons_of_mem _ (List.mem_cons_of_mem _ (List.mem_cons_of_mem _ (List.mem_cons_of_mem _ (List.mem_cons_self)))))).cell 2⟩ | exact ⟨(F7.blk _ (List.mem_cons_of_mem _ (List.mem_cons_self))).cell 0, (F7.blk _ (List.mem_cons_of_mem _ (List.mem_cons_self))).cell 1, (F7.blk _ (List.mem_cons_of_mem _ (List.mem_cons_self))).cell 2, (F7.blk _ (List.mem_cons_of_mem _ (List.mem_cons_of_mem _ (List.mem_cons_of_mem _ (List.mem_cons_of_mem _ (List.mem_cons_self)))))).cell 0, (F7.blk _ (List.mem_cons_of_mem _ (List.mem_cons_of_mem _ (List.mem_cons_of_mem _ (List.mem_cons_of_mem _ (List.mem_cons_self)))))).cell 1, (F7.blk _ (List.mem_cons_of_mem _ (List.mem_cons_of_mem _ (List.mem_cons_of_mem _ (List.mem_cons_of_mem _ (List.mem_cons_self)))))).cell 2⟩)
    (first
      | (go_at_call 11; with_reducible refine (toFixed_fw F7 l0 k0 a0 c0 ws0 hn0 HS0.out).mono ?_; rintro e w8 ⟨y0, rfl, F8⟩)
      | (go_at_call 15; with_reducible refine (eqFixed_fw F8 (List.mem_cons_of_mem _ (List.mem_cons_self)) (List.mem_cons_self) _ _ _ _ hn0).mono ?_; rintro e w9 ⟨rfl, F9⟩))
  clear F7
  clear F8
  go_wp2
  go_ret
  exact ⟨rfl, F9.below⟩
end Go.Proofs.Ytnleblnikcoaiaa
