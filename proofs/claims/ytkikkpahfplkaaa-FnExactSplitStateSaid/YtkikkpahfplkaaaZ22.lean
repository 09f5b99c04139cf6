/-
  The walks of SplitState.
-/
import Derived.Test.YtkikkpahfplkaaaZ21
import Derived.Test.YtkikkpahfplkaaaZ20
import Derived.Deep.RegionHeld3
namespace Go.Proofs.Ytkikkpahfplkaaa
open Go.RowKit
set_option maxRecDepth 100000
set_option linter.unusedVariables false

noncomputable def spC (l : Int) (x a : Nat → Int) : Int := if okS l x = true then (if insB x a = true then 0 else 2) else 1
noncomputable def spY (l : Int) (x a : Nat → Int) (i : Nat) : Int := if spC l x a = 0 then stepX l.toNat x a i else 0
noncomputable def spN (l : Int) (x a : Nat → Int) (i : Nat) : Int := if spC l x a = 0 then stepX l.toNat x (restX x a) i else 0
theorem sp_bad {l : Int} {x a : Nat → Int} (h : okS l x = false) : spY l x a = (fun _ => 0) ∧ spN l x a = (fun _ => 0) ∧ spC l x a = 1 := by
  have : spC l x a = 1 := by unfold spC; rw [h]; rfl
  unfold spY spN; rw [this]; exact ⟨rfl, rfl, rfl⟩
theorem sp_far {l : Int} {x a : Nat → Int} (h : okS l x = true) (h2 : insB x a = false) : spY l x a = (fun _ => 0) ∧ spN l x a = (fun _ => 0) ∧ spC l x a = 2 := by
  have : spC l x a = 2 := by unfold spC; rw [h, h2]; rfl
  unfold spY spN; rw [this]; exact ⟨rfl, rfl, rfl⟩
theorem sp_good {l : Int} {x a : Nat → Int} (h : okS l x = true) (h2 : insB x a = true) : spY l x a = stepX l.toNat x a ∧ spN l x a = stepX l.toNat x (restX x a) ∧ spC l x a = 0 := by
  have : spC l x a = 0 := by unfold spC; rw [h, h2]; rfl
  unfold spY spN; rw [this]; exact ⟨rfl, rfl, rfl⟩
theorem res_specSplitState {W : World} {b c : Nat} {v0 v1 v2 v3 u0 u1 u2 u3 : Value} (K : Blk W b #[v0, v1, v2, v3] 23) (K2 : Blk W c #[u0, u1, u2, u3] 23) (d : Value) (tmps : Array Value) (h6 : tmps.getD 6 undef = .pointer (some ⟨b, 0, none⟩)) (h7 : tmps.getD 7 undef = .pointer (some ⟨c, 0, none⟩)) (h8 : tmps.getD 8 undef = d) : (results Try.f4 tmps).run Try.prog W = .ok (.tuple #[.agg #[v0, v1, v2, v3], .agg #[u0, u1, u2, u3], d]) W := by
  have h6' : tmps[6]?.getD undef = .pointer (some ⟨b, 0, none⟩) := by simpa using h6
  have h7' : tmps[7]?.getD undef = .pointer (some ⟨c, 0, none⟩) := by simpa using h7
  have h8' : tmps[8]?.getD undef = d := by simpa using h8
  obtain ⟨e0, e1, e2, e3, -⟩ := K.four
  obtain ⟨d0, d1, d2, d3, -⟩ := K2.four
  simp [results, Try.results4, go_sem, e0, e1, e2, e3, d0, d1, d2, d3, h6', h7', h8']
set_option maxHeartbeats 2000000 in
theorem specSplitState_any (l : Int) (x a : Nat → Int) (w : World) (hl : I64 l) (hx : S4 x) (ha : S4 a) :
    Calls Try.prog 4 #[.int .i64 l, staV x, staV a] w fun e w' => e = .returned (.tuple #[staV (spY l x a), staV (spN l x a), .int .i64 (spC l x a)]) ∧ Below w.heap.size w w' := by
  have F0 := ((((FR.start w).box (staC x) 23).box (staC a) 23).box (staC (fun _ => 0)) 23).box (staC (fun _ => 0)) 23
  simp only [World.size_alloc] at F0
  have HV := Lib.hid (fun W => l06Valid_any l x W hl hx)
  have HW := Lib.hid (fun W => l06Within_any x a W)
  obtain ⟨c0, c1, c2, c3, -⟩ := (F0.blk (w.heap.size, staC x, 23) (by simp)).four
  cases h : okS l x
  · obtain ⟨e1, e2, e3⟩ := sp_bad (a := a) h
    rw [h] at HV
    rw [e1, e2, e3]
    clear e1 e2 e3 h hx ha
    go_enter Try.func4, Try.ntmps4
    go_wp2_with fail
    refine (HV.out _).mono ?_
    rintro e w2 ⟨rfl, hb⟩
    have F1 := F0.next hb
    clear hb F0 c0 c1 c2 c3
    have k2 := F1.blk (w.heap.size + 1 + 1, staC (fun _ => 0), 23) (by simp)
    have k3 := F1.blk (w.heap.size + 1 + 1 + 1, staC (fun _ => 0), 23) (by simp)
    have e2 := k2.setAll (.int .i64 0) (.int .i64 0) (.int .i64 0) (.int .i64 0)
    have e3 := k3.setAllOther (show w.heap.size + 1 + 1 + 1 ≠ w.heap.size + 1 + 1 by omega) (.int .i64 0) (.int .i64 0) (.int .i64 0) (.int .i64 0)
    have H2 := Lib.hid (e2.setAllOther (show w.heap.size + 1 + 1 ≠ w.heap.size + 1 + 1 + 1 by omega) (.int .i64 0) (.int .i64 0) (.int .i64 0) (.int .i64 0))
    have H3 := Lib.hid (e3.setAll (.int .i64 0) (.int .i64 0) (.int .i64 0) (.int .i64 0))
    have HB := Lib.hid (below_setAll (below_setAll F1.below (show w.heap.size ≤ w.heap.size + 1 + 1 by omega) (.int .i64 0) (.int .i64 0) (.int .i64 0) (.int .i64 0)) (show w.heap.size ≤ w.heap.size + 1 + 1 + 1 by omega) (.int .i64 0) (.int .i64 0) (.int .i64 0) (.int .i64 0))
    obtain ⟨g0, g1, g2, g3, g4⟩ := k2.four
    obtain ⟨s0, s1, s2, s3, s4⟩ := k3.four
    dsimp only at g0 g1 g2 g3 g4 s0 s1 s2 s3 s4
    clear F1 e2 e3 k2 k3
    go_wp2
    exact bodyPost_ret (res_specSplitState H2.out H3.out _ _ rfl rfl rfl) rfl ⟨rfl, HB.out⟩
  cases hi : insB x a
  · obtain ⟨e1, e2, e3⟩ := sp_far h hi
    rw [h] at HV
    rw [hi] at HW
    rw [e1, e2, e3]
    clear e1 e2 e3 h hi hx ha
    go_enter Try.func4, Try.ntmps4
    go_wp2_with fail
    refine (HV.out _).mono ?_
    rintro e w2 ⟨rfl, hb⟩
    have F1 := F0.next hb
    clear hb F0 c0 c1 c2 c3
    obtain ⟨c0, c1, c2, c3, -⟩ := (F1.blk (w.heap.size, staC x, 23) (by simp)).four
    obtain ⟨d0, d1, d2, d3, -⟩ := (F1.blk (w.heap.size + 1, staC a, 23) (by simp)).four
    go_wp2_with fail
    refine (HW.out _).mono ?_
    rintro e w3 ⟨rfl, hb⟩
    have F2 := F1.next hb
    clear hb F1 c0 c1 c2 c3 d0 d1 d2 d3
    have k2 := F2.blk (w.heap.size + 1 + 1, staC (fun _ => 0), 23) (by simp)
    have k3 := F2.blk (w.heap.size + 1 + 1 + 1, staC (fun _ => 0), 23) (by simp)
    have e2 := k2.setAll (.int .i64 0) (.int .i64 0) (.int .i64 0) (.int .i64 0)
    have e3 := k3.setAllOther (show w.heap.size + 1 + 1 + 1 ≠ w.heap.size + 1 + 1 by omega) (.int .i64 0) (.int .i64 0) (.int .i64 0) (.int .i64 0)
    have H2 := Lib.hid (e2.setAllOther (show w.heap.size + 1 + 1 ≠ w.heap.size + 1 + 1 + 1 by omega) (.int .i64 0) (.int .i64 0) (.int .i64 0) (.int .i64 0))
    have H3 := Lib.hid (e3.setAll (.int .i64 0) (.int .i64 0) (.int .i64 0) (.int .i64 0))
    have HB := Lib.hid (below_setAll (below_setAll F2.below (show w.heap.size ≤ w.heap.size + 1 + 1 by omega) (.int .i64 0) (.int .i64 0) (.int .i64 0) (.int .i64 0)) (show w.heap.size ≤ w.heap.size + 1 + 1 + 1 by omega) (.int .i64 0) (.int .i64 0) (.int .i64 0) (.int .i64 0))
    obtain ⟨g0, g1, g2, g3, g4⟩ := k2.four
    obtain ⟨s0, s1, s2, s3, s4⟩ := k3.four
    dsimp only at g0 g1 g2 g3 g4 s0 s1 s2 s3 s4
    clear F2 e2 e3 k2 k3
    go_wp2
    exact bodyPost_ret (res_specSplitState H2.out H3.out _ _ rfl rfl rfl) rfl ⟨rfl, HB.out⟩
  obtain ⟨e1, e2, e3⟩ := sp_good h hi
  rw [e1, e2, e3]
  have hO := okS_t h
  obtain ⟨ln, rfl⟩ := Int.eq_ofNat_of_zero_le hO.1.1
  have hO3 := hO.1
  have HS := Lib.hid (fun W => l06Split_any ln x a W hO.sm (of_cb hi) (by omega) (fun j hj h => (hO.2.1 j hj).2 (by omega)))
  rw [h] at HV
  rw [hi] at HW
  rw [show ((ln : Int).toNat) = ln from rfl]
  generalize stepX ln x a = y at *
  generalize stepX ln x (restX x a) = n at *
  clear e1 e2 e3 h hi hx ha hO hl hO3
  go_enter Try.func4, Try.ntmps4
  go_wp2_with fail
  refine (HV.out _).mono ?_
  rintro e w2 ⟨rfl, hb⟩
  have F1 := F0.next hb
  clear hb F0 c0 c1 c2 c3
  obtain ⟨c0, c1, c2, c3, -⟩ := (F1.blk (w.heap.size, staC x, 23) (by simp)).four
  obtain ⟨d0, d1, d2, d3, -⟩ := (F1.blk (w.heap.size + 1, staC a, 23) (by simp)).four
  go_wp2_with fail
  refine (HW.out _).mono ?_
  rintro e w3 ⟨rfl, hb⟩
  have F2 := F1.next hb
  clear hb F1 c0 c1 c2 c3 d0 d1 d2 d3
  obtain ⟨c0, c1, c2, c3, -⟩ := (F2.blk (w.heap.size, staC x, 23) (by simp)).four
  obtain ⟨d0, d1, d2, d3, -⟩ := (F2.blk (w.heap.size + 1, staC a, 23) (by simp)).four
  go_wp2_with fail
  refine (HS.out _).mono ?_
  rintro e w4 ⟨rfl, hb⟩
  have F3 := ((F2.next hb).box (staC y) 23).box (staC n) 23
  simp only [World.size_alloc] at F3
  have z0 := ((F2.next hb).blk (w.heap.size + 1 + 1 + 1, staC (fun _ => 0), 23) (by simp)).lt
  dsimp only at z0
  clear hb F2 c0 c1 c2 c3 d0 d1 d2 d3
  go_wp2_with fail
  generalize (w4.alloc (Obj.cells (staC y) 23)).alloc (Obj.cells (staC n) 23) = w5 at *
  generalize w4.heap.size = g at *
  have k2 := F3.blk (w.heap.size + 1 + 1, staC (fun _ => 0), 23) (by simp)
  have k3 := F3.blk (w.heap.size + 1 + 1 + 1, staC (fun _ => 0), 23) (by simp)
  have k4 := F3.blk _ (List.mem_cons_of_mem _ List.mem_cons_self)
  have k5 := F3.blk _ List.mem_cons_self
  have e2 := k2.setAll (.int .i64 (y 0)) (.int .i64 (y 1)) (.int .i64 (y 2)) (.int .i64 (y 3))
  have e3 := k3.setAllOther (show w.heap.size + 1 + 1 + 1 ≠ w.heap.size + 1 + 1 by omega) (.int .i64 (y 0)) (.int .i64 (y 1)) (.int .i64 (y 2)) (.int .i64 (y 3))
  have H2 := Lib.hid (e2.setAllOther (show w.heap.size + 1 + 1 ≠ w.heap.size + 1 + 1 + 1 by omega) (.int .i64 (n 0)) (.int .i64 (n 1)) (.int .i64 (n 2)) (.int .i64 (n 3)))
  have H3 := Lib.hid (e3.setAll (.int .i64 (n 0)) (.int .i64 (n 1)) (.int .i64 (n 2)) (.int .i64 (n 3)))
  have HB := Lib.hid (below_setAll (below_setAll F3.below (show w.heap.size ≤ w.heap.size + 1 + 1 by omega) (.int .i64 (y 0)) (.int .i64 (y 1)) (.int .i64 (y 2)) (.int .i64 (y 3))) (show w.heap.size ≤ w.heap.size + 1 + 1 + 1 by omega) (.int .i64 (n 0)) (.int .i64 (n 1)) (.int .i64 (n 2)) (.int .i64 (n 3)))
  obtain ⟨g0, g1, g2, g3, g4⟩ := k2.four
  obtain ⟨s0, s1, s2, s3, s4⟩ := k3.four
  dsimp only at g0 g1 g2 g3 g4 s0 s1 s2 s3 s4 k4 k5
  have n4 : g ≠ w.heap.size + 1 + 1 := by omega
  have n5 : g + 1 ≠ w.heap.size + 1 + 1 := by omega
  have n6 : g ≠ w.heap.size + 1 + 1 + 1 := by omega
  have n7 : g + 1 ≠ w.heap.size + 1 + 1 + 1 := by omega
  clear F3 e2 e3 k2 k3
  go_region_held3 (fun w' => w'.cell? ⟨g, 0, none⟩ = some (.int .i64 (y 0)) ∧ w'.cell? ⟨g, 1, none⟩ = some (.int .i64 (y 1)) ∧ w'.cell? ⟨g, 2, none⟩ = some (.int .i64 (y 2)) ∧ w'.cell? ⟨g, 3, none⟩ = some (.int .i64 (y 3)) ∧ w'.cell? ⟨g + 1, 0, none⟩ = some (.int .i64 (n 0)) ∧ w'.cell? ⟨g + 1, 1, none⟩ = some (.int .i64 (n 1)) ∧ w'.cell? ⟨g + 1, 2, none⟩ = some (.int .i64 (n 2)) ∧ w'.cell? ⟨g + 1, 3, none⟩ = some (.int .i64 (n 3)))
    (first
      | with_reducible exact spl8 k4.drew k5.drew
      | with_reducible exact spl8 (k4.setAllOther n4 _ _ _ _).drew (k5.setAllOther n5 _ _ _ _).drew
      | with_reducible exact spl8 ((k4.setAllOther n4 _ _ _ _).setAllOther n6 _ _ _ _).drew ((k5.setAllOther n5 _ _ _ _).setAllOther n7 _ _ _ _).drew)
    (first | fail)
  clear k4 k5 g0 g1 g2 g3 g4 s0 s1 s2 s3 s4
  go_wp2
  exact bodyPost_ret (res_specSplitState H2.out.drew H3.out.drew _ _ rfl rfl rfl) rfl ⟨rfl, HB.out.drew⟩
theorem res_splitState {W : World} {b c : Nat} {v0 v1 v2 v3 u0 u1 u2 u3 : Value} (K : Blk W b #[v0, v1, v2, v3] 23) (K2 : Blk W c #[u0, u1, u2, u3] 23) (d : Value) (tmps : Array Value) (h6 : tmps.getD 6 undef = .pointer (some ⟨b, 0, none⟩)) (h7 : tmps.getD 7 undef = .pointer (some ⟨c, 0, none⟩)) (h8 : tmps.getD 8 undef = d) : (results Try.f6 tmps).run Try.prog W = .ok (.tuple #[.agg #[v0, v1, v2, v3], .agg #[u0, u1, u2, u3], d]) W := by
  have h6' : tmps[6]?.getD undef = .pointer (some ⟨b, 0, none⟩) := by simpa using h6
  have h7' : tmps[7]?.getD undef = .pointer (some ⟨c, 0, none⟩) := by simpa using h7
  have h8' : tmps[8]?.getD undef = d := by simpa using h8
  obtain ⟨e0, e1, e2, e3, -⟩ := K.four
  obtain ⟨d0, d1, d2, d3, -⟩ := K2.four
  simp [results, Try.results6, go_sem, e0, e1, e2, e3, d0, d1, d2, d3, h6', h7', h8']
set_option maxHeartbeats 2000000 in
theorem splitState_any (l : Int) (x a : Nat → Int) (w : World) (hl : I64 l) (hx : S4 x) (ha : S4 a) :
    Calls Try.prog 6 #[.int .i64 l, staV x, staV a] w fun e w' => e = .returned (.tuple #[staV (spY l x a), staV (spN l x a), .int .i64 (spC l x a)]) ∧ Below w.heap.size w w' := by
  have F0 := ((((FR.start w).box (staC x) 23).box (staC a) 23).box (staC (fun _ => 0)) 23).box (staC (fun _ => 0)) 23
  simp only [World.size_alloc] at F0
  have HV := Lib.hid (fun W => validState_any l x W hl hx)
  have HW := Lib.hid (fun W => hasAsk_any x a W)
  obtain ⟨c0, c1, c2, c3, -⟩ := (F0.blk (w.heap.size, staC x, 23) (by simp)).four
  cases h : okS l x
  · obtain ⟨e1, e2, e3⟩ := sp_bad (a := a) h
    rw [h] at HV
    rw [e1, e2, e3]
    clear e1 e2 e3 h hx ha
    go_enter Try.func6, Try.ntmps6
    go_wp2_with fail
    refine (HV.out _).mono ?_
    rintro e w2 ⟨rfl, hb⟩
    have F1 := F0.next hb
    clear hb F0 c0 c1 c2 c3
    have k2 := F1.blk (w.heap.size + 1 + 1, staC (fun _ => 0), 23) (by simp)
    have k3 := F1.blk (w.heap.size + 1 + 1 + 1, staC (fun _ => 0), 23) (by simp)
    have e2 := k2.setAll (.int .i64 0) (.int .i64 0) (.int .i64 0) (.int .i64 0)
    have e3 := k3.setAllOther (show w.heap.size + 1 + 1 + 1 ≠ w.heap.size + 1 + 1 by omega) (.int .i64 0) (.int .i64 0) (.int .i64 0) (.int .i64 0)
    have H2 := Lib.hid (e2.setAllOther (show w.heap.size + 1 + 1 ≠ w.heap.size + 1 + 1 + 1 by omega) (.int .i64 0) (.int .i64 0) (.int .i64 0) (.int .i64 0))
    have H3 := Lib.hid (e3.setAll (.int .i64 0) (.int .i64 0) (.int .i64 0) (.int .i64 0))
    have HB := Lib.hid (below_setAll (below_setAll F1.below (show w.heap.size ≤ w.heap.size + 1 + 1 by omega) (.int .i64 0) (.int .i64 0) (.int .i64 0) (.int .i64 0)) (show w.heap.size ≤ w.heap.size + 1 + 1 + 1 by omega) (.int .i64 0) (.int .i64 0) (.int .i64 0) (.int .i64 0))
    obtain ⟨g0, g1, g2, g3, g4⟩ := k2.four
    obtain ⟨s0, s1, s2, s3, s4⟩ := k3.four
    dsimp only at g0 g1 g2 g3 g4 s0 s1 s2 s3 s4
    clear F1 e2 e3 k2 k3
    go_wp2
    exact bodyPost_ret (res_splitState H2.out H3.out _ _ rfl rfl rfl) rfl ⟨rfl, HB.out⟩
  cases hi : insB x a
  · obtain ⟨e1, e2, e3⟩ := sp_far h hi
    rw [h] at HV
    rw [hi] at HW
    rw [e1, e2, e3]
    clear e1 e2 e3 h hi hx ha
    go_enter Try.func6, Try.ntmps6
    go_wp2_with fail
    refine (HV.out _).mono ?_
    rintro e w2 ⟨rfl, hb⟩
    have F1 := F0.next hb
    clear hb F0 c0 c1 c2 c3
    obtain ⟨c0, c1, c2, c3, -⟩ := (F1.blk (w.heap.size, staC x, 23) (by simp)).four
    obtain ⟨d0, d1, d2, d3, -⟩ := (F1.blk (w.heap.size + 1, staC a, 23) (by simp)).four
    go_wp2_with fail
    refine (HW.out _).mono ?_
    rintro e w3 ⟨rfl, hb⟩
    have F2 := F1.next hb
    clear hb F1 c0 c1 c2 c3 d0 d1 d2 d3
    have k2 := F2.blk (w.heap.size + 1 + 1, staC (fun _ => 0), 23) (by simp)
    have k3 := F2.blk (w.heap.size + 1 + 1 + 1, staC (fun _ => 0), 23) (by simp)
    have e2 := k2.setAll (.int .i64 0) (.int .i64 0) (.int .i64 0) (.int .i64 0)
    have e3 := k3.setAllOther (show w.heap.size + 1 + 1 + 1 ≠ w.heap.size + 1 + 1 by omega) (.int .i64 0) (.int .i64 0) (.int .i64 0) (.int .i64 0)
    have H2 := Lib.hid (e2.setAllOther (show w.heap.size + 1 + 1 ≠ w.heap.size + 1 + 1 + 1 by omega) (.int .i64 0) (.int .i64 0) (.int .i64 0) (.int .i64 0))
    have H3 := Lib.hid (e3.setAll (.int .i64 0) (.int .i64 0) (.int .i64 0) (.int .i64 0))
    have HB := Lib.hid (below_setAll (below_setAll F2.below (show w.heap.size ≤ w.heap.size + 1 + 1 by omega) (.int .i64 0) (.int .i64 0) (.int .i64 0) (.int .i64 0)) (show w.heap.size ≤ w.heap.size + 1 + 1 + 1 by omega) (.int .i64 0) (.int .i64 0) (.int .i64 0) (.int .i64 0))
    obtain ⟨g0, g1, g2, g3, g4⟩ := k2.four
    obtain ⟨s0, s1, s2, s3, s4⟩ := k3.four
    dsimp only at g0 g1 g2 g3 g4 s0 s1 s2 s3 s4
    clear F2 e2 e3 k2 k3
    go_wp2
    exact bodyPost_ret (res_splitState H2.out H3.out _ _ rfl rfl rfl) rfl ⟨rfl, HB.out⟩
  obtain ⟨e1, e2, e3⟩ := sp_good h hi
  rw [e1, e2, e3]
  have hO := okS_t h
  obtain ⟨ln, rfl⟩ := Int.eq_ofNat_of_zero_le hO.1.1
  have hO3 := hO.1
  have HS := Lib.hid (fun W => split_any ln x a W hO.sm (of_cb hi) (by omega))
  rw [h] at HV
  rw [hi] at HW
  rw [show ((ln : Int).toNat) = ln from rfl]
  generalize stepX ln x a = y at *
  generalize stepX ln x (restX x a) = n at *
  clear e1 e2 e3 h hi hx ha hO hl hO3
  go_enter Try.func6, Try.ntmps6
  go_wp2_with fail
  refine (HV.out _).mono ?_
  rintro e w2 ⟨rfl, hb⟩
  have F1 := F0.next hb
  clear hb F0 c0 c1 c2 c3
  obtain ⟨c0, c1, c2, c3, -⟩ := (F1.blk (w.heap.size, staC x, 23) (by simp)).four
  obtain ⟨d0, d1, d2, d3, -⟩ := (F1.blk (w.heap.size + 1, staC a, 23) (by simp)).four
  go_wp2_with fail
  refine (HW.out _).mono ?_
  rintro e w3 ⟨rfl, hb⟩
  have F2 := F1.next hb
  clear hb F1 c0 c1 c2 c3 d0 d1 d2 d3
  obtain ⟨c0, c1, c2, c3, -⟩ := (F2.blk (w.heap.size, staC x, 23) (by simp)).four
  obtain ⟨d0, d1, d2, d3, -⟩ := (F2.blk (w.heap.size + 1, staC a, 23) (by simp)).four
  go_wp2_with fail
  refine (HS.out _).mono ?_
  rintro e w4 ⟨rfl, hb⟩
  have F3 := ((F2.next hb).box (staC y) 23).box (staC n) 23
  simp only [World.size_alloc] at F3
  have z0 := ((F2.next hb).blk (w.heap.size + 1 + 1 + 1, staC (fun _ => 0), 23) (by simp)).lt
  dsimp only at z0
  clear hb F2 c0 c1 c2 c3 d0 d1 d2 d3
  go_wp2_with fail
  generalize (w4.alloc (Obj.cells (staC y) 23)).alloc (Obj.cells (staC n) 23) = w5 at *
  generalize w4.heap.size = g at *
  have k2 := F3.blk (w.heap.size + 1 + 1, staC (fun _ => 0), 23) (by simp)
  have k3 := F3.blk (w.heap.size + 1 + 1 + 1, staC (fun _ => 0), 23) (by simp)
  have k4 := F3.blk _ (List.mem_cons_of_mem _ List.mem_cons_self)
  have k5 := F3.blk _ List.mem_cons_self
  have e2 := k2.setAll (.int .i64 (y 0)) (.int .i64 (y 1)) (.int .i64 (y 2)) (.int .i64 (y 3))
  have e3 := k3.setAllOther (show w.heap.size + 1 + 1 + 1 ≠ w.heap.size + 1 + 1 by omega) (.int .i64 (y 0)) (.int .i64 (y 1)) (.int .i64 (y 2)) (.int .i64 (y 3))
  have H2 := Lib.hid (e2.setAllOther (show w.heap.size + 1 + 1 ≠ w.heap.size + 1 + 1 + 1 by omega) (.int .i64 (n 0)) (.int .i64 (n 1)) (.int .i64 (n 2)) (.int .i64 (n 3)))
  have H3 := Lib.hid (e3.setAll (.int .i64 (n 0)) (.int .i64 (n 1)) (.int .i64 (n 2)) (.int .i64 (n 3)))
  have HB := Lib.hid (below_setAll (below_setAll F3.below (show w.heap.size ≤ w.heap.size + 1 + 1 by omega) (.int .i64 (y 0)) (.int .i64 (y 1)) (.int .i64 (y 2)) (.int .i64 (y 3))) (show w.heap.size ≤ w.heap.size + 1 + 1 + 1 by omega) (.int .i64 (n 0)) (.int .i64 (n 1)) (.int .i64 (n 2)) (.int .i64 (n 3)))
  obtain ⟨g0, g1, g2, g3, g4⟩ := k2.four
  obtain ⟨s0, s1, s2, s3, s4⟩ := k3.four
  dsimp only at g0 g1 g2 g3 g4 s0 s1 s2 s3 s4 k4 k5
  have n4 : g ≠ w.heap.size + 1 + 1 := by omega
  have n5 : g + 1 ≠ w.heap.size + 1 + 1 := by omega
  have n6 : g ≠ w.heap.size + 1 + 1 + 1 := by omega
  have n7 : g + 1 ≠ w.heap.size + 1 + 1 + 1 := by omega
  clear F3 e2 e3 k2 k3
  go_region_held3 (fun w' => w'.cell? ⟨g, 0, none⟩ = some (.int .i64 (y 0)) ∧ w'.cell? ⟨g, 1, none⟩ = some (.int .i64 (y 1)) ∧ w'.cell? ⟨g, 2, none⟩ = some (.int .i64 (y 2)) ∧ w'.cell? ⟨g, 3, none⟩ = some (.int .i64 (y 3)) ∧ w'.cell? ⟨g + 1, 0, none⟩ = some (.int .i64 (n 0)) ∧ w'.cell? ⟨g + 1, 1, none⟩ = some (.int .i64 (n 1)) ∧ w'.cell? ⟨g + 1, 2, none⟩ = some (.int .i64 (n 2)) ∧ w'.cell? ⟨g + 1, 3, none⟩ = some (.int .i64 (n 3)))
    (first
      | with_reducible exact spl8 k4.drew k5.drew
      | with_reducible exact spl8 (k4.setAllOther n4 _ _ _ _).drew (k5.setAllOther n5 _ _ _ _).drew
      | with_reducible exact spl8 ((k4.setAllOther n4 _ _ _ _).setAllOther n6 _ _ _ _).drew ((k5.setAllOther n5 _ _ _ _).setAllOther n7 _ _ _ _).drew)
    (first | fail)
  clear k4 k5 g0 g1 g2 g3 g4 s0 s1 s2 s3 s4
  go_wp2
  exact bodyPost_ret (res_splitState H2.out.drew H3.out.drew _ _ rfl rfl rfl) rfl ⟨rfl, HB.out.drew⟩
end Go.Proofs.Ytkikkpahfplkaaa
