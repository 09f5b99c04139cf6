/-
  The walks of HalfOf.
-/
import Derived.Test.YtpphhacmlelpmaaZ14
namespace Go.Proofs.Ytpphhacmlelpmaa
open Go.RowKit
set_option maxRecDepth 100000
set_option linter.unusedVariables false

noncomputable def hoX (l : Int) (x : Nat → Int) (i : Nat) : Int := if okS l x = true then halfX x i else 0
noncomputable def hoC (l : Int) (x : Nat → Int) : Int := if okS l x = true then 0 else 1
theorem ho_bad {l : Int} {x : Nat → Int} (h : okS l x = false) : hoX l x = (fun _ => 0) ∧ hoC l x = 1 := by
  unfold hoX hoC; rw [h]; exact ⟨rfl, rfl⟩
theorem ho_good {l : Int} {x : Nat → Int} (h : okS l x = true) : hoX l x = halfX x ∧ hoC l x = 0 := by
  unfold hoX hoC; rw [h]; exact ⟨rfl, rfl⟩
theorem res_specHalfOf {W : World} {b : Nat} {v0 v1 v2 v3 : Value} (K : Blk W b #[v0, v1, v2, v3] 24) (c : Value) (tmps : Array Value) (h4 : tmps.getD 4 undef = .pointer (some ⟨b, 0, none⟩)) (h5 : tmps.getD 5 undef = c) : (results Try.f18 tmps).run Try.prog W = .ok (.tuple #[.agg #[v0, v1, v2, v3], c]) W := by
  have h4' : tmps[4]?.getD undef = .pointer (some ⟨b, 0, none⟩) := by simpa using h4
  have h5' : tmps[5]?.getD undef = c := by simpa using h5
  obtain ⟨e0, e1, e2, e3, -⟩ := K.four
  simp [results, Try.results18, go_sem, e0, e1, e2, e3, h4', h5']
set_option maxHeartbeats 2000000 in
theorem specHalfOf_any (l : Int) (x : Nat → Int) (w : World) (hl : I64 l) (hx : S4 x) :
    Calls Try.prog 18 #[.int .i64 l, staV x] w fun e w' => e = .returned (.tuple #[staV (hoX l x), .int .i64 (hoC l x)]) ∧ Below w.heap.size w w' := by
  have F0 := ((FR.start w).box (staC x) 24).box (staC (fun _ => 0)) 24
  simp only [World.size_alloc] at F0
  have HV := Lib.hid (fun W => l06Valid_any l x W hl hx)
  obtain ⟨c0, c1, c2, c3, -⟩ := (F0.blk _ (List.mem_cons_of_mem _ List.mem_cons_self)).four
  cases h : okS l x
  · obtain ⟨e1, e2⟩ := ho_bad h
    rw [h] at HV
    rw [e1, e2]
    clear e1 e2 h hx
    go_enter Try.func18, Try.ntmps18
    go_wp2_with fail
    refine (HV.out _).mono ?_
    rintro e w2 ⟨rfl, hb⟩
    have F1 := F0.next hb
    clear hb F0 c0 c1 c2 c3
    have k1 := F1.blk _ List.mem_cons_self
    have HR := Lib.hid (Blk.setAll k1 (.int .i64 0) (.int .i64 0) (.int .i64 0) (.int .i64 0))
    have HB := Lib.hid (below_setAll F1.below (show w.heap.size ≤ w.heap.size + 1 by omega) (.int .i64 0) (.int .i64 0) (.int .i64 0) (.int .i64 0))
    obtain ⟨d0, d1, d2, d3, d4⟩ := k1.four
    clear F1 k1
    go_wp2
    exact bodyPost_ret (res_specHalfOf HR.out _ _ rfl rfl) rfl ⟨rfl, HB.out⟩
  obtain ⟨e1, e2⟩ := ho_good h
  rw [h] at HV
  rw [e1, e2]
  have HH := Lib.hid (fun W => l06Half_any x W (okS_t h).sm)
  generalize halfX x = y at *
  clear e1 e2 h hx
  go_enter Try.func18, Try.ntmps18
  go_wp2_with fail
  refine (HV.out _).mono ?_
  rintro e w2 ⟨rfl, hb⟩
  have F1 := F0.next hb
  clear hb F0 c0 c1 c2 c3
  obtain ⟨c0, c1, c2, c3, -⟩ := (F1.blk _ (List.mem_cons_of_mem _ List.mem_cons_self)).four
  go_wp2_with fail
  refine (HH.out _).mono ?_
  rintro e w3 ⟨rfl, hb⟩
  have F2 := F1.next hb
  clear hb F1 c0 c1 c2 c3
  have k1 := F2.blk _ List.mem_cons_self
  have HR := Lib.hid (Blk.setAll k1 (.int .i64 (y 0)) (.int .i64 (y 1)) (.int .i64 (y 2)) (.int .i64 (y 3)))
  have HB := Lib.hid (below_setAll F2.below (show w.heap.size ≤ w.heap.size + 1 by omega) (.int .i64 (y 0)) (.int .i64 (y 1)) (.int .i64 (y 2)) (.int .i64 (y 3)))
  obtain ⟨d0, d1, d2, d3, d4⟩ := k1.four
  clear F2 k1
  go_wp2
  exact bodyPost_ret (res_specHalfOf HR.out _ _ rfl rfl) rfl ⟨rfl, HB.out⟩
theorem res_halfOf {W : World} {b : Nat} {v0 v1 v2 v3 : Value} (K : Blk W b #[v0, v1, v2, v3] 24) (c : Value) (tmps : Array Value) (h4 : tmps.getD 4 undef = .pointer (some ⟨b, 0, none⟩)) (h5 : tmps.getD 5 undef = c) : (results Try.f19 tmps).run Try.prog W = .ok (.tuple #[.agg #[v0, v1, v2, v3], c]) W := by
  have h4' : tmps[4]?.getD undef = .pointer (some ⟨b, 0, none⟩) := by simpa using h4
  have h5' : tmps[5]?.getD undef = c := by simpa using h5
  obtain ⟨e0, e1, e2, e3, -⟩ := K.four
  simp [results, Try.results19, go_sem, e0, e1, e2, e3, h4', h5']
set_option maxHeartbeats 2000000 in
theorem halfOf_any (l : Int) (x : Nat → Int) (w : World) (hl : I64 l) (hx : S4 x) :
    Calls Try.prog 19 #[.int .i64 l, staV x] w fun e w' => e = .returned (.tuple #[staV (hoX l x), .int .i64 (hoC l x)]) ∧ Below w.heap.size w w' := by
  have F0 := ((FR.start w).box (staC x) 24).box (staC (fun _ => 0)) 24
  simp only [World.size_alloc] at F0
  have HV := Lib.hid (fun W => validState_any l x W hl hx)
  obtain ⟨c0, c1, c2, c3, -⟩ := (F0.blk _ (List.mem_cons_of_mem _ List.mem_cons_self)).four
  cases h : okS l x
  · obtain ⟨e1, e2⟩ := ho_bad h
    rw [h] at HV
    rw [e1, e2]
    clear e1 e2 h hx
    go_enter Try.func19, Try.ntmps19
    go_wp2_with fail
    refine (HV.out _).mono ?_
    rintro e w2 ⟨rfl, hb⟩
    have F1 := F0.next hb
    clear hb F0 c0 c1 c2 c3
    have k1 := F1.blk _ List.mem_cons_self
    have HR := Lib.hid (Blk.setAll k1 (.int .i64 0) (.int .i64 0) (.int .i64 0) (.int .i64 0))
    have HB := Lib.hid (below_setAll F1.below (show w.heap.size ≤ w.heap.size + 1 by omega) (.int .i64 0) (.int .i64 0) (.int .i64 0) (.int .i64 0))
    obtain ⟨d0, d1, d2, d3, d4⟩ := k1.four
    clear F1 k1
    go_wp2
    exact bodyPost_ret (res_halfOf HR.out _ _ rfl rfl) rfl ⟨rfl, HB.out⟩
  obtain ⟨e1, e2⟩ := ho_good h
  rw [h] at HV
  rw [e1, e2]
  have HH := Lib.hid (fun W => halfSt_any x W (okS_t h).sm)
  generalize halfX x = y at *
  clear e1 e2 h hx
  go_enter Try.func19, Try.ntmps19
  go_wp2_with fail
  refine (HV.out _).mono ?_
  rintro e w2 ⟨rfl, hb⟩
  have F1 := F0.next hb
  clear hb F0 c0 c1 c2 c3
  obtain ⟨c0, c1, c2, c3, -⟩ := (F1.blk _ (List.mem_cons_of_mem _ List.mem_cons_self)).four
  go_wp2_with fail
  refine (HH.out _).mono ?_
  rintro e w3 ⟨rfl, hb⟩
  have F2 := F1.next hb
  clear hb F1 c0 c1 c2 c3
  have k1 := F2.blk _ List.mem_cons_self
  have HR := Lib.hid (Blk.setAll k1 (.int .i64 (y 0)) (.int .i64 (y 1)) (.int .i64 (y 2)) (.int .i64 (y 3)))
  have HB := Lib.hid (below_setAll F2.below (show w.heap.size ≤ w.heap.size + 1 by omega) (.int .i64 (y 0)) (.int .i64 (y 1)) (.int .i64 (y 2)) (.int .i64 (y 3)))
  obtain ⟨d0, d1, d2, d3, d4⟩ := k1.four
  clear F2 k1
  go_wp2
  exact bodyPost_ret (res_halfOf HR.out _ _ rfl rfl) rfl ⟨rfl, HB.out⟩
end Go.Proofs.Ytpphhacmlelpmaa
