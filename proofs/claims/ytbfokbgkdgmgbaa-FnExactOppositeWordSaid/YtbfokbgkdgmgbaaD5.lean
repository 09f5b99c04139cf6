/-
  OppositeWord, NextWord, MostCoins and their models.
-/
import Derived.Test.YtbfokbgkdgmgbaaD6
namespace Go.Proofs.Ytbfokbgkdgmgbaa
open Go.RowKit
set_option maxRecDepth 100000
set_option linter.unusedVariables false

/-- The opposite word. -/
def opD (x : Nat → Int) (i : Nat) : Int := IntKind.i8.wrap (- x i)
set_option maxHeartbeats 2000000 in
theorem l04Opposite_any (x : Nat → Int) (w : World) (hx : W4 x) :
    Calls Try.prog 37 #[wordV x] w fun e w' => e = .returned (wordV (opD x)) ∧ Below w.heap.size w w' := by
  have F0 := (FR.start w).box (wordC x) 25
  obtain ⟨h0, h1, h2, h3⟩ := hx.quad
  obtain ⟨c0, c1, c2, c3, c4⟩ := (F0.blk _ List.mem_cons_self).four
  clear F0 hx
  go_enter Try.func37, Try.ntmps37
  go_wp2
  refine wp_loop_rounds 5 ?_
  iterate 5 (rw [rounds_succ]; go_wp2)
  exact bodyPost_ret (v := wordV (opD x)) (by simp [results, Try.results37, go_sem]; simp only [opD, and_self]) rfl ⟨rfl, by repeat (first | exact Below.refl _ _ | refine Below.setCell ?_ (by simp <;> omega) _ | refine Below.alloc ?_ (by simp <;> omega) _)⟩
set_option maxHeartbeats 2000000 in
theorem oppositeWord_any (x : Nat → Int) (w : World) (hx : W4 x) :
    Calls Try.prog 18 #[wordV x] w fun e w' => e = .returned (wordV (opD x)) ∧ Below w.heap.size w w' := by
  have F0 := (FR.start w).box (wordC x) 25
  obtain ⟨h0, h1, h2, h3⟩ := hx.quad
  obtain ⟨c0, c1, c2, c3, c4⟩ := (F0.blk _ List.mem_cons_self).four
  clear F0 hx
  go_enter Try.func18, Try.ntmps18
  go_wp2
  refine wp_loop_rounds 5 ?_
  iterate 5 (rw [rounds_succ]; go_wp2)
  exact bodyPost_ret (v := wordV (opD x)) (by simp [results, Try.results18, go_sem]; simp only [opD, and_self]) rfl ⟨rfl, by repeat (first | exact Below.refl _ _ | refine Below.setCell ?_ (by simp <;> omega) _ | refine Below.alloc ?_ (by simp <;> omega) _)⟩
theorem res_specOpposite {W : World} {b : Nat} {x : Nat → Int} (K : Blk W b (wordC x) 25) (tmps : Array Value) (h2 : tmps.getD 2 undef = .pointer (some ⟨b, 0, none⟩)) : (results Try.f17 tmps).run Try.prog W = .ok (wordV x) W := by
  have h2' : tmps[2]?.getD undef = .pointer (some ⟨b, 0, none⟩) := by simpa using h2
  obtain ⟨e0, e1, e2, e3, -⟩ := K.four
  simp [results, Try.results17, go_sem, e0, e1, e2, e3, h2']
theorem specOppositeWord_any (x : Nat → Int) (w : World) (hx : W4 x) :
    Calls Try.prog 17 #[wordV x] w fun e w' => e = .returned (wordV (opD x)) ∧ Below w.heap.size w w' := by
  have F0 := ((FR.start w).box (wordC x) 25).box #[.int .i8 0, .int .i8 0, .int .i8 0, .int .i8 0] 25
  simp only [World.size_alloc] at F0
  have HO := Lib.hid (fun W => l04Opposite_any x W hx)
  clear hx
  obtain ⟨c0, c1, c2, c3, -⟩ := (F0.blk _ (List.mem_cons_of_mem _ List.mem_cons_self)).four
  go_enter Try.func17, Try.ntmps17
  go_wp2_with fail
  refine (HO.out _).mono ?_
  rintro e w2 ⟨rfl, hb⟩
  have F1 := F0.next hb
  have HF := Lib.hid ((((F1.setTop 0 (.int .i8 (opD x 0))).setTop 1 (.int .i8 (opD x 1))).setTop 2 (.int .i8 (opD x 2))).setTop 3 (.int .i8 (opD x 3)))
  obtain ⟨d0, d1, d2, d3, d4⟩ := (F1.blk _ List.mem_cons_self).four
  clear F0 F1 hb c0 c1 c2 c3
  go_wp2
  exact bodyPost_ret (res_specOpposite (x := opD x) (HF.out.blk _ List.mem_cons_self) _ rfl) rfl ⟨rfl, HF.out.below⟩
theorem l04Next_any (v : Int) (w : World) (hv : -1 ≤ v ∧ v ≤ 1) : Calls Try.prog 42 #[.int .i8 v] w fun e w' => e = .returned (.int .i8 (nx1 v)) ∧ w = w' := by
  by_cases h : v = 1
  · rw [nx1_t h]
    subst h
    go_enter Try.func42, Try.ntmps42
    go_wp2
    go_ret
    exact ⟨rfl, rfl⟩
  · rw [nx1_f h]
    have hq : (v == 1) = false := by simpa using h
    clear h
    go_enter Try.func42, Try.ntmps42
    go_wp2
    go_ret
    exact ⟨rfl, rfl⟩
set_option maxHeartbeats 4000000 in
theorem l04NextWord_any (n : Nat) (x : Nat → Int) (w : World) (hn : 1 ≤ n ∧ n ≤ 4) (hx : S4 x) :
    Calls Try.prog 38 #[.int .i64 (n : Int), wordV x] w fun e w' => e = .returned (wordV (nxD n x)) ∧ Below w.heap.size w w' := by
  have F0 := (FR.start w).box (wordC x) 25
  have HN := Lib.hid (fun v W h => l04Next_any v W h)
  obtain ⟨h0, h1, h2, h3⟩ := hx
  obtain ⟨c0, c1, c2, c3, c4⟩ := (F0.blk _ List.mem_cons_self).four
  clear F0
  rcases four_in hn with rfl | rfl | rfl | rfl
  · go_enter Try.func38, Try.ntmps38
    go_wp2
    refine wp_loop_rounds 2 ?_
    rw [rounds_succ]
    go_wp2_with fail
    refine (HN.out (x 0) _ (by omega)).mono ?_
    rintro e w2 ⟨rfl, rfl⟩
    go_wp2
    rw [rounds_succ]
    go_wp2
    exact bodyPost_ret (v := .agg #[.int .i8 (nx1 (x 0)), .int .i8 (x 1), .int .i8 (x 2), .int .i8 (x 3)]) (by simp [results, Try.results38, go_sem]) rfl ⟨rfl, by repeat (first | exact Below.refl _ _ | refine Below.setCell ?_ (by simp <;> omega) _ | refine Below.alloc ?_ (by simp <;> omega) _)⟩
  · go_enter Try.func38, Try.ntmps38
    go_wp2
    refine wp_loop_rounds 3 ?_
    rw [rounds_succ]
    go_wp2_with fail
    refine (HN.out (x 0) _ (by omega)).mono ?_
    rintro e w2 ⟨rfl, rfl⟩
    go_wp2
    rw [rounds_succ]
    go_wp2_with fail
    refine (HN.out (x 1) _ (by omega)).mono ?_
    rintro e w2 ⟨rfl, rfl⟩
    go_wp2
    rw [rounds_succ]
    go_wp2
    exact bodyPost_ret (v := .agg #[.int .i8 (nx1 (x 0)), .int .i8 (nx1 (x 1)), .int .i8 (x 2), .int .i8 (x 3)]) (by simp [results, Try.results38, go_sem]) rfl ⟨rfl, by repeat (first | exact Below.refl _ _ | refine Below.setCell ?_ (by simp <;> omega) _ | refine Below.alloc ?_ (by simp <;> omega) _)⟩
  · go_enter Try.func38, Try.ntmps38
    go_wp2
    refine wp_loop_rounds 4 ?_
    rw [rounds_succ]
    go_wp2_with fail
    refine (HN.out (x 0) _ (by omega)).mono ?_
    rintro e w2 ⟨rfl, rfl⟩
    go_wp2
    rw [rounds_succ]
    go_wp2_with fail
    refine (HN.out (x 1) _ (by omega)).mono ?_
    rintro e w2 ⟨rfl, rfl⟩
    go_wp2
    rw [rounds_succ]
    go_wp2_with fail
    refine (HN.out (x 2) _ (by omega)).mono ?_
    rintro e w2 ⟨rfl, rfl⟩
    go_wp2
    rw [rounds_succ]
    go_wp2
    exact bodyPost_ret (v := .agg #[.int .i8 (nx1 (x 0)), .int .i8 (nx1 (x 1)), .int .i8 (nx1 (x 2)), .int .i8 (x 3)]) (by simp [results, Try.results38, go_sem]) rfl ⟨rfl, by repeat (first | exact Below.refl _ _ | refine Below.setCell ?_ (by simp <;> omega) _ | refine Below.alloc ?_ (by simp <;> omega) _)⟩
  · go_enter Try.func38, Try.ntmps38
    go_wp2
    refine wp_loop_rounds 5 ?_
    rw [rounds_succ]
    go_wp2_with fail
    refine (HN.out (x 0) _ (by omega)).mono ?_
    rintro e w2 ⟨rfl, rfl⟩
    go_wp2
    rw [rounds_succ]
    go_wp2_with fail
    refine (HN.out (x 1) _ (by omega)).mono ?_
    rintro e w2 ⟨rfl, rfl⟩
    go_wp2
    rw [rounds_succ]
    go_wp2_with fail
    refine (HN.out (x 2) _ (by omega)).mono ?_
    rintro e w2 ⟨rfl, rfl⟩
    go_wp2
    rw [rounds_succ]
    go_wp2_with fail
    refine (HN.out (x 3) _ (by omega)).mono ?_
    rintro e w2 ⟨rfl, rfl⟩
    go_wp2
    rw [rounds_succ]
    go_wp2
    exact bodyPost_ret (v := .agg #[.int .i8 (nx1 (x 0)), .int .i8 (nx1 (x 1)), .int .i8 (nx1 (x 2)), .int .i8 (nx1 (x 3))]) (by simp [results, Try.results38, go_sem]) rfl ⟨rfl, by repeat (first | exact Below.refl _ _ | refine Below.setCell ?_ (by simp <;> omega) _ | refine Below.alloc ?_ (by simp <;> omega) _)⟩
noncomputable def nxX (l : Int) (x : Nat → Int) : Nat → Int := if cdD l x = 0 then nxD l.toNat x else quad 0 0 0 0
theorem res_specNextWord {W : World} {b : Nat} {x : Nat → Int} (K : Blk W b (wordC x) 25) (c : Value) (tmps : Array Value) (h4 : tmps.getD 4 undef = .pointer (some ⟨b, 0, none⟩)) (h5 : tmps.getD 5 undef = c) : (results Try.f19 tmps).run Try.prog W = .ok (.tuple #[wordV x, c]) W := by
  have h4' : tmps[4]?.getD undef = .pointer (some ⟨b, 0, none⟩) := by simpa using h4
  have h5' : tmps[5]?.getD undef = c := by simpa using h5
  obtain ⟨e0, e1, e2, e3, -⟩ := K.four
  simp [results, Try.results19, go_sem, e0, e1, e2, e3, h4', h5']
set_option maxHeartbeats 2000000 in
theorem specNextWord_any (l : Int) (x : Nat → Int) (w : World) (hl : -9223372036854775808 ≤ l ∧ l ≤ 9223372036854775807) (hx : W4 x) :
    Calls Try.prog 19 #[.int .i64 l, wordV x] w fun e w' => e = .returned (.tuple #[wordV (nxX l x), .int .i64 (cdD l x)]) ∧ Below w.heap.size w w' := by
  have F0 := ((FR.start w).box (wordC x) 25).box #[.int .i8 0, .int .i8 0, .int .i8 0, .int .i8 0] 25
  simp only [World.size_alloc] at F0
  have HC := Lib.hid (fun W => l04Asked_any l x W hl hx)
  obtain ⟨c0, c1, c2, c3, -⟩ := (F0.blk _ (List.mem_cons_of_mem _ List.mem_cons_self)).four
  by_cases hz : cdD l x = 0
  · obtain ⟨h4, hok⟩ := cdD_zero hz
    have hs := okD_s4 hok
    obtain ⟨n, rfl⟩ : ∃ n : Nat, l = n := ⟨l.toNat, by omega⟩
    have hn : 1 ≤ n ∧ n ≤ 4 := by omega
    have HE := Lib.hid (show nxX (n : Int) x = nxD n x ∧ cdD (n : Int) x = 0 from ⟨by unfold nxX; rw [if_pos hz]; simp, hz⟩)
    rw [hz] at HC
    have HN := Lib.hid (fun W => l04NextWord_any n x W hn hs)
    clear hz hok h4 hl hx hs hn
    go_enter Try.func19, Try.ntmps19
    go_wp2_with fail
    refine (HC.out _).mono ?_
    rintro e w2 ⟨rfl, hb⟩
    have F1 := F0.next hb
    clear hb F0 c0 c1 c2 c3
    obtain ⟨c0, c1, c2, c3, -⟩ := (F1.blk _ (List.mem_cons_of_mem _ List.mem_cons_self)).four
    go_wp2_with fail
    refine (HN.out _).mono ?_
    rintro e w3 ⟨rfl, hb⟩
    have F2 := F1.next hb
    have HF := Lib.hid ((((F2.setTop 0 (.int .i8 (nxD n x 0))).setTop 1 (.int .i8 (nxD n x 1))).setTop 2 (.int .i8 (nxD n x 2))).setTop 3 (.int .i8 (nxD n x 3)))
    obtain ⟨d0, d1, d2, d3, d4⟩ := (F2.blk _ List.mem_cons_self).four
    clear F1 F2 hb c0 c1 c2 c3
    go_wp2
    exact bodyPost_ret (res_specNextWord (x := nxD n x) (HF.out.blk _ List.mem_cons_self) (.int .i64 0) _ rfl rfl) rfl ⟨by rw [HE.out.1, HE.out.2], HF.out.below⟩
  · have HE := Lib.hid (show nxX l x = quad 0 0 0 0 from by unfold nxX; rw [if_neg hz])
    have hne : (cdD l x != 0) = true := by simpa using hz
    generalize cdD l x = c at *
    clear hl hx
    go_enter Try.func19, Try.ntmps19
    go_wp2_with fail
    refine (HC.out _).mono ?_
    rintro e w2 ⟨rfl, hb⟩
    have F1 := F0.next hb
    have HF := Lib.hid ((((F1.setTop 0 (.int .i8 0)).setTop 1 (.int .i8 0)).setTop 2 (.int .i8 0)).setTop 3 (.int .i8 0))
    obtain ⟨d0, d1, d2, d3, d4⟩ := (F1.blk _ List.mem_cons_self).four
    clear hb F0 F1 c0 c1 c2 c3
    go_wp2
    exact bodyPost_ret (res_specNextWord (x := quad 0 0 0 0) (HF.out.blk _ List.mem_cons_self) (.int .i64 c) _ rfl rfl) rfl ⟨by rw [HE.out], HF.out.below⟩
theorem res_nextWord {W : World} {b : Nat} {x : Nat → Int} (K : Blk W b (wordC x) 25) (c : Value) (tmps : Array Value) (h4 : tmps.getD 4 undef = .pointer (some ⟨b, 0, none⟩)) (h5 : tmps.getD 5 undef = c) : (results Try.f20 tmps).run Try.prog W = .ok (.tuple #[wordV x, c]) W := by
  have h4' : tmps[4]?.getD undef = .pointer (some ⟨b, 0, none⟩) := by simpa using h4
  have h5' : tmps[5]?.getD undef = c := by simpa using h5
  obtain ⟨e0, e1, e2, e3, -⟩ := K.four
  simp [results, Try.results20, go_sem, e0, e1, e2, e3, h4', h5']
set_option maxHeartbeats 2000000 in
theorem nextWord_any (l : Int) (x : Nat → Int) (w : World) (hl : -9223372036854775808 ≤ l ∧ l ≤ 9223372036854775807) (hx : W4 x) :
    Calls Try.prog 20 #[.int .i64 l, wordV x] w fun e w' => e = .returned (.tuple #[wordV (nxX l x), .int .i64 (cdD l x)]) ∧ Below w.heap.size w w' := by
  have F0 := ((FR.start w).box (wordC x) 25).box #[.int .i8 0, .int .i8 0, .int .i8 0, .int .i8 0] 25
  simp only [World.size_alloc] at F0
  have HC := Lib.hid (fun W => codeOfWord_any l x W hl hx)
  obtain ⟨c0, c1, c2, c3, -⟩ := (F0.blk _ (List.mem_cons_of_mem _ List.mem_cons_self)).four
  by_cases hz : cdD l x = 0
  · obtain ⟨h4, hok⟩ := cdD_zero hz
    have hs := okD_s4 hok
    obtain ⟨n, rfl⟩ : ∃ n : Nat, l = n := ⟨l.toNat, by omega⟩
    have hn : 1 ≤ n ∧ n ≤ 4 := by omega
    have HE := Lib.hid (show nxX (n : Int) x = nxD n x ∧ cdD (n : Int) x = 0 from ⟨by unfold nxX; rw [if_pos hz]; simp, hz⟩)
    rw [hz] at HC
    have HN := Lib.hid (fun W => turned_any n x W hn hs)
    clear hz hok h4 hl hx hs hn
    go_enter Try.func20, Try.ntmps20
    go_wp2_with fail
    refine (HC.out _).mono ?_
    rintro e w2 ⟨rfl, hb⟩
    have F1 := F0.next hb
    clear hb F0 c0 c1 c2 c3
    obtain ⟨c0, c1, c2, c3, -⟩ := (F1.blk _ (List.mem_cons_of_mem _ List.mem_cons_self)).four
    go_wp2_with fail
    refine (HN.out _).mono ?_
    rintro e w3 ⟨rfl, hb⟩
    have F2 := F1.next hb
    have HF := Lib.hid ((((F2.setTop 0 (.int .i8 (nxD n x 0))).setTop 1 (.int .i8 (nxD n x 1))).setTop 2 (.int .i8 (nxD n x 2))).setTop 3 (.int .i8 (nxD n x 3)))
    obtain ⟨d0, d1, d2, d3, d4⟩ := (F2.blk _ List.mem_cons_self).four
    clear F1 F2 hb c0 c1 c2 c3
    go_wp2
    exact bodyPost_ret (res_nextWord (x := nxD n x) (HF.out.blk _ List.mem_cons_self) (.int .i64 0) _ rfl rfl) rfl ⟨by rw [HE.out.1, HE.out.2], HF.out.below⟩
  · have HE := Lib.hid (show nxX l x = quad 0 0 0 0 from by unfold nxX; rw [if_neg hz])
    have hne : (cdD l x != 0) = true := by simpa using hz
    generalize cdD l x = c at *
    clear hl hx
    go_enter Try.func20, Try.ntmps20
    go_wp2_with fail
    refine (HC.out _).mono ?_
    rintro e w2 ⟨rfl, hb⟩
    have F1 := F0.next hb
    have HF := Lib.hid ((((F1.setTop 0 (.int .i8 0)).setTop 1 (.int .i8 0)).setTop 2 (.int .i8 0)).setTop 3 (.int .i8 0))
    obtain ⟨d0, d1, d2, d3, d4⟩ := (F1.blk _ List.mem_cons_self).four
    clear hb F0 F1 c0 c1 c2 c3
    go_wp2
    exact bodyPost_ret (res_nextWord (x := quad 0 0 0 0) (HF.out.blk _ List.mem_cons_self) (.int .i64 c) _ rfl rfl) rfl ⟨by rw [HE.out], HF.out.below⟩
/-- What MostCoins says. -/
def MoO (l k : Int) : Prop := (1 ≤ l ∧ l ≤ 4) ∧ 0 ≤ k ∧ k ≤ 2
noncomputable def moC (l k : Int) : Int := if cb (MoO l k) = true then 0 else 2
noncomputable def moV (l k : Int) : Int := if cb (MoO l k) = true then (if k = 2 then (p3 l.toNat - 3) / 2 else p3 l.toNat - 1) else 0
theorem l04Kind_any (k : Int) (w : World) : Calls Try.prog 40 #[.int .i64 k] w fun e w' => e = .returned (.bool (inB k 0 2)) ∧ w = w' := by
  have H := Lib.hid (fun W => l00In_any k 0 2 W)
  generalize inB k 0 2 = r at *
  go_enter Try.func40, Try.ntmps40
  go_wp2_with fail
  refine (H.out _).mono ?_
  rintro e w2 ⟨rfl, rfl⟩
  go_wp2
  go_ret
  exact ⟨rfl, rfl⟩
set_option maxHeartbeats 2000000 in
theorem specMostCoins_any (l k : Int) (w : World) (hl : -9223372036854775808 ≤ l ∧ l ≤ 9223372036854775807) (hk : -9223372036854775808 ≤ k ∧ k ≤ 9223372036854775807) :
    Calls Try.prog 21 #[.int .i64 l, .int .i64 k] w fun e w' => e = .returned (.tuple #[.int .i64 (moV l k), .int .i64 (moC l k)]) ∧ Below w.heap.size w w' := by
  have HL := Lib.hid (fun W => l04Letters_any l W)
  have HK := Lib.hid (fun W => l04Kind_any k W)
  by_cases h4 : 1 ≤ l ∧ l ≤ 4
  · rw [show inB l 1 4 = true from cb_t h4] at HL
    by_cases h2 : 0 ≤ k ∧ k ≤ 2
    · rw [show inB k 0 2 = true from cb_t h2] at HK
      have hV : moV l k = if k = 2 then (p3 l.toNat - 3) / 2 else p3 l.toNat - 1 := by unfold moV; rw [if_pos (cb_t (p := MoO l k) ⟨h4, h2⟩)]
      have hC : moC l k = 0 := by unfold moC; rw [if_pos (cb_t (p := MoO l k) ⟨h4, h2⟩)]
      obtain ⟨n, rfl⟩ : ∃ n : Nat, l = n := ⟨l.toNat, by omega⟩
      have hn : 1 ≤ n ∧ n ≤ 4 := by omega
      have HP := Lib.hid (fun W => l03Power_any n W hn.2)
      rw [show ((n : Int)).toNat = n by simp] at hV
      by_cases hk2 : k = 2
      · subst hk2
        rw [if_pos rfl] at hV
        rw [hV, hC]
        clear hV hC h4 h2 hl hk
        rcases four_in hn with rfl | rfl | rfl | rfl
        all_goals
          go_enter Try.func21, Try.ntmps21
          go_wp2_with fail
          refine (HL.out _).mono ?_
          rintro e w2 ⟨rfl, rfl⟩
          go_wp2_with fail
          refine (HK.out _).mono ?_
          rintro e w2 ⟨rfl, rfl⟩
          go_wp2_with fail
          refine (HP.out _).mono ?_
          rintro e w2 ⟨rfl, rfl⟩
          simp only [p3]
          go_wp2
          go_ret2
          exact ⟨rfl, Below.refl _ _⟩
      · rw [if_neg hk2] at hV
        rw [hV, hC]
        have hq : (k == 2) = false := by simpa using hk2
        have hpb := p3_bd n
        generalize p3 n = q at *
        clear hV hC h4 hl hn hk2
        go_enter Try.func21, Try.ntmps21
        go_wp2_with fail
        refine (HL.out _).mono ?_
        rintro e w2 ⟨rfl, rfl⟩
        go_wp2_with fail
        refine (HK.out _).mono ?_
        rintro e w2 ⟨rfl, rfl⟩
        go_wp2_with fail
        refine (HP.out _).mono ?_
        rintro e w2 ⟨rfl, rfl⟩
        go_wp2
        go_ret2
        exact ⟨rfl, Below.refl _ _⟩
    · rw [show inB k 0 2 = false from cb_f h2] at HK
      have hV : moV l k = 0 := by unfold moV; rw [if_neg (by rw [cb_f (p := MoO l k) (fun h => h2 h.2)]; simp)]
      have hC : moC l k = 2 := by unfold moC; rw [if_neg (by rw [cb_f (p := MoO l k) (fun h => h2 h.2)]; simp)]
      rw [hV, hC]
      clear hV hC h4 h2
      go_enter Try.func21, Try.ntmps21
      go_wp2_with fail
      refine (HL.out _).mono ?_
      rintro e w2 ⟨rfl, rfl⟩
      go_wp2_with fail
      refine (HK.out _).mono ?_
      rintro e w2 ⟨rfl, rfl⟩
      go_wp2
      go_ret2
      exact ⟨rfl, Below.refl _ _⟩
  · rw [show inB l 1 4 = false from cb_f h4] at HL
    have hV : moV l k = 0 := by unfold moV; rw [if_neg (by rw [cb_f (p := MoO l k) (fun h => h4 h.1)]; simp)]
    have hC : moC l k = 2 := by unfold moC; rw [if_neg (by rw [cb_f (p := MoO l k) (fun h => h4 h.1)]; simp)]
    rw [hV, hC]
    clear hV hC h4
    go_enter Try.func21, Try.ntmps21
    go_wp2_with fail
    refine (HL.out _).mono ?_
    rintro e w2 ⟨rfl, rfl⟩
    go_wp2
    go_ret2
    exact ⟨rfl, Below.refl _ _⟩
set_option maxHeartbeats 2000000 in
theorem mostCoins_any (l k : Int) (w : World) (hl : -9223372036854775808 ≤ l ∧ l ≤ 9223372036854775807) (hk : -9223372036854775808 ≤ k ∧ k ≤ 9223372036854775807) :
    Calls Try.prog 22 #[.int .i64 l, .int .i64 k] w fun e w' => e = .returned (.tuple #[.int .i64 (moV l k), .int .i64 (moC l k)]) ∧ Below w.heap.size w w' := by
  have HL := Lib.hid (fun W => within_any l 1 4 W)
  have HK := Lib.hid (fun W => within_any k 0 2 W)
  by_cases h4 : 1 ≤ l ∧ l ≤ 4
  · rw [show inB l 1 4 = true from cb_t h4] at HL
    by_cases h2 : 0 ≤ k ∧ k ≤ 2
    · rw [show inB k 0 2 = true from cb_t h2] at HK
      have hV : moV l k = if k = 2 then (p3 l.toNat - 3) / 2 else p3 l.toNat - 1 := by unfold moV; rw [if_pos (cb_t (p := MoO l k) ⟨h4, h2⟩)]
      have hC : moC l k = 0 := by unfold moC; rw [if_pos (cb_t (p := MoO l k) ⟨h4, h2⟩)]
      obtain ⟨n, rfl⟩ : ∃ n : Nat, l = n := ⟨l.toNat, by omega⟩
      have hn : 1 ≤ n ∧ n ≤ 4 := by omega
      have HP := Lib.hid (fun W => countWords_any n W hn.2)
      rw [show ((n : Int)).toNat = n by simp] at hV
      by_cases hk2 : k = 2
      · subst hk2
        rw [if_pos rfl] at hV
        rw [hV, hC]
        clear hV hC h4 h2 hl hk
        rcases four_in hn with rfl | rfl | rfl | rfl
        all_goals
          go_enter Try.func22, Try.ntmps22
          go_wp2_with fail
          refine (HL.out _).mono ?_
          rintro e w2 ⟨rfl, rfl⟩
          go_wp2_with fail
          refine (HK.out _).mono ?_
          rintro e w2 ⟨rfl, rfl⟩
          go_wp2_with fail
          refine (HP.out _).mono ?_
          rintro e w2 ⟨rfl, rfl⟩
          simp only [p3]
          go_wp2
          go_ret2
          exact ⟨rfl, Below.refl _ _⟩
      · rw [if_neg hk2] at hV
        rw [hV, hC]
        have hq : (k == 2) = false := by simpa using hk2
        have hpb := p3_bd n
        generalize p3 n = q at *
        clear hV hC h4 hl hn hk2
        go_enter Try.func22, Try.ntmps22
        go_wp2_with fail
        refine (HL.out _).mono ?_
        rintro e w2 ⟨rfl, rfl⟩
        go_wp2_with fail
        refine (HK.out _).mono ?_
        rintro e w2 ⟨rfl, rfl⟩
        go_wp2_with fail
        refine (HP.out _).mono ?_
        rintro e w2 ⟨rfl, rfl⟩
        go_wp2
        go_ret2
        exact ⟨rfl, Below.refl _ _⟩
    · rw [show inB k 0 2 = false from cb_f h2] at HK
      have hV : moV l k = 0 := by unfold moV; rw [if_neg (by rw [cb_f (p := MoO l k) (fun h => h2 h.2)]; simp)]
      have hC : moC l k = 2 := by unfold moC; rw [if_neg (by rw [cb_f (p := MoO l k) (fun h => h2 h.2)]; simp)]
      rw [hV, hC]
      clear hV hC h4 h2
      go_enter Try.func22, Try.ntmps22
      go_wp2_with fail
      refine (HL.out _).mono ?_
      rintro e w2 ⟨rfl, rfl⟩
      go_wp2_with fail
      refine (HK.out _).mono ?_
      rintro e w2 ⟨rfl, rfl⟩
      go_wp2
      go_ret2
      exact ⟨rfl, Below.refl _ _⟩
  · rw [show inB l 1 4 = false from cb_f h4] at HL
    have hV : moV l k = 0 := by unfold moV; rw [if_neg (by rw [cb_f (p := MoO l k) (fun h => h4 h.1)]; simp)]
    have hC : moC l k = 2 := by unfold moC; rw [if_neg (by rw [cb_f (p := MoO l k) (fun h => h4 h.1)]; simp)]
    rw [hV, hC]
    clear hV hC h4
    go_enter Try.func22, Try.ntmps22
    go_wp2_with fail
    refine (HL.out _).mono ?_
    rintro e w2 ⟨rfl, rfl⟩
    go_wp2
    go_ret2
    exact ⟨rfl, Below.refl _ _⟩
end Go.Proofs.Ytbfokbgkdgmgbaa
