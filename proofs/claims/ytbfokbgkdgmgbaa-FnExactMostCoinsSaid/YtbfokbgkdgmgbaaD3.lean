/-
  Numbers of words: the powers of three, WordAt and NumberOfWord, and their models.
-/
import Derived.Test.YtbfokbgkdgmgbaaD2
namespace Go.Proofs.Ytbfokbgkdgmgbaa
open Go.RowKit
set_option maxRecDepth 100000
set_option linter.unusedVariables false

def p3 (n : Nat) : Int := match n with | 0 => 1 | 1 => 3 | 2 => 9 | 3 => 27 | _ => 81
theorem five_of {n : Nat} (h : n ≤ 4) : n = 0 ∨ n = 1 ∨ n = 2 ∨ n = 3 ∨ n = 4 := by omega
theorem four_in {n : Nat} (h : 1 ≤ n ∧ n ≤ 4) : n = 1 ∨ n = 2 ∨ n = 3 ∨ n = 4 := by omega
theorem l03Power_any (n : Nat) (w : World) (h : n ≤ 4) : Calls Try.prog 30 #[.int .i64 (n : Int)] w fun e w' => e = .returned (.int .i64 (p3 n)) ∧ w = w' := by
  rcases five_of h with rfl | rfl | rfl | rfl | rfl
  · go_enter Try.func30, Try.ntmps30
    go_wp2
    refine wp_loop_rounds 1 ?_
    iterate 1 (rw [rounds_succ]; go_wp2)
    go_ret
    exact ⟨rfl, rfl⟩
  · go_enter Try.func30, Try.ntmps30
    go_wp2
    refine wp_loop_rounds 2 ?_
    iterate 2 (rw [rounds_succ]; go_wp2)
    go_ret
    exact ⟨rfl, rfl⟩
  · go_enter Try.func30, Try.ntmps30
    go_wp2
    refine wp_loop_rounds 3 ?_
    iterate 3 (rw [rounds_succ]; go_wp2)
    go_ret
    exact ⟨rfl, rfl⟩
  · go_enter Try.func30, Try.ntmps30
    go_wp2
    refine wp_loop_rounds 4 ?_
    iterate 4 (rw [rounds_succ]; go_wp2)
    go_ret
    exact ⟨rfl, rfl⟩
  · go_enter Try.func30, Try.ntmps30
    go_wp2
    refine wp_loop_rounds 5 ?_
    iterate 5 (rw [rounds_succ]; go_wp2)
    go_ret
    exact ⟨rfl, rfl⟩
theorem countWords_any (n : Nat) (w : World) (h : n ≤ 4) : Calls Try.prog 32 #[.int .i64 (n : Int)] w fun e w' => e = .returned (.int .i64 (p3 n)) ∧ w = w' := by
  rcases five_of h with rfl | rfl | rfl | rfl | rfl
  · go_enter Try.func32, Try.ntmps32
    go_wp2
    refine wp_loop_rounds 1 ?_
    iterate 1 (rw [rounds_succ]; go_wp2)
    go_ret
    exact ⟨rfl, rfl⟩
  · go_enter Try.func32, Try.ntmps32
    go_wp2
    refine wp_loop_rounds 2 ?_
    iterate 2 (rw [rounds_succ]; go_wp2)
    go_ret
    exact ⟨rfl, rfl⟩
  · go_enter Try.func32, Try.ntmps32
    go_wp2
    refine wp_loop_rounds 3 ?_
    iterate 3 (rw [rounds_succ]; go_wp2)
    go_ret
    exact ⟨rfl, rfl⟩
  · go_enter Try.func32, Try.ntmps32
    go_wp2
    refine wp_loop_rounds 4 ?_
    iterate 4 (rw [rounds_succ]; go_wp2)
    go_ret
    exact ⟨rfl, rfl⟩
  · go_enter Try.func32, Try.ntmps32
    go_wp2
    refine wp_loop_rounds 5 ?_
    iterate 5 (rw [rounds_succ]; go_wp2)
    go_ret
    exact ⟨rfl, rfl⟩
theorem tm3 (n : Int) (h : 0 ≤ n ∧ n ≤ 80) : (0 ≤ n.tmod 3 ∧ n.tmod 3 ≤ 2) ∧ 0 ≤ n.tdiv 3 ∧ n.tdiv 3 ≤ 80 := by
  rw [Int.tmod_eq_emod_of_nonneg h.1, Int.tdiv_eq_ediv_of_nonneg h.1]; omega
/-- The letters of the word with a number. -/
def dgs (l : Nat) (n : Int) : Nat → Int := match l with
  | 1 => quad (n.tmod 3 - 1) 0 0 0
  | 2 => quad ((n.tdiv 3).tmod 3 - 1) (n.tmod 3 - 1) 0 0
  | 3 => quad (((n.tdiv 3).tdiv 3).tmod 3 - 1) ((n.tdiv 3).tmod 3 - 1) (n.tmod 3 - 1) 0
  | _ => quad ((((n.tdiv 3).tdiv 3).tdiv 3).tmod 3 - 1) (((n.tdiv 3).tdiv 3).tmod 3 - 1) ((n.tdiv 3).tmod 3 - 1) (n.tmod 3 - 1)
set_option maxHeartbeats 2000000 in
theorem l04At_any (l : Nat) (n : Int) (w : World) (hl : 1 ≤ l ∧ l ≤ 4) (hn : 0 ≤ n ∧ n ≤ 80) : Calls Try.prog 31 #[.int .i64 (l : Int), .int .i64 n] w fun e w' => e = .returned (wordV (dgs l n)) ∧ Below w.heap.size w w' := by
  obtain ⟨⟨b0, b0'⟩, q1⟩ := tm3 n hn
  obtain ⟨⟨b1, b1'⟩, q2⟩ := tm3 _ q1
  obtain ⟨⟨b2, b2'⟩, q3⟩ := tm3 _ q2
  obtain ⟨⟨b3, b3'⟩, q4⟩ := tm3 _ q3
  have hE1 : dgs 1 n = quad (n.tmod 3 - 1) 0 0 0 := rfl
  have hE2 : dgs 2 n = quad ((n.tdiv 3).tmod 3 - 1) (n.tmod 3 - 1) 0 0 := rfl
  have hE3 : dgs 3 n = quad (((n.tdiv 3).tdiv 3).tmod 3 - 1) ((n.tdiv 3).tmod 3 - 1) (n.tmod 3 - 1) 0 := rfl
  have hE4 : dgs 4 n = quad ((((n.tdiv 3).tdiv 3).tdiv 3).tmod 3 - 1) (((n.tdiv 3).tdiv 3).tmod 3 - 1) ((n.tdiv 3).tmod 3 - 1) (n.tmod 3 - 1) := rfl
  obtain ⟨n0, rfl⟩ : ∃ m, m = n := ⟨_, rfl⟩
  generalize hd3 : (((n0.tdiv 3).tdiv 3).tdiv 3).tmod 3 = d3 at *
  generalize hd2 : ((n0.tdiv 3).tdiv 3).tmod 3 = d2 at *
  generalize hd1 : (n0.tdiv 3).tmod 3 = d1 at *
  generalize hd0 : n0.tmod 3 = d0 at *
  generalize hq3 : ((n0.tdiv 3).tdiv 3).tdiv 3 = n3 at *
  generalize hq2 : (n0.tdiv 3).tdiv 3 = n2 at *
  generalize hq1 : n0.tdiv 3 = n1 at *
  rcases four_in hl with rfl | rfl | rfl | rfl
  · rw [hE1]
    clear hE1 hE2 hE3 hE4
    go_enter Try.func31, Try.ntmps31
    go_wp2
    refine wp_loop_rounds 2 ?_
    iterate 2 (rw [rounds_succ]; go_wp2)
    exact bodyPost_ret (v := .agg #[.int .i8 (d0 - 1), .int .i8 (0), .int .i8 (0), .int .i8 (0)]) (by simp [results, Try.results31, go_sem]) rfl ⟨rfl, by repeat (first | exact Below.refl _ _ | refine Below.setCell ?_ (by simp <;> omega) _ | refine Below.alloc ?_ (by simp <;> omega) _)⟩
  · rw [hE2]
    clear hE1 hE2 hE3 hE4
    go_enter Try.func31, Try.ntmps31
    go_wp2
    refine wp_loop_rounds 3 ?_
    iterate 3 (rw [rounds_succ]; go_wp2)
    exact bodyPost_ret (v := .agg #[.int .i8 (d1 - 1), .int .i8 (d0 - 1), .int .i8 (0), .int .i8 (0)]) (by simp [results, Try.results31, go_sem]) rfl ⟨rfl, by repeat (first | exact Below.refl _ _ | refine Below.setCell ?_ (by simp <;> omega) _ | refine Below.alloc ?_ (by simp <;> omega) _)⟩
  · rw [hE3]
    clear hE1 hE2 hE3 hE4
    go_enter Try.func31, Try.ntmps31
    go_wp2
    refine wp_loop_rounds 4 ?_
    iterate 4 (rw [rounds_succ]; go_wp2)
    exact bodyPost_ret (v := .agg #[.int .i8 (d2 - 1), .int .i8 (d1 - 1), .int .i8 (d0 - 1), .int .i8 (0)]) (by simp [results, Try.results31, go_sem]) rfl ⟨rfl, by repeat (first | exact Below.refl _ _ | refine Below.setCell ?_ (by simp <;> omega) _ | refine Below.alloc ?_ (by simp <;> omega) _)⟩
  · rw [hE4]
    clear hE1 hE2 hE3 hE4
    go_enter Try.func31, Try.ntmps31
    go_wp2
    refine wp_loop_rounds 5 ?_
    iterate 5 (rw [rounds_succ]; go_wp2)
    exact bodyPost_ret (v := .agg #[.int .i8 (d3 - 1), .int .i8 (d2 - 1), .int .i8 (d1 - 1), .int .i8 (d0 - 1)]) (by simp [results, Try.results31, go_sem]) rfl ⟨rfl, by repeat (first | exact Below.refl _ _ | refine Below.setCell ?_ (by simp <;> omega) _ | refine Below.alloc ?_ (by simp <;> omega) _)⟩
set_option maxHeartbeats 2000000 in
theorem wordAt_any (l : Nat) (n : Int) (w : World) (hl : 1 ≤ l ∧ l ≤ 4) (hn : 0 ≤ n ∧ n ≤ 80) : Calls Try.prog 33 #[.int .i64 (l : Int), .int .i64 n] w fun e w' => e = .returned (wordV (dgs l n)) ∧ Below w.heap.size w w' := by
  obtain ⟨⟨b0, b0'⟩, q1⟩ := tm3 n hn
  obtain ⟨⟨b1, b1'⟩, q2⟩ := tm3 _ q1
  obtain ⟨⟨b2, b2'⟩, q3⟩ := tm3 _ q2
  obtain ⟨⟨b3, b3'⟩, q4⟩ := tm3 _ q3
  have hE1 : dgs 1 n = quad (n.tmod 3 - 1) 0 0 0 := rfl
  have hE2 : dgs 2 n = quad ((n.tdiv 3).tmod 3 - 1) (n.tmod 3 - 1) 0 0 := rfl
  have hE3 : dgs 3 n = quad (((n.tdiv 3).tdiv 3).tmod 3 - 1) ((n.tdiv 3).tmod 3 - 1) (n.tmod 3 - 1) 0 := rfl
  have hE4 : dgs 4 n = quad ((((n.tdiv 3).tdiv 3).tdiv 3).tmod 3 - 1) (((n.tdiv 3).tdiv 3).tmod 3 - 1) ((n.tdiv 3).tmod 3 - 1) (n.tmod 3 - 1) := rfl
  obtain ⟨n0, rfl⟩ : ∃ m, m = n := ⟨_, rfl⟩
  generalize hd3 : (((n0.tdiv 3).tdiv 3).tdiv 3).tmod 3 = d3 at *
  generalize hd2 : ((n0.tdiv 3).tdiv 3).tmod 3 = d2 at *
  generalize hd1 : (n0.tdiv 3).tmod 3 = d1 at *
  generalize hd0 : n0.tmod 3 = d0 at *
  generalize hq3 : ((n0.tdiv 3).tdiv 3).tdiv 3 = n3 at *
  generalize hq2 : (n0.tdiv 3).tdiv 3 = n2 at *
  generalize hq1 : n0.tdiv 3 = n1 at *
  rcases four_in hl with rfl | rfl | rfl | rfl
  · rw [hE1]
    clear hE1 hE2 hE3 hE4
    go_enter Try.func33, Try.ntmps33
    go_wp2
    refine wp_loop_rounds 2 ?_
    iterate 2 (rw [rounds_succ]; go_wp2)
    exact bodyPost_ret (v := .agg #[.int .i8 (d0 - 1), .int .i8 (0), .int .i8 (0), .int .i8 (0)]) (by simp [results, Try.results33, go_sem]) rfl ⟨rfl, by repeat (first | exact Below.refl _ _ | refine Below.setCell ?_ (by simp <;> omega) _ | refine Below.alloc ?_ (by simp <;> omega) _)⟩
  · rw [hE2]
    clear hE1 hE2 hE3 hE4
    go_enter Try.func33, Try.ntmps33
    go_wp2
    refine wp_loop_rounds 3 ?_
    iterate 3 (rw [rounds_succ]; go_wp2)
    exact bodyPost_ret (v := .agg #[.int .i8 (d1 - 1), .int .i8 (d0 - 1), .int .i8 (0), .int .i8 (0)]) (by simp [results, Try.results33, go_sem]) rfl ⟨rfl, by repeat (first | exact Below.refl _ _ | refine Below.setCell ?_ (by simp <;> omega) _ | refine Below.alloc ?_ (by simp <;> omega) _)⟩
  · rw [hE3]
    clear hE1 hE2 hE3 hE4
    go_enter Try.func33, Try.ntmps33
    go_wp2
    refine wp_loop_rounds 4 ?_
    iterate 4 (rw [rounds_succ]; go_wp2)
    exact bodyPost_ret (v := .agg #[.int .i8 (d2 - 1), .int .i8 (d1 - 1), .int .i8 (d0 - 1), .int .i8 (0)]) (by simp [results, Try.results33, go_sem]) rfl ⟨rfl, by repeat (first | exact Below.refl _ _ | refine Below.setCell ?_ (by simp <;> omega) _ | refine Below.alloc ?_ (by simp <;> omega) _)⟩
  · rw [hE4]
    clear hE1 hE2 hE3 hE4
    go_enter Try.func33, Try.ntmps33
    go_wp2
    refine wp_loop_rounds 5 ?_
    iterate 5 (rw [rounds_succ]; go_wp2)
    exact bodyPost_ret (v := .agg #[.int .i8 (d3 - 1), .int .i8 (d2 - 1), .int .i8 (d1 - 1), .int .i8 (d0 - 1)]) (by simp [results, Try.results33, go_sem]) rfl ⟨rfl, by repeat (first | exact Below.refl _ _ | refine Below.setCell ?_ (by simp <;> omega) _ | refine Below.alloc ?_ (by simp <;> omega) _)⟩
/-- What WordAt says. -/
def WaO (l n : Int) : Prop := (1 ≤ l ∧ l ≤ 4) ∧ 0 ≤ n ∧ n ≤ p3 l.toNat - 1
noncomputable def waC (l n : Int) : Int := if cb (WaO l n) = true then 0 else 2
noncomputable def waX (l n : Int) : Nat → Int := if cb (WaO l n) = true then dgs l.toNat n else quad 0 0 0 0
theorem p3_bd (n : Nat) : 1 ≤ p3 n ∧ p3 n ≤ 81 := by
  unfold p3; split <;> omega
theorem res_specWordAt {W : World} {b : Nat} {x : Nat → Int} (K : Blk W b (wordC x) 25) (c : Value) (tmps : Array Value) (h4 : tmps.getD 4 undef = .pointer (some ⟨b, 0, none⟩)) (h5 : tmps.getD 5 undef = c) : (results Try.f12 tmps).run Try.prog W = .ok (.tuple #[wordV x, c]) W := by
  have h4' : tmps[4]?.getD undef = .pointer (some ⟨b, 0, none⟩) := by simpa using h4
  have h5' : tmps[5]?.getD undef = c := by simpa using h5
  obtain ⟨e0, e1, e2, e3, -⟩ := K.four
  simp [results, Try.results12, go_sem, e0, e1, e2, e3, h4', h5']
set_option maxHeartbeats 2000000 in
theorem specWordAt_any (l n : Int) (w : World) (hl : -9223372036854775808 ≤ l ∧ l ≤ 9223372036854775807) (hn : -9223372036854775808 ≤ n ∧ n ≤ 9223372036854775807) :
    Calls Try.prog 12 #[.int .i64 l, .int .i64 n] w fun e w' => e = .returned (.tuple #[wordV (waX l n), .int .i64 (waC l n)]) ∧ Below w.heap.size w w' := by
  have F0 := (FR.start w).box #[.int .i8 0, .int .i8 0, .int .i8 0, .int .i8 0] 25
  have HL := Lib.hid (fun W => l04Letters_any l W)
  by_cases hl4 : 1 ≤ l ∧ l ≤ 4
  · obtain ⟨k, rfl⟩ : ∃ k : Nat, l = k := ⟨l.toNat, by omega⟩
    have hk : 1 ≤ k ∧ k ≤ 4 := by omega
    rw [show inB (k : Int) 1 4 = true from cb_t hl4] at HL
    have HP := Lib.hid (fun W => l03Power_any k W hk.2)
    have hpb := p3_bd k
    have HN := Lib.hid (fun W => l00In_any n 0 (p3 k - 1) W)
    by_cases hin : 0 ≤ n ∧ n ≤ p3 k - 1
    · have HT := Lib.hid (fun W => l04At_any k n W hk (by omega))
      have HX := Lib.hid (show waX k n = dgs k n ∧ waC k n = 0 from by
        unfold waX waC
        rw [if_pos (cb_t (p := WaO k n) ⟨hl4, by simpa using hin⟩), if_pos (cb_t (p := WaO k n) ⟨hl4, by simpa using hin⟩)]
        exact ⟨by simp, rfl⟩)
      rw [show inB n 0 (p3 k - 1) = true from cb_t hin] at HN
      generalize p3 k = q at *
      clear hin hl4 hk
      go_enter Try.func12, Try.ntmps12
      go_wp2_with fail
      refine (HL.out _).mono ?_
      rintro e w2 ⟨rfl, rfl⟩
      go_wp2_with fail
      refine (HP.out _).mono ?_
      rintro e w2 ⟨rfl, rfl⟩
      go_wp2_with fail
      refine (HN.out _).mono ?_
      rintro e w2 ⟨rfl, rfl⟩
      go_wp2_with fail
      refine (HT.out _).mono ?_
      rintro e w2 ⟨rfl, hb⟩
      have F1 := F0.next hb
      clear F0 hb
      have HF := Lib.hid ((((F1.setTop 0 (.int .i8 (dgs k n 0))).setTop 1 (.int .i8 (dgs k n 1))).setTop 2 (.int .i8 (dgs k n 2))).setTop 3 (.int .i8 (dgs k n 3)))
      obtain ⟨c0, c1, c2, c3, c4⟩ := (F1.blk _ List.mem_cons_self).four
      clear F1
      clear hn hl hpb
      go_wp2
      exact bodyPost_ret (res_specWordAt (x := dgs k n) (HF.out.blk _ List.mem_cons_self) (.int .i64 0) _ rfl rfl) rfl ⟨by rw [HX.out.1, HX.out.2], HF.out.below⟩
    · have HX := Lib.hid (show waX k n = quad 0 0 0 0 ∧ waC k n = 2 from by
        unfold waX waC
        rw [if_neg (by rw [cb_f (p := WaO k n) (fun h => hin (by simpa using h.2))]; simp), if_neg (by rw [cb_f (p := WaO k n) (fun h => hin (by simpa using h.2))]; simp)]
        exact ⟨rfl, rfl⟩)
      rw [show inB n 0 (p3 k - 1) = false from cb_f hin] at HN
      generalize p3 k = q at *
      clear hin hl4 hk
      go_enter Try.func12, Try.ntmps12
      go_wp2_with fail
      refine (HL.out _).mono ?_
      rintro e w2 ⟨rfl, rfl⟩
      go_wp2_with fail
      refine (HP.out _).mono ?_
      rintro e w2 ⟨rfl, rfl⟩
      go_wp2_with fail
      refine (HN.out _).mono ?_
      rintro e w2 ⟨rfl, rfl⟩
      have HF := Lib.hid F0
      clear F0 hpb hn hl
      go_wp2
      exact bodyPost_ret (res_specWordAt (x := quad 0 0 0 0) (HF.out.blk _ List.mem_cons_self) (.int .i64 2) _ rfl rfl) rfl ⟨by rw [HX.out.1, HX.out.2], HF.out.below⟩
  · have HX := Lib.hid (show waX l n = quad 0 0 0 0 ∧ waC l n = 2 from by
      unfold waX waC
      rw [if_neg (by rw [cb_f (p := WaO l n) (fun h => hl4 h.1)]; simp), if_neg (by rw [cb_f (p := WaO l n) (fun h => hl4 h.1)]; simp)]
      exact ⟨rfl, rfl⟩)
    rw [show inB l 1 4 = false from cb_f hl4] at HL
    go_enter Try.func12, Try.ntmps12
    go_wp2_with fail
    refine (HL.out _).mono ?_
    rintro e w2 ⟨rfl, rfl⟩
    have HF := Lib.hid F0
    clear F0 hn hl hl4
    go_wp2
    exact bodyPost_ret (res_specWordAt (x := quad 0 0 0 0) (HF.out.blk _ List.mem_cons_self) (.int .i64 2) _ rfl rfl) rfl ⟨by rw [HX.out.1, HX.out.2], HF.out.below⟩
theorem res_wordAtF {W : World} {b : Nat} {x : Nat → Int} (K : Blk W b (wordC x) 25) (c : Value) (tmps : Array Value) (h4 : tmps.getD 4 undef = .pointer (some ⟨b, 0, none⟩)) (h5 : tmps.getD 5 undef = c) : (results Try.f13 tmps).run Try.prog W = .ok (.tuple #[wordV x, c]) W := by
  have h4' : tmps[4]?.getD undef = .pointer (some ⟨b, 0, none⟩) := by simpa using h4
  have h5' : tmps[5]?.getD undef = c := by simpa using h5
  obtain ⟨e0, e1, e2, e3, -⟩ := K.four
  simp [results, Try.results13, go_sem, e0, e1, e2, e3, h4', h5']
set_option maxHeartbeats 2000000 in
theorem wordAtF_any (l n : Int) (w : World) (hl : -9223372036854775808 ≤ l ∧ l ≤ 9223372036854775807) (hn : -9223372036854775808 ≤ n ∧ n ≤ 9223372036854775807) :
    Calls Try.prog 13 #[.int .i64 l, .int .i64 n] w fun e w' => e = .returned (.tuple #[wordV (waX l n), .int .i64 (waC l n)]) ∧ Below w.heap.size w w' := by
  have F0 := (FR.start w).box #[.int .i8 0, .int .i8 0, .int .i8 0, .int .i8 0] 25
  have HL := Lib.hid (fun W => within_any l 1 4 W)
  by_cases hl4 : 1 ≤ l ∧ l ≤ 4
  · obtain ⟨k, rfl⟩ : ∃ k : Nat, l = k := ⟨l.toNat, by omega⟩
    have hk : 1 ≤ k ∧ k ≤ 4 := by omega
    rw [show inB (k : Int) 1 4 = true from cb_t hl4] at HL
    have HP := Lib.hid (fun W => countWords_any k W hk.2)
    have hpb := p3_bd k
    have HN := Lib.hid (fun W => within_any n 0 (p3 k - 1) W)
    by_cases hin : 0 ≤ n ∧ n ≤ p3 k - 1
    · have HT := Lib.hid (fun W => wordAt_any k n W hk (by omega))
      have HX := Lib.hid (show waX k n = dgs k n ∧ waC k n = 0 from by
        unfold waX waC
        rw [if_pos (cb_t (p := WaO k n) ⟨hl4, by simpa using hin⟩), if_pos (cb_t (p := WaO k n) ⟨hl4, by simpa using hin⟩)]
        exact ⟨by simp, rfl⟩)
      rw [show inB n 0 (p3 k - 1) = true from cb_t hin] at HN
      generalize p3 k = q at *
      clear hin hl4 hk
      go_enter Try.func13, Try.ntmps13
      go_wp2_with fail
      refine (HL.out _).mono ?_
      rintro e w2 ⟨rfl, rfl⟩
      go_wp2_with fail
      refine (HP.out _).mono ?_
      rintro e w2 ⟨rfl, rfl⟩
      go_wp2_with fail
      refine (HN.out _).mono ?_
      rintro e w2 ⟨rfl, rfl⟩
      go_wp2_with fail
      refine (HT.out _).mono ?_
      rintro e w2 ⟨rfl, hb⟩
      have F1 := F0.next hb
      clear F0 hb
      have HF := Lib.hid ((((F1.setTop 0 (.int .i8 (dgs k n 0))).setTop 1 (.int .i8 (dgs k n 1))).setTop 2 (.int .i8 (dgs k n 2))).setTop 3 (.int .i8 (dgs k n 3)))
      obtain ⟨c0, c1, c2, c3, c4⟩ := (F1.blk _ List.mem_cons_self).four
      clear F1
      clear hn hl hpb
      go_wp2
      exact bodyPost_ret (res_wordAtF (x := dgs k n) (HF.out.blk _ List.mem_cons_self) (.int .i64 0) _ rfl rfl) rfl ⟨by rw [HX.out.1, HX.out.2], HF.out.below⟩
    · have HX := Lib.hid (show waX k n = quad 0 0 0 0 ∧ waC k n = 2 from by
        unfold waX waC
        rw [if_neg (by rw [cb_f (p := WaO k n) (fun h => hin (by simpa using h.2))]; simp), if_neg (by rw [cb_f (p := WaO k n) (fun h => hin (by simpa using h.2))]; simp)]
        exact ⟨rfl, rfl⟩)
      rw [show inB n 0 (p3 k - 1) = false from cb_f hin] at HN
      generalize p3 k = q at *
      clear hin hl4 hk
      go_enter Try.func13, Try.ntmps13
      go_wp2_with fail
      refine (HL.out _).mono ?_
      rintro e w2 ⟨rfl, rfl⟩
      go_wp2_with fail
      refine (HP.out _).mono ?_
      rintro e w2 ⟨rfl, rfl⟩
      go_wp2_with fail
      refine (HN.out _).mono ?_
      rintro e w2 ⟨rfl, rfl⟩
      have HF := Lib.hid F0
      clear F0 hpb hn hl
      go_wp2
      exact bodyPost_ret (res_wordAtF (x := quad 0 0 0 0) (HF.out.blk _ List.mem_cons_self) (.int .i64 2) _ rfl rfl) rfl ⟨by rw [HX.out.1, HX.out.2], HF.out.below⟩
  · have HX := Lib.hid (show waX l n = quad 0 0 0 0 ∧ waC l n = 2 from by
      unfold waX waC
      rw [if_neg (by rw [cb_f (p := WaO l n) (fun h => hl4 h.1)]; simp), if_neg (by rw [cb_f (p := WaO l n) (fun h => hl4 h.1)]; simp)]
      exact ⟨rfl, rfl⟩)
    rw [show inB l 1 4 = false from cb_f hl4] at HL
    go_enter Try.func13, Try.ntmps13
    go_wp2_with fail
    refine (HL.out _).mono ?_
    rintro e w2 ⟨rfl, rfl⟩
    have HF := Lib.hid F0
    clear F0 hn hl hl4
    go_wp2
    exact bodyPost_ret (res_wordAtF (x := quad 0 0 0 0) (HF.out.blk _ List.mem_cons_self) (.int .i64 2) _ rfl rfl) rfl ⟨by rw [HX.out.1, HX.out.2], HF.out.below⟩
end Go.Proofs.Ytbfokbgkdgmgbaa
