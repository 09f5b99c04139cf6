/-
  The codes of words, NumberOfWord, OppositeWord and their models.
-/
import Derived.Test.YtbfokbgkdgmgbaaD3
namespace Go.Proofs.Ytbfokbgkdgmgbaa
open Go.RowKit
set_option maxRecDepth 100000
set_option linter.unusedVariables false

noncomputable def cdD (l : Int) (x : Nat → Int) : Int := if cb (1 ≤ l ∧ l ≤ 4) = true then (if okD l x = true then 0 else 1) else 2
theorem cdD_out {l : Int} (x : Nat → Int) (h : ¬ (1 ≤ l ∧ l ≤ 4)) : cdD l x = 2 := by unfold cdD; rw [if_neg (by rw [cb_f h]; simp)]
theorem cdD_bad {l : Int} {x : Nat → Int} (h : 1 ≤ l ∧ l ≤ 4) (h2 : okD l x = false) : cdD l x = 1 := by unfold cdD; rw [if_pos (cb_t h), if_neg (by rw [h2]; simp)]
theorem cdD_ok {l : Int} {x : Nat → Int} (h : 1 ≤ l ∧ l ≤ 4) (h2 : okD l x = true) : cdD l x = 0 := by unfold cdD; rw [if_pos (cb_t h), if_pos h2]
theorem cdD_zero {l : Int} {x : Nat → Int} (h : cdD l x = 0) : (1 ≤ l ∧ l ≤ 4) ∧ okD l x = true := by
  by_cases h1 : 1 ≤ l ∧ l ≤ 4
  · cases h2 : okD l x
    · rw [cdD_bad h1 h2] at h; exact absurd h (by decide)
    · exact ⟨h1, rfl⟩
  · rw [cdD_out x h1] at h; exact absurd h (by decide)
/-- The number of a word. -/
def nmD (l : Nat) (x : Nat → Int) : Int := match l with
  | 1 => x 0 + 1
  | 2 => 3 * (x 0 + 1) + x 1 + 1
  | 3 => 3 * (3 * (x 0 + 1) + x 1 + 1) + x 2 + 1
  | _ => 3 * (3 * (3 * (x 0 + 1) + x 1 + 1) + x 2 + 1) + x 3 + 1
theorem nmD1 (x : Nat → Int) : nmD 1 x = x 0 + 1 := rfl
theorem nmD2 (x : Nat → Int) : nmD 2 x = 3 * (x 0 + 1) + x 1 + 1 := rfl
theorem nmD3 (x : Nat → Int) : nmD 3 x = 3 * (3 * (x 0 + 1) + x 1 + 1) + x 2 + 1 := rfl
theorem nmD4 (x : Nat → Int) : nmD 4 x = 3 * (3 * (3 * (x 0 + 1) + x 1 + 1) + x 2 + 1) + x 3 + 1 := rfl
noncomputable def nmN (l : Int) (x : Nat → Int) : Int := if cdD l x = 0 then nmD l.toNat x else 0
theorem l04Asked_any (l : Int) (x : Nat → Int) (w : World) (hl : -9223372036854775808 ≤ l ∧ l ≤ 9223372036854775807) (hx : W4 x) :
    Calls Try.prog 34 #[.int .i64 l, wordV x] w fun e w' => e = .returned (.int .i64 (cdD l x)) ∧ Below w.heap.size w w' := by
  have F0 := (FR.start w).box (wordC x) 25
  have HL := Lib.hid (fun W => l04Letters_any l W)
  have HV := Lib.hid (fun W => l04Word_any l x W hl hx)
  clear hl hx
  by_cases h4 : 1 ≤ l ∧ l ≤ 4
  · rw [show inB l 1 4 = true from cb_t h4] at HL
    cases hok : okD l x
    · have HR := Lib.hid (cdD_bad h4 hok)
      rw [hok] at HV
      clear hok h4
      obtain ⟨c0, c1, c2, c3, -⟩ := (F0.blk _ List.mem_cons_self).four
      go_enter Try.func34, Try.ntmps34
      go_wp2_with fail
      refine (HL.out _).mono ?_
      rintro e w2 ⟨rfl, rfl⟩
      go_wp2_with fail
      refine (HV.out _).mono ?_
      rintro e w2 ⟨rfl, hb⟩
      have HF := Lib.hid (F0.next hb).below
      clear hb F0 c0 c1 c2 c3
      go_wp2
      go_ret
      exact ⟨reti HR.out.symm, HF.out⟩
    · have HR := Lib.hid (cdD_ok h4 hok)
      rw [hok] at HV
      clear hok h4
      obtain ⟨c0, c1, c2, c3, -⟩ := (F0.blk _ List.mem_cons_self).four
      go_enter Try.func34, Try.ntmps34
      go_wp2_with fail
      refine (HL.out _).mono ?_
      rintro e w2 ⟨rfl, rfl⟩
      go_wp2_with fail
      refine (HV.out _).mono ?_
      rintro e w2 ⟨rfl, hb⟩
      have HF := Lib.hid (F0.next hb).below
      clear hb F0 c0 c1 c2 c3
      go_wp2
      go_ret
      exact ⟨reti HR.out.symm, HF.out⟩
  · rw [show inB l 1 4 = false from cb_f h4] at HL
    have HR := Lib.hid (cdD_out x h4)
    have HF := Lib.hid F0.below
    clear h4 F0
    go_enter Try.func34, Try.ntmps34
    go_wp2_with fail
    refine (HL.out _).mono ?_
    rintro e w2 ⟨rfl, rfl⟩
    go_wp2
    go_ret
    exact ⟨reti HR.out.symm, HF.out⟩
theorem codeOfWord_any (l : Int) (x : Nat → Int) (w : World) (hl : -9223372036854775808 ≤ l ∧ l ≤ 9223372036854775807) (hx : W4 x) :
    Calls Try.prog 36 #[.int .i64 l, wordV x] w fun e w' => e = .returned (.int .i64 (cdD l x)) ∧ Below w.heap.size w w' := by
  have F0 := (FR.start w).box (wordC x) 25
  have HL := Lib.hid (fun W => within_any l 1 4 W)
  have HV := Lib.hid (fun W => validWord_any l x W hl hx)
  clear hl hx
  by_cases h4 : 1 ≤ l ∧ l ≤ 4
  · rw [show inB l 1 4 = true from cb_t h4] at HL
    cases hok : okD l x
    · have HR := Lib.hid (cdD_bad h4 hok)
      rw [hok] at HV
      clear hok h4
      obtain ⟨c0, c1, c2, c3, -⟩ := (F0.blk _ List.mem_cons_self).four
      go_enter Try.func36, Try.ntmps36
      go_wp2_with fail
      refine (HL.out _).mono ?_
      rintro e w2 ⟨rfl, rfl⟩
      go_wp2_with fail
      refine (HV.out _).mono ?_
      rintro e w2 ⟨rfl, hb⟩
      have HF := Lib.hid (F0.next hb).below
      clear hb F0 c0 c1 c2 c3
      go_wp2
      go_ret
      exact ⟨reti HR.out.symm, HF.out⟩
    · have HR := Lib.hid (cdD_ok h4 hok)
      rw [hok] at HV
      clear hok h4
      obtain ⟨c0, c1, c2, c3, -⟩ := (F0.blk _ List.mem_cons_self).four
      go_enter Try.func36, Try.ntmps36
      go_wp2_with fail
      refine (HL.out _).mono ?_
      rintro e w2 ⟨rfl, rfl⟩
      go_wp2_with fail
      refine (HV.out _).mono ?_
      rintro e w2 ⟨rfl, hb⟩
      have HF := Lib.hid (F0.next hb).below
      clear hb F0 c0 c1 c2 c3
      go_wp2
      go_ret
      exact ⟨reti HR.out.symm, HF.out⟩
  · rw [show inB l 1 4 = false from cb_f h4] at HL
    have HR := Lib.hid (cdD_out x h4)
    have HF := Lib.hid F0.below
    clear h4 F0
    go_enter Try.func36, Try.ntmps36
    go_wp2_with fail
    refine (HL.out _).mono ?_
    rintro e w2 ⟨rfl, rfl⟩
    go_wp2
    go_ret
    exact ⟨reti HR.out.symm, HF.out⟩
/-- Letters of words. -/
def S4 (x : Nat → Int) : Prop := (-1 ≤ x 0 ∧ x 0 ≤ 1) ∧ (-1 ≤ x 1 ∧ x 1 ≤ 1) ∧ (-1 ≤ x 2 ∧ x 2 ≤ 1) ∧ (-1 ≤ x 3 ∧ x 3 ≤ 1)
theorem okD_s4 {l : Int} {x : Nat → Int} (h : okD l x = true) : S4 x := by
  have h2 := (okD_t h).2
  exact ⟨(h2 0 (by decide)).1, (h2 1 (by decide)).1, (h2 2 (by decide)).1, (h2 3 (by decide)).1⟩
set_option maxHeartbeats 2000000 in
theorem l04Number_any (l : Nat) (x : Nat → Int) (w : World) (hl : 1 ≤ l ∧ l ≤ 4) (hx : S4 x) :
    Calls Try.prog 35 #[.int .i64 (l : Int), wordV x] w fun e w' => e = .returned (.int .i64 (nmD l x)) ∧ Below w.heap.size w w' := by
  have F0 := (FR.start w).box (wordC x) 25
  obtain ⟨c0, c1, c2, c3, -⟩ := (F0.blk _ List.mem_cons_self).four
  have HF := Lib.hid F0.below
  obtain ⟨h0, h1, h2, h3⟩ := hx
  have hE := nmD1 x
  have hE2 := nmD2 x
  have hE3 := nmD3 x
  have hE4 := nmD4 x
  generalize hg1 : nmD 1 x = m1 at *
  generalize hg2 : nmD 2 x = m2 at *
  generalize hg3 : nmD 3 x = m3 at *
  generalize hg4 : nmD 4 x = m4 at *
  have HE := Lib.hid hE
  have HE2 := Lib.hid hE2
  have HE3 := Lib.hid hE3
  have HE4 := Lib.hid hE4
  clear hE hE2 hE3 hE4 F0
  rcases four_in hl with rfl | rfl | rfl | rfl
  · rw [hg1]
    clear hg1 hg2 hg3 hg4
    generalize x 0 = x0 at *
    generalize x 1 = x1 at *
    generalize x 2 = x2 at *
    generalize x 3 = x3 at *
    go_enter Try.func35, Try.ntmps35
    go_wp2
    refine wp_loop_rounds 2 ?_
    iterate 2 (rw [rounds_succ]; go_wp2)
    go_ret
    exact ⟨reti (by have := HE.out; omega), HF.out⟩
  · rw [hg2]
    clear hg1 hg2 hg3 hg4
    generalize x 0 = x0 at *
    generalize x 1 = x1 at *
    generalize x 2 = x2 at *
    generalize x 3 = x3 at *
    go_enter Try.func35, Try.ntmps35
    go_wp2
    refine wp_loop_rounds 3 ?_
    iterate 3 (rw [rounds_succ]; go_wp2)
    go_ret
    exact ⟨reti (by have := HE2.out; omega), HF.out⟩
  · rw [hg3]
    clear hg1 hg2 hg3 hg4
    generalize x 0 = x0 at *
    generalize x 1 = x1 at *
    generalize x 2 = x2 at *
    generalize x 3 = x3 at *
    go_enter Try.func35, Try.ntmps35
    go_wp2
    refine wp_loop_rounds 4 ?_
    iterate 4 (rw [rounds_succ]; go_wp2)
    go_ret
    exact ⟨reti (by have := HE3.out; omega), HF.out⟩
  · rw [hg4]
    clear hg1 hg2 hg3 hg4
    generalize x 0 = x0 at *
    generalize x 1 = x1 at *
    generalize x 2 = x2 at *
    generalize x 3 = x3 at *
    go_enter Try.func35, Try.ntmps35
    go_wp2
    refine wp_loop_rounds 5 ?_
    iterate 5 (rw [rounds_succ]; go_wp2)
    go_ret
    exact ⟨reti (by have := HE4.out; omega), HF.out⟩
set_option maxHeartbeats 2000000 in
theorem specNumberOfWord_any (l : Int) (x : Nat → Int) (w : World) (hl : -9223372036854775808 ≤ l ∧ l ≤ 9223372036854775807) (hx : W4 x) :
    Calls Try.prog 15 #[.int .i64 l, wordV x] w fun e w' => e = .returned (.tuple #[.int .i64 (nmN l x), .int .i64 (cdD l x)]) ∧ Below w.heap.size w w' := by
  have F0 := (FR.start w).box (wordC x) 25
  have HC := Lib.hid (fun W => l04Asked_any l x W hl hx)
  unfold nmN
  by_cases hz : cdD l x = 0
  · rw [if_pos hz]
    obtain ⟨h4, hok⟩ := cdD_zero hz
    have hs := okD_s4 hok
    rw [hz] at HC ⊢
    obtain ⟨n, rfl⟩ : ∃ n : Nat, l = n := ⟨l.toNat, by omega⟩
    have hn : 1 ≤ n ∧ n ≤ 4 := by omega
    rw [show ((n : Int)).toNat = n by simp]
    clear hz hok h4 hl hx
    have HN := Lib.hid (fun W => l04Number_any n x W hn hs)
    clear hs hn
    obtain ⟨c0, c1, c2, c3, -⟩ := (F0.blk _ List.mem_cons_self).four
    go_enter Try.func15, Try.ntmps15
    go_wp2_with fail
    refine (HC.out _).mono ?_
    rintro e w2 ⟨rfl, hb⟩
    have F1 := F0.next hb
    clear hb F0 c0 c1 c2 c3
    obtain ⟨c0, c1, c2, c3, -⟩ := (F1.blk _ List.mem_cons_self).four
    go_wp2_with fail
    refine (HN.out _).mono ?_
    rintro e w3 ⟨rfl, hb⟩
    have HF := Lib.hid (F1.next hb).below
    clear hb F1 c0 c1 c2 c3
    go_wp2
    go_ret2
    exact ⟨rfl, HF.out⟩
  · rw [if_neg hz]
    obtain ⟨c0, c1, c2, c3, -⟩ := (F0.blk _ List.mem_cons_self).four
    have hne : (cdD l x != 0) = true := by simpa using hz
    generalize cdD l x = c at *
    clear hl hx
    go_enter Try.func15, Try.ntmps15
    go_wp2_with fail
    refine (HC.out _).mono ?_
    rintro e w2 ⟨rfl, hb⟩
    have HF := Lib.hid (F0.next hb).below
    clear hb F0 c0 c1 c2 c3
    go_wp2
    go_ret2
    exact ⟨rfl, HF.out⟩
set_option maxHeartbeats 2000000 in
theorem numberOfWord_any (l : Int) (x : Nat → Int) (w : World) (hl : -9223372036854775808 ≤ l ∧ l ≤ 9223372036854775807) (hx : W4 x) :
    Calls Try.prog 16 #[.int .i64 l, wordV x] w fun e w' => e = .returned (.tuple #[.int .i64 (nmN l x), .int .i64 (cdD l x)]) ∧ Below w.heap.size w w' := by
  have F0 := (FR.start w).box (wordC x) 25
  have HC := Lib.hid (fun W => codeOfWord_any l x W hl hx)
  unfold nmN
  by_cases hz : cdD l x = 0
  · rw [if_pos hz]
    obtain ⟨h4, hok⟩ := cdD_zero hz
    have hs := okD_s4 hok
    rw [hz] at HC ⊢
    obtain ⟨n, rfl⟩ : ∃ n : Nat, l = n := ⟨l.toNat, by omega⟩
    have hn : 1 ≤ n ∧ n ≤ 4 := by omega
    rw [show ((n : Int)).toNat = n by simp]
    clear hz hok h4 hl hx
    obtain ⟨h0, h1, h2, h3⟩ := hs
    have HE := Lib.hid (nmD1 x)
    have HE2 := Lib.hid (nmD2 x)
    have HE3 := Lib.hid (nmD3 x)
    have HE4 := Lib.hid (nmD4 x)
    rcases four_in hn with rfl | rfl | rfl | rfl
    · obtain ⟨m, hm⟩ : ∃ m, nmD 1 x = m := ⟨_, rfl⟩
      rw [hm] at HE ⊢
      obtain ⟨c0, c1, c2, c3, -⟩ := (F0.blk _ List.mem_cons_self).four
      clear hn hm
      go_enter Try.func16, Try.ntmps16
      go_wp2_with fail
      refine (HC.out _).mono ?_
      rintro e w2 ⟨rfl, hb⟩
      have F1 := F0.next hb
      clear hb F0 c0 c1 c2 c3 HC
      obtain ⟨c0, c1, c2, c3, -⟩ := (F1.blk _ List.mem_cons_self).four
      have HF := Lib.hid F1.below
      clear F1
      generalize x 0 = x0 at *
      generalize x 1 = x1 at *
      generalize x 2 = x2 at *
      generalize x 3 = x3 at *
      go_wp2
      refine wp_loop_rounds 2 ?_
      iterate 2 (rw [rounds_succ]; go_wp2)
      go_ret2
      exact ⟨ret2 (by have := HE.out; omega) rfl, HF.out⟩
    · obtain ⟨m, hm⟩ : ∃ m, nmD 2 x = m := ⟨_, rfl⟩
      rw [hm] at HE2 ⊢
      obtain ⟨c0, c1, c2, c3, -⟩ := (F0.blk _ List.mem_cons_self).four
      clear hn hm
      go_enter Try.func16, Try.ntmps16
      go_wp2_with fail
      refine (HC.out _).mono ?_
      rintro e w2 ⟨rfl, hb⟩
      have F1 := F0.next hb
      clear hb F0 c0 c1 c2 c3 HC
      obtain ⟨c0, c1, c2, c3, -⟩ := (F1.blk _ List.mem_cons_self).four
      have HF := Lib.hid F1.below
      clear F1
      generalize x 0 = x0 at *
      generalize x 1 = x1 at *
      generalize x 2 = x2 at *
      generalize x 3 = x3 at *
      go_wp2
      refine wp_loop_rounds 3 ?_
      iterate 3 (rw [rounds_succ]; go_wp2)
      go_ret2
      exact ⟨ret2 (by have := HE2.out; omega) rfl, HF.out⟩
    · obtain ⟨m, hm⟩ : ∃ m, nmD 3 x = m := ⟨_, rfl⟩
      rw [hm] at HE3 ⊢
      obtain ⟨c0, c1, c2, c3, -⟩ := (F0.blk _ List.mem_cons_self).four
      clear hn hm
      go_enter Try.func16, Try.ntmps16
      go_wp2_with fail
      refine (HC.out _).mono ?_
      rintro e w2 ⟨rfl, hb⟩
      have F1 := F0.next hb
      clear hb F0 c0 c1 c2 c3 HC
      obtain ⟨c0, c1, c2, c3, -⟩ := (F1.blk _ List.mem_cons_self).four
      have HF := Lib.hid F1.below
      clear F1
      generalize x 0 = x0 at *
      generalize x 1 = x1 at *
      generalize x 2 = x2 at *
      generalize x 3 = x3 at *
      go_wp2
      refine wp_loop_rounds 4 ?_
      iterate 4 (rw [rounds_succ]; go_wp2)
      go_ret2
      exact ⟨ret2 (by have := HE3.out; omega) rfl, HF.out⟩
    · obtain ⟨m, hm⟩ : ∃ m, nmD 4 x = m := ⟨_, rfl⟩
      rw [hm] at HE4 ⊢
      obtain ⟨c0, c1, c2, c3, -⟩ := (F0.blk _ List.mem_cons_self).four
      clear hn hm
      go_enter Try.func16, Try.ntmps16
      go_wp2_with fail
      refine (HC.out _).mono ?_
      rintro e w2 ⟨rfl, hb⟩
      have F1 := F0.next hb
      clear hb F0 c0 c1 c2 c3 HC
      obtain ⟨c0, c1, c2, c3, -⟩ := (F1.blk _ List.mem_cons_self).four
      have HF := Lib.hid F1.below
      clear F1
      generalize x 0 = x0 at *
      generalize x 1 = x1 at *
      generalize x 2 = x2 at *
      generalize x 3 = x3 at *
      go_wp2
      refine wp_loop_rounds 5 ?_
      iterate 5 (rw [rounds_succ]; go_wp2)
      go_ret2
      exact ⟨ret2 (by have := HE4.out; omega) rfl, HF.out⟩
  · rw [if_neg hz]
    obtain ⟨c0, c1, c2, c3, -⟩ := (F0.blk _ List.mem_cons_self).four
    have hne : (cdD l x != 0) = true := by simpa using hz
    generalize cdD l x = c at *
    clear hl hx
    go_enter Try.func16, Try.ntmps16
    go_wp2_with fail
    refine (HC.out _).mono ?_
    rintro e w2 ⟨rfl, hb⟩
    have HF := Lib.hid (F0.next hb).below
    clear hb F0 c0 c1 c2 c3
    go_wp2
    go_ret2
    exact ⟨rfl, HF.out⟩
end Go.Proofs.Ytbfokbgkdgmgbaa
