/-
  The walks of WaterAt and StepOfJugs, in the program and in its model.
-/
import Derived.Test.YtidbaijkgkbadaaJugs5
namespace Go.Proofs.Ytidbaijkgkbadaa
open Go.RowKit

noncomputable def waC (J : List Int) (x : Nat → Int) (n : Int) : Int := if okZ J x = true then (if cb (0 ≤ n ∧ n ≤ stTo J J.length - 1) = true then 0 else 2) else 1
noncomputable def waV (J : List Int) (x : Nat → Int) (n : Int) : Nat → Int := if okZ J x = true then (if cb (0 ≤ n ∧ n ≤ stTo J J.length - 1) = true then atV J n else fun _ => 0) else fun _ => 0
set_option maxRecDepth 100000 in
theorem specWaterAt_any (b off c : Nat) (J : List Int) (x : Nat → Int) (t : Bool) (n : Int) (w : World) (hn : J.length ≤ 1048576) (hb : b < w.heap.size) (hc : At .i16 w b off J) :
    Calls Try.prog 21 #[puzV (some ⟨b, off, none⟩) J.length c x t, .int .i64 n] w fun e w' => e = .returned (.tuple #[watV (waV J x n), .int .i64 (waC J x n)]) ∧ Below w.heap.size w w' := by
  have hB1 := (Below.refl w.heap.size w).alloc (Nat.le_refl _) (.cells #[.slice (some ⟨b, off, none⟩) J.length c, .int .i16 (x 0), .int .i16 (x 1), .int .i16 (x 2), .int .i16 (x 3), .bool t] 31)
  have hB := hB1.alloc hB1.size (.cells #[.int .i16 0, .int .i16 0, .int .i16 0, .int .i16 0] 29)
  have k0 := (blk_new w #[.slice (some ⟨b, off, none⟩) J.length c, .int .i16 (x 0), .int .i16 (x 1), .int .i16 (x 2), .int .i16 (x 3), .bool t] 31).alloc (.cells #[.int .i16 0, .int .i16 0, .int .i16 0, .int .i16 0] 29)
  have k1 := blk_new (w.alloc (.cells #[.slice (some ⟨b, off, none⟩) J.length c, .int .i16 (x 0), .int .i16 (x 1), .int .i16 (x 2), .int .i16 (x 3), .bool t] 31)) #[.int .i16 0, .int .i16 0, .int .i16 0, .int .i16 0] 29
  rw [World.size_alloc] at k1
  have hb1 := Nat.lt_of_lt_of_le hb hB.size
  have hc1 := hc.below hB hb
  clear hB1 hc
  have HO := Lib.hid (l02Ok_any w.heap.size b off c J x t _ hn hb1 hc1 k0)
  have HB := Lib.hid hB
  have HX := Lib.hid (And.intro k0 (And.intro k1 hc1))

  clear hB k0 k1 hc1
  unfold waC waV
  cases hok : okZ J x
  · rw [hok] at HO
    clear hok
    simp only [Bool.false_eq_true, if_false]
    go_enter Try.func21, Try.ntmps21
    go_wp2_with fail
    refine HO.out.mono ?_
    rintro e w2 ⟨rfl, hb2⟩
    have HB2 := Lib.hid (HB.out.trans (hb2.mono HB.out.size))
    obtain ⟨d0, d1, d2, d3, _⟩ := (HX.out.2.1.below hb2 HX.out.2.1.lt).four
    clear hb2
    go_wp2
    refine bodyPost_ret (v := .tuple #[watV (fun _ => 0), .int .i64 1]) (by simp [results, Try.results21, go_sem, d0, d1, d2, d3]) rfl ⟨rfl, ?_⟩
    exact (((HB2.out.setCell (Nat.le_succ _) _).setCell (Nat.le_succ _) _).setCell (Nat.le_succ _) _).setCell (Nat.le_succ _) _
  rw [hok] at HO
  have HJ := Lib.hid (okZ_J hok)
  clear hok
  have HST := Lib.hid (fun W (h : At .i16 W b off J) => l02States_any b off c J W hn h)
  rw [show stV J = stTo J J.length by unfold stV; rw [okJ_of HJ.out]; rfl] at HST
  simp only [if_true]
  have hst := stTo_bd4 HJ.out.2.1 HJ.out.1.2
  have hst5 := HJ.out.2.2
  by_cases hr : 0 ≤ n ∧ n ≤ stTo J J.length - 1
  · rw [cb_t hr]
    have HIN := Lib.hid (fun W => l00In_t n 0 (stTo J J.length - 1) W hr)
    have HN := Lib.hid (show 0 ≤ n ∧ n ≤ 13845841 by omega)
    simp only [if_true]
    clear hr
    generalize stTo J J.length = S at *
    go_enter Try.func21, Try.ntmps21
    go_wp2_with fail
    refine HO.out.mono ?_
    rintro e w2 ⟨rfl, hb2⟩
    have HB2 := Lib.hid (HB.out.trans (hb2.mono HB.out.size))

    obtain ⟨c0, c1, c2, c3, c4, c5, _⟩ := (HX.out.1.below hb2 HX.out.1.lt).six
    obtain ⟨d0, d1, d2, d3, _⟩ := (HX.out.2.1.below hb2 HX.out.2.1.lt).four
    have hbw := Nat.lt_of_lt_of_le hb1 hb2.size
    have HC := Lib.hid (HX.out.2.2.below hb2 hb1)
    have HK := Lib.hid (HX.out.1.below hb2 HX.out.1.lt)
    have HK1 := Lib.hid (HX.out.2.1.below hb2 HX.out.2.1.lt)
    clear hb2 hb1
    go_wp2_with (first | (go_at_call 33; with_reducible refine (HST.out _ HC.out).mono ?_; rintro e w' ⟨rfl, rfl⟩) | (go_at_call 37; with_reducible refine (HIN.out _).mono ?_; rintro e w' ⟨rfl, rfl⟩))
    refine (l02At_any w.heap.size b off c J x t n w2 HJ.out.1.2 HJ.out.2.1 HN.out hbw HC.out HK.out).mono ?_
    rintro e w3 ⟨rfl, hb3⟩
    have HB3 := Lib.hid (HB2.out.trans (hb3.mono HB2.out.size))
    clear d0 d1 d2 d3
    obtain ⟨d0, d1, d2, d3, d4⟩ := (HK1.out.below hb3 HK1.out.lt).four
    clear hb3
    generalize hA : atV J n = A at *
    have HA := Lib.hid hA
    clear hA
    go_wp2
    refine bodyPost_ret (v := .tuple #[watV A, .int .i64 0]) (by simp [results, Try.results21, go_sem, d0, d1, d2, d3]) rfl ⟨by rw [HA.out], ?_⟩
    exact (((HB3.out.setCell (Nat.le_succ _) _).setCell (Nat.le_succ _) _).setCell (Nat.le_succ _) _).setCell (Nat.le_succ _) _
  · rw [cb_f hr]
    have HIN := Lib.hid (fun W => l00In_f n 0 (stTo J J.length - 1) W hr)
    simp only [Bool.false_eq_true, if_false]
    clear hr
    generalize stTo J J.length = S at *
    go_enter Try.func21, Try.ntmps21
    go_wp2_with fail
    refine HO.out.mono ?_
    rintro e w2 ⟨rfl, hb2⟩
    have HB2 := Lib.hid (HB.out.trans (hb2.mono HB.out.size))

    obtain ⟨c0, c1, c2, c3, c4, c5, _⟩ := (HX.out.1.below hb2 HX.out.1.lt).six
    obtain ⟨d0, d1, d2, d3, _⟩ := (HX.out.2.1.below hb2 HX.out.2.1.lt).four
    have HC := Lib.hid (HX.out.2.2.below hb2 hb1)
    clear hb2 hb1
    go_wp2_with (first | (go_at_call 33; with_reducible refine (HST.out _ HC.out).mono ?_; rintro e w' ⟨rfl, rfl⟩) | (go_at_call 37; with_reducible refine (HIN.out _).mono ?_; rintro e w' ⟨rfl, rfl⟩))
    refine bodyPost_ret (v := .tuple #[watV (fun _ => 0), .int .i64 2]) (by simp [results, Try.results21, go_sem, d0, d1, d2, d3]) rfl ⟨rfl, ?_⟩
    exact (((HB2.out.setCell (Nat.le_succ _) _).setCell (Nat.le_succ _) _).setCell (Nat.le_succ _) _).setCell (Nat.le_succ _) _
set_option maxRecDepth 100000 in
theorem waterAtX_any (b off c : Nat) (J : List Int) (x : Nat → Int) (t : Bool) (n : Int) (w : World) (hn : J.length ≤ 1048576) (hb : b < w.heap.size) (hc : At .i16 w b off J) (hi : I16 J) :
    Calls Try.prog 22 #[puzV (some ⟨b, off, none⟩) J.length c x t, .int .i64 n] w fun e w' => e = .returned (.tuple #[watV (waV J x n), .int .i64 (waC J x n)]) ∧ Below w.heap.size w w' := by
  have hB1 := (Below.refl w.heap.size w).alloc (Nat.le_refl _) (.cells #[.slice (some ⟨b, off, none⟩) J.length c, .int .i16 (x 0), .int .i16 (x 1), .int .i16 (x 2), .int .i16 (x 3), .bool t] 31)
  have hB := hB1.alloc hB1.size (.cells #[.int .i16 0, .int .i16 0, .int .i16 0, .int .i16 0] 29)
  have k0 := (blk_new w #[.slice (some ⟨b, off, none⟩) J.length c, .int .i16 (x 0), .int .i16 (x 1), .int .i16 (x 2), .int .i16 (x 3), .bool t] 31).alloc (.cells #[.int .i16 0, .int .i16 0, .int .i16 0, .int .i16 0] 29)
  have k1 := blk_new (w.alloc (.cells #[.slice (some ⟨b, off, none⟩) J.length c, .int .i16 (x 0), .int .i16 (x 1), .int .i16 (x 2), .int .i16 (x 3), .bool t] 31)) #[.int .i16 0, .int .i16 0, .int .i16 0, .int .i16 0] 29
  rw [World.size_alloc] at k1
  have hb1 := Nat.lt_of_lt_of_le hb hB.size
  have hc1 := hc.below hB hb
  clear hB1 hc
  have HO := Lib.hid (validPuzzle_any b off c J x t _ hn hb1 hc1 hi)
  have HB := Lib.hid hB
  have HX := Lib.hid (And.intro k0 (And.intro k1 hc1))
  obtain ⟨c0, c1, c2, c3, c4, c5, _⟩ := k0.six
  clear hB k0 k1 hc1
  unfold waC waV
  cases hok : okZ J x
  · rw [hok] at HO
    clear hok
    simp only [Bool.false_eq_true, if_false]
    go_enter Try.func22, Try.ntmps22
    go_wp2_with fail
    refine HO.out.mono ?_
    rintro e w2 ⟨rfl, hb2⟩
    have HB2 := Lib.hid (HB.out.trans (hb2.mono HB.out.size))
    obtain ⟨d0, d1, d2, d3, _⟩ := (HX.out.2.1.below hb2 HX.out.2.1.lt).four
    clear hb2
    go_wp2
    refine bodyPost_ret (v := .tuple #[watV (fun _ => 0), .int .i64 1]) (by simp [results, Try.results22, go_sem, d0, d1, d2, d3]) rfl ⟨rfl, ?_⟩
    exact (((HB2.out.setCell (Nat.le_succ _) _).setCell (Nat.le_succ _) _).setCell (Nat.le_succ _) _).setCell (Nat.le_succ _) _
  rw [hok] at HO
  have HJ := Lib.hid (okZ_J hok)
  clear hok
  have HST := Lib.hid (fun W (h : At .i16 W b off J) => countStates_any b off c J W HJ.out.1.2 HJ.out.2.1 h)
  simp only [if_true]
  have hst := stTo_bd4 HJ.out.2.1 HJ.out.1.2
  have hst5 := HJ.out.2.2
  by_cases hr : 0 ≤ n ∧ n ≤ stTo J J.length - 1
  · rw [cb_t hr]
    have HIN := Lib.hid (fun W => within_t n 0 (stTo J J.length - 1) W hr)
    have HN := Lib.hid (show 0 ≤ n ∧ n ≤ 13845841 by omega)
    simp only [if_true]
    clear hr
    generalize stTo J J.length = S at *
    go_enter Try.func22, Try.ntmps22
    go_wp2_with fail
    refine HO.out.mono ?_
    rintro e w2 ⟨rfl, hb2⟩
    have HB2 := Lib.hid (HB.out.trans (hb2.mono HB.out.size))
    clear c0 c1 c2 c3 c4 c5
    obtain ⟨c0, c1, c2, c3, c4, c5, _⟩ := (HX.out.1.below hb2 HX.out.1.lt).six
    obtain ⟨d0, d1, d2, d3, _⟩ := (HX.out.2.1.below hb2 HX.out.2.1.lt).four
    have hbw := Nat.lt_of_lt_of_le hb1 hb2.size
    have HC := Lib.hid (HX.out.2.2.below hb2 hb1)
    have HK := Lib.hid (HX.out.1.below hb2 HX.out.1.lt)
    have HK1 := Lib.hid (HX.out.2.1.below hb2 HX.out.2.1.lt)
    clear hb2 hb1
    go_wp2_with (first | (go_at_call 34; with_reducible refine (HST.out _ HC.out).mono ?_; rintro e w' ⟨rfl, rfl⟩) | (go_at_call 39; with_reducible refine (HIN.out _).mono ?_; rintro e w' ⟨rfl, rfl⟩))
    refine (waterAt_any b off c J n w2 HJ.out.1.2 HJ.out.2.1 HN.out hbw HC.out).mono ?_
    rintro e w3 ⟨rfl, hb3⟩
    have HB3 := Lib.hid (HB2.out.trans (hb3.mono HB2.out.size))
    clear d0 d1 d2 d3
    obtain ⟨d0, d1, d2, d3, d4⟩ := (HK1.out.below hb3 HK1.out.lt).four
    clear hb3
    generalize hA : atV J n = A at *
    have HA := Lib.hid hA
    clear hA
    go_wp2
    refine bodyPost_ret (v := .tuple #[watV A, .int .i64 0]) (by simp [results, Try.results22, go_sem, d0, d1, d2, d3]) rfl ⟨by rw [HA.out], ?_⟩
    exact (((HB3.out.setCell (Nat.le_succ _) _).setCell (Nat.le_succ _) _).setCell (Nat.le_succ _) _).setCell (Nat.le_succ _) _
  · rw [cb_f hr]
    have HIN := Lib.hid (fun W => within_f n 0 (stTo J J.length - 1) W hr)
    simp only [Bool.false_eq_true, if_false]
    clear hr
    generalize stTo J J.length = S at *
    go_enter Try.func22, Try.ntmps22
    go_wp2_with fail
    refine HO.out.mono ?_
    rintro e w2 ⟨rfl, hb2⟩
    have HB2 := Lib.hid (HB.out.trans (hb2.mono HB.out.size))
    clear c0 c1 c2 c3 c4 c5
    obtain ⟨c0, c1, c2, c3, c4, c5, _⟩ := (HX.out.1.below hb2 HX.out.1.lt).six
    obtain ⟨d0, d1, d2, d3, _⟩ := (HX.out.2.1.below hb2 HX.out.2.1.lt).four
    have HC := Lib.hid (HX.out.2.2.below hb2 hb1)
    clear hb2 hb1
    go_wp2_with (first | (go_at_call 34; with_reducible refine (HST.out _ HC.out).mono ?_; rintro e w' ⟨rfl, rfl⟩) | (go_at_call 39; with_reducible refine (HIN.out _).mono ?_; rintro e w' ⟨rfl, rfl⟩))
    refine bodyPost_ret (v := .tuple #[watV (fun _ => 0), .int .i64 2]) (by simp [results, Try.results22, go_sem, d0, d1, d2, d3]) rfl ⟨rfl, ?_⟩
    exact (((HB2.out.setCell (Nat.le_succ _) _).setCell (Nat.le_succ _) _).setCell (Nat.le_succ _) _).setCell (Nat.le_succ _) _
end Go.Proofs.Ytidbaijkgkbadaa
