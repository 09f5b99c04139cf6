/-
  The walks of ValidWater, StatesOf and StateIndex, in the program and in its model.
-/
import Derived.Test.YtidbaijkgkbadaaJugs3
namespace Go.Proofs.Ytidbaijkgkbadaa
open Go.RowKit

theorem specValidPuzzle_any (b off c : Nat) (J : List Int) (x : Nat → Int) (t : Bool) (w : World) (hn : J.length ≤ 1048576) (hb : b < w.heap.size) (hc : At .i16 w b off J) :
    Calls Try.prog 10 #[puzV (some ⟨b, off, none⟩) J.length c x t] w fun e w' => e = .returned (.bool (okZ J x)) ∧ Below w.heap.size w w' := by
  have hB := (Below.refl w.heap.size w).alloc (Nat.le_refl _) (.cells #[.slice (some ⟨b, off, none⟩) J.length c, .int .i16 (x 0), .int .i16 (x 1), .int .i16 (x 2), .int .i16 (x 3), .bool t] 31)
  have HO := Lib.hid (l02Ok_any w.heap.size b off c J x t _ hn (Nat.lt_of_lt_of_le hb hB.size) (hc.below hB hb) (blk_new w #[.slice (some ⟨b, off, none⟩) J.length c, .int .i16 (x 0), .int .i16 (x 1), .int .i16 (x 2), .int .i16 (x 3), .bool t] 31))
  have HB := Lib.hid hB
  clear hB hc
  go_enter Try.func10, Try.ntmps10
  go_wp2_with fail
  refine HO.out.mono ?_
  rintro e w2 ⟨rfl, hb2⟩
  have HB2 := Lib.hid (HB.out.trans (hb2.mono HB.out.size))
  clear hb2
  go_wp2
  go_ret
  exact ⟨rfl, HB2.out⟩
noncomputable def okW2 (J : List Int) (x y : Nat → Int) : Bool := okZ J x && okX J y
theorem okZ_J {J : List Int} {x : Nat → Int} (h : okZ J x = true) : OkJ J := (of_cb (p := OkZ J x) h).1
theorem specValidWater_any (b off c : Nat) (J : List Int) (x y : Nat → Int) (t : Bool) (w : World) (hn : J.length ≤ 1048576) (hb : b < w.heap.size) (hc : At .i16 w b off J) :
    Calls Try.prog 14 #[puzV (some ⟨b, off, none⟩) J.length c x t, watV y] w fun e w' => e = .returned (.bool (okW2 J x y)) ∧ Below w.heap.size w w' := by
  have hB1 := (Below.refl w.heap.size w).alloc (Nat.le_refl _) (.cells #[.slice (some ⟨b, off, none⟩) J.length c, .int .i16 (x 0), .int .i16 (x 1), .int .i16 (x 2), .int .i16 (x 3), .bool t] 31)
  have hB := hB1.alloc hB1.size (.cells #[.int .i16 (y 0), .int .i16 (y 1), .int .i16 (y 2), .int .i16 (y 3)] 29)
  have k0 := (blk_new w #[.slice (some ⟨b, off, none⟩) J.length c, .int .i16 (x 0), .int .i16 (x 1), .int .i16 (x 2), .int .i16 (x 3), .bool t] 31).alloc (.cells #[.int .i16 (y 0), .int .i16 (y 1), .int .i16 (y 2), .int .i16 (y 3)] 29)
  have k1 := blk_new (w.alloc (.cells #[.slice (some ⟨b, off, none⟩) J.length c, .int .i16 (x 0), .int .i16 (x 1), .int .i16 (x 2), .int .i16 (x 3), .bool t] 31)) #[.int .i16 (y 0), .int .i16 (y 1), .int .i16 (y 2), .int .i16 (y 3)] 29
  rw [World.size_alloc] at k1
  have hb1 := Nat.lt_of_lt_of_le hb hB.size
  have hc1 := hc.below hB hb
  clear hB1 hc
  have HO := Lib.hid (l02Ok_any w.heap.size b off c J x t _ hn hb1 hc1 k0)
  unfold okW2
  cases hok : okZ J x
  · rw [hok] at HO
    clear hok
    simp only [Bool.false_and]
    have HB := Lib.hid hB
    clear hB k0 k1 hc1
    go_enter Try.func14, Try.ntmps14
    go_wp2_with fail
    refine HO.out.mono ?_
    rintro e w2 ⟨rfl, hb2⟩
    have HB2 := Lib.hid (HB.out.trans (hb2.mono HB.out.size))
    clear hb2
    go_wp2
    go_ret
    exact ⟨rfl, HB2.out⟩
  · rw [hok] at HO
    clear hok
    simp only [Bool.true_and]
    have HB := Lib.hid hB
    have HX := Lib.hid (And.intro k0 (And.intro k1 hc1))
    clear hB k0 k1 hc1
    go_enter Try.func14, Try.ntmps14
    go_wp2_with fail
    refine HO.out.mono ?_
    rintro e w2 ⟨rfl, hb2⟩
    have HB2 := Lib.hid (HB.out.trans (hb2.mono HB.out.size))
    obtain ⟨c0, c1, c2, c3, c4, c5, _⟩ := (HX.out.1.below hb2 HX.out.1.lt).six
    obtain ⟨d0, d1, d2, d3, _⟩ := (HX.out.2.1.below hb2 HX.out.2.1.lt).four
    have hbw := Nat.lt_of_lt_of_le hb1 hb2.size
    have HC := Lib.hid (HX.out.2.2.below hb2 hb1)
    clear hb2 hb1
    go_wp2_with fail
    refine (l02Water_any b off c J y w2 hbw HC.out).mono ?_
    rintro e w3 ⟨rfl, hb3⟩
    have HB3 := Lib.hid (HB2.out.trans (hb3.mono HB2.out.size))
    clear hb3
    go_wp2
    go_ret
    exact ⟨rfl, HB3.out⟩
theorem validWater_any (b off c : Nat) (J : List Int) (x y : Nat → Int) (t : Bool) (w : World) (hn : J.length ≤ 1048576) (hb : b < w.heap.size) (hc : At .i16 w b off J) (hi : I16 J) :
    Calls Try.prog 16 #[puzV (some ⟨b, off, none⟩) J.length c x t, watV y] w fun e w' => e = .returned (.bool (okW2 J x y)) ∧ Below w.heap.size w w' := by
  have hB1 := (Below.refl w.heap.size w).alloc (Nat.le_refl _) (.cells #[.slice (some ⟨b, off, none⟩) J.length c, .int .i16 (x 0), .int .i16 (x 1), .int .i16 (x 2), .int .i16 (x 3), .bool t] 31)
  have hB := hB1.alloc hB1.size (.cells #[.int .i16 (y 0), .int .i16 (y 1), .int .i16 (y 2), .int .i16 (y 3)] 29)
  have k0 := (blk_new w #[.slice (some ⟨b, off, none⟩) J.length c, .int .i16 (x 0), .int .i16 (x 1), .int .i16 (x 2), .int .i16 (x 3), .bool t] 31).alloc (.cells #[.int .i16 (y 0), .int .i16 (y 1), .int .i16 (y 2), .int .i16 (y 3)] 29)
  have k1 := blk_new (w.alloc (.cells #[.slice (some ⟨b, off, none⟩) J.length c, .int .i16 (x 0), .int .i16 (x 1), .int .i16 (x 2), .int .i16 (x 3), .bool t] 31)) #[.int .i16 (y 0), .int .i16 (y 1), .int .i16 (y 2), .int .i16 (y 3)] 29
  rw [World.size_alloc] at k1
  have hb1 := Nat.lt_of_lt_of_le hb hB.size
  have hc1 := hc.below hB hb
  clear hB1 hc
  have HO := Lib.hid (validPuzzle_any b off c J x t _ hn hb1 hc1 hi)
  obtain ⟨c0, c1, c2, c3, c4, c5, _⟩ := k0.six
  unfold okW2
  cases hok : okZ J x
  · rw [hok] at HO
    clear hok
    simp only [Bool.false_and]
    have HB := Lib.hid hB
    clear hB k0 k1 hc1
    go_enter Try.func16, Try.ntmps16
    go_wp2_with fail
    refine HO.out.mono ?_
    rintro e w2 ⟨rfl, hb2⟩
    have HB2 := Lib.hid (HB.out.trans (hb2.mono HB.out.size))
    clear hb2
    go_wp2
    go_ret
    exact ⟨rfl, HB2.out⟩
  · rw [hok] at HO
    have hl := (okZ_J hok).1.2
    clear hok
    simp only [Bool.true_and]
    have HB := Lib.hid hB
    have HX := Lib.hid (And.intro k0 (And.intro k1 hc1))
    clear hB k0 k1 hc1
    go_enter Try.func16, Try.ntmps16
    go_wp2_with fail
    refine HO.out.mono ?_
    rintro e w2 ⟨rfl, hb2⟩
    have HB2 := Lib.hid (HB.out.trans (hb2.mono HB.out.size))
    clear c0 c1 c2 c3 c4 c5
    obtain ⟨c0, c1, c2, c3, c4, c5, _⟩ := (HX.out.1.below hb2 HX.out.1.lt).six
    obtain ⟨d0, d1, d2, d3, _⟩ := (HX.out.2.1.below hb2 HX.out.2.1.lt).four
    have hbw := Nat.lt_of_lt_of_le hb1 hb2.size
    have HC := Lib.hid (HX.out.2.2.below hb2 hb1)
    clear hb2 hb1
    go_wp2_with fail
    refine (canHold_any b off c J y w2 hl hbw HC.out).mono ?_
    rintro e w3 ⟨rfl, hb3⟩
    have HB3 := Lib.hid (HB2.out.trans (hb3.mono HB2.out.size))
    clear hb3
    go_wp2
    go_ret
    exact ⟨rfl, HB3.out⟩
/-- The codes: 0, or 1 for what is not valid. -/
noncomputable def codZ (J : List Int) (x : Nat → Int) : Int := if okZ J x = true then 0 else 1
noncomputable def sofV (J : List Int) (x : Nat → Int) : Int := if okZ J x = true then stTo J J.length else 0
theorem specStatesOf_any (b off c : Nat) (J : List Int) (x : Nat → Int) (t : Bool) (w : World) (hn : J.length ≤ 1048576) (hb : b < w.heap.size) (hc : At .i16 w b off J) :
    Calls Try.prog 17 #[puzV (some ⟨b, off, none⟩) J.length c x t] w fun e w' => e = .returned (.tuple #[.int .i64 (sofV J x), .int .i64 (codZ J x)]) ∧ Below w.heap.size w w' := by
  have hB := (Below.refl w.heap.size w).alloc (Nat.le_refl _) (.cells #[.slice (some ⟨b, off, none⟩) J.length c, .int .i16 (x 0), .int .i16 (x 1), .int .i16 (x 2), .int .i16 (x 3), .bool t] 31)
  have k0 := blk_new w #[.slice (some ⟨b, off, none⟩) J.length c, .int .i16 (x 0), .int .i16 (x 1), .int .i16 (x 2), .int .i16 (x 3), .bool t] 31
  have hb1 := Nat.lt_of_lt_of_le hb hB.size
  have hc1 := hc.below hB hb
  have HO := Lib.hid (l02Ok_any w.heap.size b off c J x t _ hn hb1 hc1 k0)
  have HB := Lib.hid hB
  have HX := Lib.hid (And.intro k0 hc1)
  clear hB hc k0 hc1
  unfold codZ sofV
  cases hok : okZ J x
  · rw [hok] at HO
    clear hok
    simp only [Bool.false_eq_true, if_false]
    go_enter Try.func17, Try.ntmps17
    go_wp2_with fail
    refine HO.out.mono ?_
    rintro e w2 ⟨rfl, hb2⟩
    have HB2 := Lib.hid (HB.out.trans (hb2.mono HB.out.size))
    clear hb2
    go_wp2
    go_ret2
    exact ⟨rfl, HB2.out⟩
  · rw [hok] at HO
    have Hr := Lib.hid (show stV J = stTo J J.length by unfold stV; rw [okJ_of (okZ_J hok)]; rfl)
    clear hok
    simp only [if_true]
    go_enter Try.func17, Try.ntmps17
    go_wp2_with fail
    refine HO.out.mono ?_
    rintro e w2 ⟨rfl, hb2⟩
    have HB2 := Lib.hid (HB.out.trans (hb2.mono HB.out.size))
    obtain ⟨c0, c1, c2, c3, c4, c5, _⟩ := (HX.out.1.below hb2 HX.out.1.lt).six
    have HC := Lib.hid (HX.out.2.below hb2 hb1)
    clear hb2 hb1
    go_wp2_with fail
    refine (l02States_any b off c J w2 hn HC.out).mono ?_
    rintro e w' ⟨rfl, rfl⟩
    go_wp2
    go_ret2
    exact ⟨ret2 Hr.out rfl, HB2.out⟩
theorem statesOf_any (b off c : Nat) (J : List Int) (x : Nat → Int) (t : Bool) (w : World) (hn : J.length ≤ 1048576) (hb : b < w.heap.size) (hc : At .i16 w b off J) (hi : I16 J) :
    Calls Try.prog 18 #[puzV (some ⟨b, off, none⟩) J.length c x t] w fun e w' => e = .returned (.tuple #[.int .i64 (sofV J x), .int .i64 (codZ J x)]) ∧ Below w.heap.size w w' := by
  have hB := (Below.refl w.heap.size w).alloc (Nat.le_refl _) (.cells #[.slice (some ⟨b, off, none⟩) J.length c, .int .i16 (x 0), .int .i16 (x 1), .int .i16 (x 2), .int .i16 (x 3), .bool t] 31)
  have k0 := blk_new w #[.slice (some ⟨b, off, none⟩) J.length c, .int .i16 (x 0), .int .i16 (x 1), .int .i16 (x 2), .int .i16 (x 3), .bool t] 31
  have hb1 := Nat.lt_of_lt_of_le hb hB.size
  have hc1 := hc.below hB hb
  have HO := Lib.hid (validPuzzle_any b off c J x t _ hn hb1 hc1 hi)
  have HB := Lib.hid hB
  have HX := Lib.hid (And.intro k0 hc1)
  clear hB hc k0 hc1
  unfold codZ sofV
  cases hok : okZ J x
  · rw [hok] at HO
    clear hok
    simp only [Bool.false_eq_true, if_false]
    go_enter Try.func18, Try.ntmps18
    go_wp2_with fail
    refine HO.out.mono ?_
    rintro e w2 ⟨rfl, hb2⟩
    have HB2 := Lib.hid (HB.out.trans (hb2.mono HB.out.size))
    clear hb2
    go_wp2
    go_ret2
    exact ⟨rfl, HB2.out⟩
  · rw [hok] at HO
    have HJ := Lib.hid (okZ_J hok)
    clear hok
    simp only [if_true]
    go_enter Try.func18, Try.ntmps18
    go_wp2_with fail
    refine HO.out.mono ?_
    rintro e w2 ⟨rfl, hb2⟩
    have HB2 := Lib.hid (HB.out.trans (hb2.mono HB.out.size))
    obtain ⟨c0, c1, c2, c3, c4, c5, _⟩ := (HX.out.1.below hb2 HX.out.1.lt).six
    have HC := Lib.hid (HX.out.2.below hb2 hb1)
    clear hb2 hb1
    go_wp2_with fail
    refine (countStates_any b off c J w2 HJ.out.1.2 HJ.out.2.1 HC.out).mono ?_
    rintro e w' ⟨rfl, rfl⟩
    go_wp2
    go_ret2
    exact ⟨rfl, HB2.out⟩
end Go.Proofs.Ytidbaijkgkbadaa
