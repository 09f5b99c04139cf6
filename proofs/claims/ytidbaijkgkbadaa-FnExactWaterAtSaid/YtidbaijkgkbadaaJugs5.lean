/-
  The walks of StateIndex, in the program and in its model.
-/
import Derived.Test.YtidbaijkgkbadaaIxFns2
namespace Go.Proofs.Ytidbaijkgkbadaa
open Go.RowKit

noncomputable def codW (J : List Int) (x y : Nat → Int) : Int := if okW2 J x y = true then 0 else 1
noncomputable def sixV (J : List Int) (x y : Nat → Int) : Int := if okW2 J x y = true then ixTo J y J.length else 0
theorem okW2_of {J : List Int} {x y : Nat → Int} (h : okW2 J x y = true) : OkJ J ∧ OkX J y := by
  unfold okW2 at h
  rw [Bool.and_eq_true] at h
  exact ⟨okZ_J h.1, of_cb (p := OkX J y) h.2⟩
theorem stateIndex_any (b off c : Nat) (J : List Int) (x y : Nat → Int) (t : Bool) (w : World) (hn : J.length ≤ 1048576) (hb : b < w.heap.size) (hc : At .i16 w b off J) (hi : I16 J) :
    Calls Try.prog 20 #[puzV (some ⟨b, off, none⟩) J.length c x t, watV y] w fun e w' => e = .returned (.tuple #[.int .i64 (sixV J x y), .int .i64 (codW J x y)]) ∧ Below w.heap.size w w' := by
  have hB1 := (Below.refl w.heap.size w).alloc (Nat.le_refl _) (.cells #[.slice (some ⟨b, off, none⟩) J.length c, .int .i16 (x 0), .int .i16 (x 1), .int .i16 (x 2), .int .i16 (x 3), .bool t] 31)
  have hB := hB1.alloc hB1.size (.cells #[.int .i16 (y 0), .int .i16 (y 1), .int .i16 (y 2), .int .i16 (y 3)] 29)
  have k0 := (blk_new w #[.slice (some ⟨b, off, none⟩) J.length c, .int .i16 (x 0), .int .i16 (x 1), .int .i16 (x 2), .int .i16 (x 3), .bool t] 31).alloc (.cells #[.int .i16 (y 0), .int .i16 (y 1), .int .i16 (y 2), .int .i16 (y 3)] 29)
  have k1 := blk_new (w.alloc (.cells #[.slice (some ⟨b, off, none⟩) J.length c, .int .i16 (x 0), .int .i16 (x 1), .int .i16 (x 2), .int .i16 (x 3), .bool t] 31)) #[.int .i16 (y 0), .int .i16 (y 1), .int .i16 (y 2), .int .i16 (y 3)] 29
  rw [World.size_alloc] at k1
  have hb1 := Nat.lt_of_lt_of_le hb hB.size
  have hc1 := hc.below hB hb
  clear hB1 hc
  have HO := Lib.hid (validWater_any b off c J x y t _ hn hb1 hc1 hi)
  obtain ⟨c0, c1, c2, c3, c4, c5, _⟩ := k0.six
  obtain ⟨d0, d1, d2, d3, _⟩ := k1.four
  have HB := Lib.hid hB
  have HX := Lib.hid (And.intro k0 (And.intro k1 hc1))
  clear hB k0 k1 hc1
  unfold codW sixV
  cases hok : okW2 J x y
  · rw [hok] at HO
    clear hok
    simp only [Bool.false_eq_true, if_false]
    go_enter Try.func20, Try.ntmps20
    go_wp2_with fail
    refine HO.out.mono ?_
    rintro e w2 ⟨rfl, hb2⟩
    have HB2 := Lib.hid (HB.out.trans (hb2.mono HB.out.size))
    clear hb2
    go_wp2
    go_ret2
    exact ⟨rfl, HB2.out⟩
  · rw [hok] at HO
    have HJ := Lib.hid (okW2_of hok)
    clear hok
    simp only [if_true]
    go_enter Try.func20, Try.ntmps20
    go_wp2_with fail
    refine HO.out.mono ?_
    rintro e w2 ⟨rfl, hb2⟩
    have HB2 := Lib.hid (HB.out.trans (hb2.mono HB.out.size))
    clear c0 c1 c2 c3 c4 c5 d0 d1 d2 d3
    obtain ⟨c0, c1, c2, c3, c4, c5, _⟩ := (HX.out.1.below hb2 HX.out.1.lt).six
    obtain ⟨d0, d1, d2, d3, _⟩ := (HX.out.2.1.below hb2 HX.out.2.1.lt).four
    have hbw := Nat.lt_of_lt_of_le hb1 hb2.size
    have HC := Lib.hid (HX.out.2.2.below hb2 hb1)
    clear hb2 hb1
    go_wp2_with fail
    refine (indexOf_any b off c J y w2 HJ.out.1.1.2 HJ.out.1.2.1 HJ.out.2 hbw HC.out).mono ?_
    rintro e w3 ⟨rfl, hb3⟩
    have HB3 := Lib.hid (HB2.out.trans (hb3.mono HB2.out.size))
    clear hb3
    go_wp2
    go_ret2
    exact ⟨rfl, HB3.out⟩
theorem specStateIndex_any (b off c : Nat) (J : List Int) (x y : Nat → Int) (t : Bool) (w : World) (hn : J.length ≤ 1048576) (hb : b < w.heap.size) (hc : At .i16 w b off J) :
    Calls Try.prog 19 #[puzV (some ⟨b, off, none⟩) J.length c x t, watV y] w fun e w' => e = .returned (.tuple #[.int .i64 (sixV J x y), .int .i64 (codW J x y)]) ∧ Below w.heap.size w w' := by
  have hB1 := (Below.refl w.heap.size w).alloc (Nat.le_refl _) (.cells #[.slice (some ⟨b, off, none⟩) J.length c, .int .i16 (x 0), .int .i16 (x 1), .int .i16 (x 2), .int .i16 (x 3), .bool t] 31)
  have hB := hB1.alloc hB1.size (.cells #[.int .i16 (y 0), .int .i16 (y 1), .int .i16 (y 2), .int .i16 (y 3)] 29)
  have k0 := (blk_new w #[.slice (some ⟨b, off, none⟩) J.length c, .int .i16 (x 0), .int .i16 (x 1), .int .i16 (x 2), .int .i16 (x 3), .bool t] 31).alloc (.cells #[.int .i16 (y 0), .int .i16 (y 1), .int .i16 (y 2), .int .i16 (y 3)] 29)
  have k1 := blk_new (w.alloc (.cells #[.slice (some ⟨b, off, none⟩) J.length c, .int .i16 (x 0), .int .i16 (x 1), .int .i16 (x 2), .int .i16 (x 3), .bool t] 31)) #[.int .i16 (y 0), .int .i16 (y 1), .int .i16 (y 2), .int .i16 (y 3)] 29
  rw [World.size_alloc] at k1
  have hb1 := Nat.lt_of_lt_of_le hb hB.size
  have hc1 := hc.below hB hb
  clear hB1 hc
  have HO := Lib.hid (l02Ok_any w.heap.size b off c J x t _ hn hb1 hc1 k0)
  have HB := Lib.hid hB
  have HX := Lib.hid (And.intro k0 (And.intro k1 hc1))
  clear hB k0 k1 hc1
  unfold codW sixV okW2
  cases hok : okZ J x
  · rw [hok] at HO
    clear hok
    simp only [Bool.false_and, Bool.false_eq_true, if_false]
    go_enter Try.func19, Try.ntmps19
    go_wp2_with fail
    refine HO.out.mono ?_
    rintro e w2 ⟨rfl, hb2⟩
    have HB2 := Lib.hid (HB.out.trans (hb2.mono HB.out.size))
    clear hb2
    go_wp2
    go_ret2
    exact ⟨rfl, HB2.out⟩
  rw [hok] at HO
  have HJ := Lib.hid (okZ_J hok)
  clear hok
  simp only [Bool.true_and]
  cases hox : okX J y
  · simp only [Bool.false_eq_true, if_false]
    have HW := Lib.hid (fun W (hW : b < W.heap.size) (h : At .i16 W b off J) => l02Water_any b off c J y W hW h)
    rw [hox] at HW
    clear hox
    go_enter Try.func19, Try.ntmps19
    go_wp2_with fail
    refine HO.out.mono ?_
    rintro e w2 ⟨rfl, hb2⟩
    have HB2 := Lib.hid (HB.out.trans (hb2.mono HB.out.size))
    obtain ⟨c0, c1, c2, c3, c4, c5, _⟩ := (HX.out.1.below hb2 HX.out.1.lt).six
    obtain ⟨d0, d1, d2, d3, _⟩ := (HX.out.2.1.below hb2 HX.out.2.1.lt).four
    have hbw := Nat.lt_of_lt_of_le hb1 hb2.size
    have HC := Lib.hid (HX.out.2.2.below hb2 hb1)
    clear hb2 hb1
    go_wp2_with fail
    refine (HW.out w2 hbw HC.out).mono ?_
    rintro e w3 ⟨rfl, hb3⟩
    have HB3 := Lib.hid (HB2.out.trans (hb3.mono HB2.out.size))
    clear hb3
    go_wp2
    go_ret2
    exact ⟨rfl, HB3.out⟩
  · simp only [if_true]
    have HW := Lib.hid (fun W (hW : b < W.heap.size) (h : At .i16 W b off J) => l02Water_any b off c J y W hW h)
    rw [hox] at HW
    have HY := Lib.hid (of_cb (p := OkX J y) hox)
    clear hox
    go_enter Try.func19, Try.ntmps19
    go_wp2_with fail
    refine HO.out.mono ?_
    rintro e w2 ⟨rfl, hb2⟩
    have HB2 := Lib.hid (HB.out.trans (hb2.mono HB.out.size))
    have HX2 := Lib.hid (And.intro (HX.out.1.below hb2 HX.out.1.lt) (And.intro (HX.out.2.1.below hb2 HX.out.2.1.lt) (HX.out.2.2.below hb2 hb1)))
    have hbw := Nat.lt_of_lt_of_le hb1 hb2.size
    clear hb2 hb1
    obtain ⟨c0, c1, c2, c3, c4, c5, _⟩ := HX2.out.1.six
    obtain ⟨d0, d1, d2, d3, _⟩ := HX2.out.2.1.four
    go_wp2_with fail
    refine (HW.out w2 hbw HX2.out.2.2).mono ?_
    rintro e w3 ⟨rfl, hb3⟩
    clear c0 c1 c2 c3 c4 c5 d0 d1 d2 d3
    have HB3 := Lib.hid (HB2.out.trans (hb3.mono HB2.out.size))
    obtain ⟨d0, d1, d2, d3, _⟩ := (HX2.out.2.1.below hb3 HX2.out.2.1.lt).four
    have HK := Lib.hid (HX2.out.1.below hb3 HX2.out.1.lt)
    have HC := Lib.hid (HX2.out.2.2.below hb3 hbw)
    have hbw3 := Nat.lt_of_lt_of_le hbw hb3.size
    clear hb3
    go_wp2_with fail
    refine (l02Index_any w.heap.size b off c J x y t w3 HJ.out.1.2 HJ.out.1.1 HJ.out.2.1 HY.out hbw3 HC.out HK.out).mono ?_
    rintro e w4 ⟨rfl, hb4⟩
    have HB4 := Lib.hid (HB3.out.trans (hb4.mono HB3.out.size))
    clear hb4
    go_wp2
    go_ret2
    exact ⟨rfl, HB4.out⟩
end Go.Proofs.Ytidbaijkgkbadaa
