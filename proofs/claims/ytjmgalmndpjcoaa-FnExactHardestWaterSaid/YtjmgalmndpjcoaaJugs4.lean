/-
  The walks of ValidWater, StatesOf and StateIndex, in the program and in its model.
-/
import Derived.Test.YtjmgalmndpjcoaaJugs3
namespace Go.Proofs.Ytjmgalmndpjcoaa
open Go.RowKit
set_option maxRecDepth 100000

noncomputable def okW2 (J : List Int) (x y : Nat → Int) : Bool := okZ J x && okX J y
theorem okZ_J {J : List Int} {x : Nat → Int} (h : okZ J x = true) : OkJ J := (of_cb (p := OkZ J x) h).1
theorem validWater_any (b off c : Nat) (J : List Int) (x y : Nat → Int) (t : Bool) (w : World) (hn : J.length ≤ 1048576) (hb : b < w.heap.size) (hc : At .i16 w b off J) (hi : I16 J) :
    Calls Try.prog 45 #[puzV (some ⟨b, off, none⟩) J.length c x t, watV y] w fun e w' => e = .returned (.bool (okW2 J x y)) ∧ Below w.heap.size w w' := by
  have hB1 := (Below.refl w.heap.size w).alloc (Nat.le_refl _) (.cells #[.slice (some ⟨b, off, none⟩) J.length c, .int .i16 (x 0), .int .i16 (x 1), .int .i16 (x 2), .int .i16 (x 3), .bool t] 32)
  have hB := hB1.alloc hB1.size (.cells #[.int .i16 (y 0), .int .i16 (y 1), .int .i16 (y 2), .int .i16 (y 3)] 30)
  have k0 := (blk_new w #[.slice (some ⟨b, off, none⟩) J.length c, .int .i16 (x 0), .int .i16 (x 1), .int .i16 (x 2), .int .i16 (x 3), .bool t] 32).alloc (.cells #[.int .i16 (y 0), .int .i16 (y 1), .int .i16 (y 2), .int .i16 (y 3)] 30)
  have k1 := blk_new (w.alloc (.cells #[.slice (some ⟨b, off, none⟩) J.length c, .int .i16 (x 0), .int .i16 (x 1), .int .i16 (x 2), .int .i16 (x 3), .bool t] 32)) #[.int .i16 (y 0), .int .i16 (y 1), .int .i16 (y 2), .int .i16 (y 3)] 30
  rw [World.size_alloc] at k1
  have hb1 := Nat.lt_of_lt_of_le hb hB.size
  have hc1 := hc.below hB hb
  clear hB1 hc
  have HO := Lib.hid (validPuzzle_any b off c J x t _ hn hb1 hc1 hi)
  obtain ⟨c0, c1, c2, c3, c4, c5, _⟩ := k0.six
  unfold okW2
  cases hok : okZ J x
  · rw [hok] at HO
    clear hok
    simp only [Bool.false_and]
    have HB := Lib.hid hB
    clear hB k0 k1 hc1
    go_enter Try.func45, Try.ntmps45
    go_wp2_with fail
    refine HO.out.mono ?_
    rintro e w2 ⟨rfl, hb2⟩
    have HB2 := Lib.hid (HB.out.trans (hb2.mono HB.out.size))
    clear hb2
    go_wp2
    go_ret
    exact ⟨rfl, HB2.out⟩
  · rw [hok] at HO
    have hl := (okZ_J hok).1.2
    clear hok
    simp only [Bool.true_and]
    have HB := Lib.hid hB
    have HX := Lib.hid (And.intro k0 (And.intro k1 hc1))
    clear hB k0 k1 hc1
    go_enter Try.func45, Try.ntmps45
    go_wp2_with fail
    refine HO.out.mono ?_
    rintro e w2 ⟨rfl, hb2⟩
    have HB2 := Lib.hid (HB.out.trans (hb2.mono HB.out.size))
    clear c0 c1 c2 c3 c4 c5
    obtain ⟨c0, c1, c2, c3, c4, c5, _⟩ := (HX.out.1.below hb2 HX.out.1.lt).six
    obtain ⟨d0, d1, d2, d3, _⟩ := (HX.out.2.1.below hb2 HX.out.2.1.lt).four
    have hbw := Nat.lt_of_lt_of_le hb1 hb2.size
    have HC := Lib.hid (HX.out.2.2.below hb2 hb1)
    clear hb2 hb1
    go_wp2_with fail
    refine (canHold_any b off c J y w2 hl hbw HC.out).mono ?_
    rintro e w3 ⟨rfl, hb3⟩
    have HB3 := Lib.hid (HB2.out.trans (hb3.mono HB2.out.size))
    clear hb3
    go_wp2
    go_ret
    exact ⟨rfl, HB3.out⟩
/-- The codes: 0, or 1 for what is not valid. -/
noncomputable def codZ (J : List Int) (x : Nat → Int) : Int := if okZ J x = true then 0 else 1
noncomputable def sofV (J : List Int) (x : Nat → Int) : Int := if okZ J x = true then stTo J J.length else 0
end Go.Proofs.Ytjmgalmndpjcoaa
