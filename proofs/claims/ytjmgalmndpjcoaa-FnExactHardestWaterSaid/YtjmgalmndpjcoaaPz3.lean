/-
  Equal puzzles are found equal.
-/
import Derived.Test.YtjmgalmndpjcoaaPz2
namespace Go.Proofs.Ytjmgalmndpjcoaa
open Go.RowKit
set_option maxRecDepth 100000

theorem eqPuzzle_same (b off c b2 off2 c2 : Nat) (J : List Int) (x : Nat → Int) (t : Bool) (w : World) (hn : J.length ≤ 1048576) (hb : b < w.heap.size) (hb2 : b2 < w.heap.size) (hc : At .i16 w b off J) (hc2 : At .i16 w b2 off2 J) :
    Calls Try.prog 14 #[puzV (some ⟨b, off, none⟩) J.length c x t, puzV (some ⟨b2, off2, none⟩) J.length c2 x t] w fun e w' => e = .returned (.bool true) ∧ Below w.heap.size w w' := by
  have hB1 := (Below.refl w.heap.size w).alloc (Nat.le_refl _) (.cells #[.slice (some ⟨b, off, none⟩) J.length c, .int .i16 (x 0), .int .i16 (x 1), .int .i16 (x 2), .int .i16 (x 3), .bool t] 32)
  have hB := hB1.alloc hB1.size (.cells #[.slice (some ⟨b2, off2, none⟩) J.length c2, .int .i16 (x 0), .int .i16 (x 1), .int .i16 (x 2), .int .i16 (x 3), .bool t] 32)
  have k0 := (blk_new w #[.slice (some ⟨b, off, none⟩) J.length c, .int .i16 (x 0), .int .i16 (x 1), .int .i16 (x 2), .int .i16 (x 3), .bool t] 32).alloc (.cells #[.slice (some ⟨b2, off2, none⟩) J.length c2, .int .i16 (x 0), .int .i16 (x 1), .int .i16 (x 2), .int .i16 (x 3), .bool t] 32)
  have k1 := blk_new (w.alloc (.cells #[.slice (some ⟨b, off, none⟩) J.length c, .int .i16 (x 0), .int .i16 (x 1), .int .i16 (x 2), .int .i16 (x 3), .bool t] 32)) #[.slice (some ⟨b2, off2, none⟩) J.length c2, .int .i16 (x 0), .int .i16 (x 1), .int .i16 (x 2), .int .i16 (x 3), .bool t] 32
  rw [World.size_alloc] at k1
  have HS := Lib.hid (eqInt16S_same b off c b2 off2 c2 J _ hn (hc.below hB hb) (hc2.below hB hb2))
  have HB := Lib.hid hB
  have HX := Lib.hid (And.intro k0 k1)
  clear hB hB1 k0 k1 hc hc2
  go_enter Try.func14, Try.ntmps14
  go_wp2_with fail
  refine HS.out.mono ?_
  rintro e w2 ⟨rfl, hd⟩
  have hb3 := hd.below
  clear hd
  have HB2 := Lib.hid (HB.out.trans (hb3.mono HB.out.size))
  have HX2 := Lib.hid (And.intro (HX.out.1.below hb3 HX.out.1.lt) (HX.out.2.below hb3 HX.out.2.lt))
  clear hb3
  obtain ⟨c0, c1, c2, c3, c4, c5, _⟩ := HX2.out.1.six
  obtain ⟨d0, d1, d2, d3, d4, d5, _⟩ := HX2.out.2.six
  go_wp2_with fail
  refine (eqWater_same x _).mono ?_
  rintro e w3 ⟨rfl, hb4⟩
  have HB3 := Lib.hid (HB2.out.trans (hb4.mono HB2.out.size))
  clear c0 c1 c2 c3 c4 c5 d0 d1 d2 d3 d4 d5
  obtain ⟨c0, c1, c2, c3, c4, c5, _⟩ := (HX2.out.1.below hb4 HX2.out.1.lt).six
  obtain ⟨d0, d1, d2, d3, d4, d5, _⟩ := (HX2.out.2.below hb4 HX2.out.2.lt).six
  clear hb4
  go_wp2
  go_ret
  exact ⟨rfl, HB3.out⟩
end Go.Proofs.Ytjmgalmndpjcoaa
