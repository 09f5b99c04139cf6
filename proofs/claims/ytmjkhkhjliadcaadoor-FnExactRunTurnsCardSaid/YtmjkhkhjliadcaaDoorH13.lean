/-
  The codes of refusals; TurnGlasses and WaitFor in the program.
-/
import Derived.Test.YtmjkhkhjliadcaaDoorH12
namespace Go.Proofs.YtmjkhkhjliadcaaDoor
open Go.RowKit
set_option maxRecDepth 100000

theorem errV_lt {w : World} (hg : w.cell? ⟨0, 0, none⟩ = some errV) : 0 < w.heap.size := by
  rcases Nat.lt_or_ge 0 w.heap.size with h | h
  · exact h
  · simp [World.cell?, Array.getElem?_eq_none h] at hg
theorem errV_below {w w' : World} {B : Nat} (hg : w.cell? ⟨0, 0, none⟩ = some errV) (hb : Below B w w') (hB : 0 < B) : w'.cell? ⟨0, 0, none⟩ = some errV := (hb.cell (p := ⟨0, 0, none⟩) hB).trans hg
theorem codeS_any (s : Int) (w : World) (hg : w.cell? ⟨0, 0, none⟩ = some errV) :
    Calls Tryd.prog 25 #[.iface 69 (.agg #[.int .u8 s])] w fun e w' => e = .returned (.int .i64 2) ∧ Below w.heap.size w w' := by
  have hlt := errV_lt hg
  have hB := (((Below.refl w.heap.size w).alloc (Nat.le_refl _) (.cells #[.int .i64 0] 63)).alloc (by simp) (.cells #[.int .u8 0] 69)).alloc (by simp <;> omega) (.cells #[] 71)
  have kL := ((blk_new w #[.int .i64 0] 63).alloc (.cells #[.int .u8 0] 69)).alloc (.cells #[] 71)
  have kS := (blk_new (w.alloc (.cells #[.int .i64 0] 63)) #[.int .u8 0] 69).alloc (.cells #[] 71)
  simp only [World.size_alloc] at kS
  have HK := Lib.hid (And.intro kL kS)
  have HB := Lib.hid hB
  have HGG := Lib.hid (errV_below hg hB hlt)
  have hsz : (((w.alloc (.cells #[.int .i64 0] 63)).alloc (.cells #[.int .u8 0] 69)).alloc (.cells #[] 71)).heap.size = w.heap.size + 3 := by simp
  have HSZ := Lib.hid hsz
  clear hB kL kS hg hsz
  go_enter Tryd.func25, Tryd.ntmps25
  go_wp2_with fail
  refine (asMissSL _ _ _ HGG.out).mono ?_
  rintro e w2 ⟨rfl, hb2⟩
  have HB2 := Lib.hid (HB.out.trans (hb2.mono HB.out.size))
  have HGG2 := Lib.hid (errV_below HGG.out hb2 (Nat.lt_of_lt_of_le hlt HB.out.size))
  have HK2 := Lib.hid (And.intro (HK.out.1.below hb2 HK.out.1.lt) (HK.out.2.below hb2 HK.out.2.lt))
  have HS2 := Lib.hid hb2.size
  clear hb2
  go_wp2_with fail
  refine (asHitS s _ _ w.heap.size _ HGG2.out (HK2.out.2.cell 0) (HK2.out.2.free 0) (by show w.heap.size ≤ w.heap.size + 1; omega) HB2.out.size).mono ?_
  rintro e w3 ⟨rfl, hb3⟩
  have HBF := Lib.hid (HB2.out.trans hb3)
  clear hb3
  go_wp2
  go_ret
  exact ⟨rfl, HBF.out⟩
theorem codeN_any (w : World) (hg : w.cell? ⟨0, 0, none⟩ = some errV) :
    Calls Tryd.prog 25 #[.iface 71 (.agg #[])] w fun e w' => e = .returned (.int .i64 4) ∧ Below w.heap.size w w' := by
  have hlt := errV_lt hg
  have hB := (((Below.refl w.heap.size w).alloc (Nat.le_refl _) (.cells #[.int .i64 0] 63)).alloc (by simp) (.cells #[.int .u8 0] 69)).alloc (by simp <;> omega) (.cells #[] 71)
  have kL := ((blk_new w #[.int .i64 0] 63).alloc (.cells #[.int .u8 0] 69)).alloc (.cells #[] 71)
  have kS := (blk_new (w.alloc (.cells #[.int .i64 0] 63)) #[.int .u8 0] 69).alloc (.cells #[] 71)
  simp only [World.size_alloc] at kS
  have HK := Lib.hid (And.intro kL kS)
  have HB := Lib.hid hB
  have HGG := Lib.hid (errV_below hg hB hlt)
  have hsz : (((w.alloc (.cells #[.int .i64 0] 63)).alloc (.cells #[.int .u8 0] 69)).alloc (.cells #[] 71)).heap.size = w.heap.size + 3 := by simp
  have HSZ := Lib.hid hsz
  clear hB kL kS hg hsz
  go_enter Tryd.func25, Tryd.ntmps25
  go_wp2_with fail
  refine (asMissNL _ _ _ HGG.out).mono ?_
  rintro e w2 ⟨rfl, hb2⟩
  have HB2 := Lib.hid (HB.out.trans (hb2.mono HB.out.size))
  have HGG2 := Lib.hid (errV_below HGG.out hb2 (Nat.lt_of_lt_of_le hlt HB.out.size))
  have HK2 := Lib.hid (And.intro (HK.out.1.below hb2 HK.out.1.lt) (HK.out.2.below hb2 HK.out.2.lt))
  have HS2 := Lib.hid hb2.size
  clear hb2
  go_wp2_with fail
  refine (asMissNS _ _ _ HGG2.out).mono ?_
  rintro e w3 ⟨rfl, hb3⟩
  have HB3 := Lib.hid (HB2.out.trans (hb3.mono HB2.out.size))
  have HGG3 := Lib.hid (errV_below HGG2.out hb3 (Nat.lt_of_lt_of_le hlt HB2.out.size))
  have HK3 := Lib.hid (And.intro (HK2.out.1.below hb3 HK2.out.1.lt) (HK2.out.2.below hb3 HK2.out.2.lt))
  have HS3 := Lib.hid hb3.size
  clear hb3
  go_wp2_with fail
  refine (asHitN _ w.heap.size _ HGG3.out (by show w.heap.size ≤ w.heap.size + 1 + 1; omega) HB3.out.size).mono ?_
  rintro e w4 ⟨rfl, hb4⟩
  have HBF := Lib.hid (HB3.out.trans hb4)
  clear hb4
  go_wp2
  go_ret
  exact ⟨rfl, HBF.out⟩
theorem codeL_any (s : Int) (w : World) (hg : w.cell? ⟨0, 0, none⟩ = some errV) :
    Calls Tryd.prog 25 #[.iface 63 (.agg #[.int .i64 s])] w fun e w' => e = .returned (.int .i64 3) ∧ Below w.heap.size w w' := by
  have hlt := errV_lt hg
  have hB := (((Below.refl w.heap.size w).alloc (Nat.le_refl _) (.cells #[.int .i64 0] 63)).alloc (by simp) (.cells #[.int .u8 0] 69)).alloc (by simp <;> omega) (.cells #[] 71)
  have kL := ((blk_new w #[.int .i64 0] 63).alloc (.cells #[.int .u8 0] 69)).alloc (.cells #[] 71)
  have kS := (blk_new (w.alloc (.cells #[.int .i64 0] 63)) #[.int .u8 0] 69).alloc (.cells #[] 71)
  simp only [World.size_alloc] at kS
  have HK := Lib.hid (And.intro kL kS)
  have HB := Lib.hid hB
  have HGG := Lib.hid (errV_below hg hB hlt)
  have hsz : (((w.alloc (.cells #[.int .i64 0] 63)).alloc (.cells #[.int .u8 0] 69)).alloc (.cells #[] 71)).heap.size = w.heap.size + 3 := by simp
  have HSZ := Lib.hid hsz
  clear hB kL kS hg hsz
  go_enter Tryd.func25, Tryd.ntmps25
  go_wp2_with fail
  refine (asHitL s _ _ w.heap.size _ HGG.out (HK.out.1.cell 0) (HK.out.1.free 0) (by show w.heap.size ≤ w.heap.size; omega) HB.out.size).mono ?_
  rintro e w2 ⟨rfl, hb2⟩
  have HBF := Lib.hid (HB.out.trans hb2)
  clear hb2
  go_wp2
  go_ret
  exact ⟨rfl, HBF.out⟩
end Go.Proofs.YtmjkhkhjliadcaaDoor
