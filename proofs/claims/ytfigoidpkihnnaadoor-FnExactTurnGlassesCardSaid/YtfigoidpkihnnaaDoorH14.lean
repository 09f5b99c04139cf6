/-
  TurnGlasses and WaitFor in the program.
-/
import Derived.Test.YtfigoidpkihnnaaDoorH13
namespace Go.Proofs.YtfigoidpkihnnaaDoor
open Go.RowKit
set_option maxRecDepth 100000

theorem hg_row {w : World} {h : Nat} {x : Nat → Int} {v : Value} {t : TypeId} (hk : Blk w h #[.int .i16 (x 0), .int .i16 (x 1), .int .i16 (x 2), .int .i16 (x 3), v] t) : w.rowIs h t 5 (hgF x v) :=
  ⟨_, hk, rfl, fun i hi => by
    have : i = 0 ∨ i = 1 ∨ i = 2 ∨ i = 3 ∨ i = 4 := by omega
    rcases this with rfl | rfl | rfl | rfl | rfl <;> rfl⟩
theorem trTo_w16 {J : List Int} {x : Nat → Int} {s : Int} (hE : Each J J.length) (h : OkX J x) (k : Nat) (hk : k ≤ J.length) : OkX J (trTo J x s k) := fun i hi => by
  have h1 := h i hi
  unfold trTo
  by_cases hc : i < k ∧ bitT s i = true
  · rw [if_pos hc]
    have := hE i (by omega)
    omega
  · rw [if_neg hc]; exact h1
theorem turnGlasses_any (b off c : Nat) (J : List Int) (x : Nat → Int) (s : Int) (w : World) (hn : J.length ≤ 1048576) (hb : b < w.heap.size) (hc : At .i16 w b off J) (hi : I16 J) (hs : 0 ≤ s ∧ s ≤ 255) (hg : w.cell? ⟨0, 0, none⟩ = some errV) :
    Calls Tryd.prog 8 #[.slice (some ⟨b, off, none⟩) J.length c, watV x, .int .u8 s] w fun e w' => e = .returned (.tuple #[watV (tgX J x s), .int .i64 (tgC J x s)]) ∧ Below w.heap.size w w' := by
  have k1 := (blk_new w #[.int .i16 (x 0), .int .i16 (x 1), .int .i16 (x 2), .int .i16 (x 3)] 25).alloc (.cells #[.int .i16 0, .int .i16 0, .int .i16 0, .int .i16 0] 25)
  have k2 := blk_new (w.alloc (.cells #[.int .i16 (x 0), .int .i16 (x 1), .int .i16 (x 2), .int .i16 (x 3)] 25)) #[.int .i16 0, .int .i16 0, .int .i16 0, .int .i16 0] 25
  have hB := ((Below.refl w.heap.size w).alloc (Nat.le_refl _) (.cells #[.int .i16 (x 0), .int .i16 (x 1), .int .i16 (x 2), .int .i16 (x 3)] 25)).alloc (by simp) (.cells #[.int .i16 0, .int .i16 0, .int .i16 0, .int .i16 0] 25)
  simp only [World.size_alloc] at k2
  have hc1 := hc.below hB hb
  have hb1 := Nat.lt_of_lt_of_le hb hB.size
  have HV := Lib.hid (validTops_any b off c J x _ hn hb1 hc1 hi)
  have hge := errV_lt hg
  have HGG := Lib.hid (errV_below hg hB hge)
  have HC := Lib.hid hc1
  have HK1 := Lib.hid k1
  have HK2 := Lib.hid k2
  have HB := Lib.hid hB
  obtain ⟨c0, c1, c2, c3, -⟩ := k1.four
  have hle : w.heap.size ≤ w.heap.size + 1 := by omega
  clear hB hc hc1 k1 k2
  clear hg
  cases hok : okT J x
  · rw [hok] at HV
    have HE := Lib.hid (tg_bad (s := s) hok)
    clear hok
    go_enter Tryd.func8, Tryd.ntmps8
    go_wp2_with fail
    refine HV.out.mono ?_
    rintro e w2 ⟨rfl, hb2⟩
    have HB2 := Lib.hid (HB.out.trans (hb2.mono HB.out.size))
    obtain ⟨z0, z1, z2, z3, z4⟩ := (HK2.out.below hb2 HK2.out.lt).four
    clear hb2 c0 c1 c2 c3
    go_wp2
    refine bodyPost_ret (v := .tuple #[watV noT, .int .i64 1]) (by simp [results, Tryd.results8, go_sem, z0, z1, z2, z3, noT]) rfl ⟨by rw [HE.out.1, HE.out.2], ?_⟩
    exact (((HB2.out.setCell hle _).setCell hle _).setCell hle _).setCell hle _
  rw [hok] at HV
  have HG := Lib.hid (okT_G hok)
  have HX := Lib.hid (okT_X hok)
  have hl4 := HG.out.1.2
  by_cases hs2 : 2 ^ J.length ≤ s
  · have HE := Lib.hid (tg_far hok hs2)
    clear hok
    go_enter Tryd.func8, Tryd.ntmps8
    go_wp2_with fail
    refine HV.out.mono ?_
    rintro e w2 ⟨rfl, hb2⟩
    have HB2 := Lib.hid (HB.out.trans (hb2.mono HB.out.size))
    have HK12 := Lib.hid (HK1.out.below hb2 HK1.out.lt)
    have HK22 := Lib.hid (HK2.out.below hb2 HK2.out.lt)
    have HC2 := Lib.hid (HC.out.below hb2 hb1)
    have hb12 := Nat.lt_of_lt_of_le hb1 hb2.size
    have HGG2 := Lib.hid (errV_below HGG.out hb2 (Nat.lt_of_lt_of_le hge HB.out.size))
    clear hb2 c0 c1 c2 c3
    obtain ⟨c0, c1, c2, c3, -⟩ := HK12.out.four
    have hB3 := (Below.refl w2.heap.size w2).alloc (Nat.le_refl _) (.cells #[.int .i16 (x 0), .int .i16 (x 1), .int .i16 (x 2), .int .i16 (x 3), .slice (some ⟨b, off, none⟩) J.length c] 41)
    have k3 := blk_new w2 #[.int .i16 (x 0), .int .i16 (x 1), .int .i16 (x 2), .int .i16 (x 3), .slice (some ⟨b, off, none⟩) J.length c] 41
    have HC3 := Lib.hid (HC2.out.below hB3 hb12)
    have HK23 := Lib.hid (HK22.out.below hB3 HK22.out.lt)
    have HGG3 := Lib.hid (errV_below HGG2.out hB3 (Nat.lt_of_lt_of_le hge HB2.out.size))
    have HB3 := Lib.hid (HB2.out.trans (hB3.mono HB2.out.size))
    have HR3 := Lib.hid (hg_row k3)
    have hlt2 := HK22.out.lt
    have hs3 := hB3.size
    have hz3 : (w2.alloc (.cells #[.int .i16 (x 0), .int .i16 (x 1), .int .i16 (x 2), .int .i16 (x 3), .slice (some ⟨b, off, none⟩) J.length c] 41)).heap.size = w2.heap.size + 1 := by simp
    clear hB3 k3
    go_wp2_with fail
    refine (turnFar_any w2.heap.size b off c J x s _ hl4 hs2 HR3.out).mono ?_
    rintro e w' ⟨rfl, rfl⟩
    go_wp2_with fail
    refine (codeS_any s _ HGG3.out).mono ?_
    rintro e w4 ⟨rfl, hb4⟩
    have HB4 := Lib.hid (HB3.out.trans (hb4.mono HB3.out.size))
    obtain ⟨z0, z1, z2, z3, z4⟩ := (HK23.out.below hb4 HK23.out.lt).four
    clear hb4 c0 c1 c2 c3
    go_wp2
    refine bodyPost_ret (v := .tuple #[watV noT, .int .i64 2]) (by simp [results, Tryd.results8, go_sem, z0, z1, z2, z3, noT]) rfl ⟨by rw [HE.out.1, HE.out.2], ?_⟩
    exact (((HB4.out.setCell hle _).setCell hle _).setCell hle _).setCell hle _
  · have HE := Lib.hid (tg_ok hok hs2)
    clear hok
    go_enter Tryd.func8, Tryd.ntmps8
    go_wp2_with fail
    refine HV.out.mono ?_
    rintro e w2 ⟨rfl, hb2⟩
    have HB2 := Lib.hid (HB.out.trans (hb2.mono HB.out.size))
    have HK12 := Lib.hid (HK1.out.below hb2 HK1.out.lt)
    have HK22 := Lib.hid (HK2.out.below hb2 HK2.out.lt)
    have HC2 := Lib.hid (HC.out.below hb2 hb1)
    have hb12 := Nat.lt_of_lt_of_le hb1 hb2.size
    have HGG2 := Lib.hid (errV_below HGG.out hb2 (Nat.lt_of_lt_of_le hge HB.out.size))
    clear hb2 c0 c1 c2 c3
    obtain ⟨c0, c1, c2, c3, -⟩ := HK12.out.four
    have hB3 := (Below.refl w2.heap.size w2).alloc (Nat.le_refl _) (.cells #[.int .i16 (x 0), .int .i16 (x 1), .int .i16 (x 2), .int .i16 (x 3), .slice (some ⟨b, off, none⟩) J.length c] 41)
    have k3 := blk_new w2 #[.int .i16 (x 0), .int .i16 (x 1), .int .i16 (x 2), .int .i16 (x 3), .slice (some ⟨b, off, none⟩) J.length c] 41
    have HC3 := Lib.hid (HC2.out.below hB3 hb12)
    have HK23 := Lib.hid (HK22.out.below hB3 HK22.out.lt)
    have HGG3 := Lib.hid (errV_below HGG2.out hB3 (Nat.lt_of_lt_of_le hge HB2.out.size))
    have HB3 := Lib.hid (HB2.out.trans (hB3.mono HB2.out.size))
    have HR3 := Lib.hid (hg_row k3)
    have hlt2 := HK22.out.lt
    have hs3 := hB3.size
    have hz3 : (w2.alloc (.cells #[.int .i16 (x 0), .int .i16 (x 1), .int .i16 (x 2), .int .i16 (x 3), .slice (some ⟨b, off, none⟩) J.length c] 41)).heap.size = w2.heap.size + 1 := by simp
    clear hB3 k3
    go_wp2_with fail
    refine (turn_any w2.heap.size b off c J x s _ hl4 HG.out.2.1.each HX.out hs (Int.not_le.2 hs2) hb12 HC3.out HR3.out).mono ?_
    rintro e w4 ⟨rfl, hr4, hb4⟩
    have HB4 := Lib.hid (HB2.out.trans (((Below.refl w2.heap.size w2).alloc (Nat.le_refl _) (.cells #[.int .i16 (x 0), .int .i16 (x 1), .int .i16 (x 2), .int .i16 (x 3), .slice (some ⟨b, off, none⟩) J.length c] 41)).trans hb4 |>.mono HB2.out.size))
    obtain ⟨z0, z1, z2, z3, z4⟩ := (HK23.out.below hb4 hlt2).four
    obtain ⟨h0, h1, h2, h3, h4⟩ := hg_five hr4
    clear hb4 hr4 c0 c1 c2 c3
    generalize hEE : trTo J x s J.length = E at *
    have HEE := Lib.hid hEE
    clear hEE
    go_wp2
    refine bodyPost_ret (v := .tuple #[watV E, .int .i64 0]) (by simp [results, Tryd.results8, go_sem, z0, z1, z2, z3]) rfl ⟨by rw [HE.out.1, HE.out.2], ?_⟩
    exact (((HB4.out.setCell hle _).setCell hle _).setCell hle _).setCell hle _
theorem waitFor_any (b off c : Nat) (J : List Int) (x : Nat → Int) (w : World) (hn : J.length ≤ 1048576) (hb : b < w.heap.size) (hc : At .i16 w b off J) (hi : I16 J) (hx : W16 x) (hg : w.cell? ⟨0, 0, none⟩ = some errV) :
    Calls Tryd.prog 12 #[.slice (some ⟨b, off, none⟩) J.length c, watV x] w fun e w' => e = .returned (.tuple #[watV (wfX J x), .int .i64 (wfM J x), .int .i64 (wfC J x)]) ∧ Below w.heap.size w w' := by
  have k1 := (blk_new w #[.int .i16 (x 0), .int .i16 (x 1), .int .i16 (x 2), .int .i16 (x 3)] 25).alloc (.cells #[.int .i16 0, .int .i16 0, .int .i16 0, .int .i16 0] 25)
  have k2 := blk_new (w.alloc (.cells #[.int .i16 (x 0), .int .i16 (x 1), .int .i16 (x 2), .int .i16 (x 3)] 25)) #[.int .i16 0, .int .i16 0, .int .i16 0, .int .i16 0] 25
  have hB := ((Below.refl w.heap.size w).alloc (Nat.le_refl _) (.cells #[.int .i16 (x 0), .int .i16 (x 1), .int .i16 (x 2), .int .i16 (x 3)] 25)).alloc (by simp) (.cells #[.int .i16 0, .int .i16 0, .int .i16 0, .int .i16 0] 25)
  simp only [World.size_alloc] at k2
  have hc1 := hc.below hB hb
  have hb1 := Nat.lt_of_lt_of_le hb hB.size
  have HV := Lib.hid (validTops_any b off c J x _ hn hb1 hc1 hi)
  have hge := errV_lt hg
  have HGG := Lib.hid (errV_below hg hB hge)
  have HC := Lib.hid hc1
  have HK1 := Lib.hid k1
  have HK2 := Lib.hid k2
  have HB := Lib.hid hB
  obtain ⟨c0, c1, c2, c3, -⟩ := k1.four
  have hle : w.heap.size ≤ w.heap.size + 1 := by omega
  clear hB hc hc1 k1 k2
  clear hg
  cases hok : okT J x
  · rw [hok] at HV
    have HE := Lib.hid (wf_bad hok)
    clear hok
    go_enter Tryd.func12, Tryd.ntmps12
    go_wp2_with fail
    refine HV.out.mono ?_
    rintro e w2 ⟨rfl, hb2⟩
    have HB2 := Lib.hid (HB.out.trans (hb2.mono HB.out.size))
    obtain ⟨z0, z1, z2, z3, z4⟩ := (HK2.out.below hb2 HK2.out.lt).four
    clear hb2 c0 c1 c2 c3
    go_wp2
    refine bodyPost_ret (v := .tuple #[watV noT, .int .i64 0, .int .i64 1]) (by simp [results, Tryd.results12, go_sem, z0, z1, z2, z3, noT]) rfl ⟨by rw [HE.out.1, HE.out.2.1, HE.out.2.2], ?_⟩
    exact (((HB2.out.setCell hle _).setCell hle _).setCell hle _).setCell hle _
  rw [hok] at HV
  have HX := Lib.hid (okT_X hok)
  have HX0 := Lib.hid (show ∀ i, i < 4 → 0 ≤ x i from fun i h => (HX.out i h).1)
  by_cases h0 : lsTo x 4 = 0
  · have HE := Lib.hid (wf_none hok h0)
    clear hok
    go_enter Tryd.func12, Tryd.ntmps12
    go_wp2_with fail
    refine HV.out.mono ?_
    rintro e w2 ⟨rfl, hb2⟩
    have HB2 := Lib.hid (HB.out.trans (hb2.mono HB.out.size))
    have HK12 := Lib.hid (HK1.out.below hb2 HK1.out.lt)
    have HK22 := Lib.hid (HK2.out.below hb2 HK2.out.lt)
    have HC2 := Lib.hid (HC.out.below hb2 hb1)
    have hb12 := Nat.lt_of_lt_of_le hb1 hb2.size
    have HGG2 := Lib.hid (errV_below HGG.out hb2 (Nat.lt_of_lt_of_le hge HB.out.size))
    clear hb2 c0 c1 c2 c3
    obtain ⟨c0, c1, c2, c3, -⟩ := HK12.out.four
    have hB3 := (Below.refl w2.heap.size w2).alloc (Nat.le_refl _) (.cells #[.int .i16 (x 0), .int .i16 (x 1), .int .i16 (x 2), .int .i16 (x 3), .slice (some ⟨b, off, none⟩) J.length c] 41)
    have k3 := blk_new w2 #[.int .i16 (x 0), .int .i16 (x 1), .int .i16 (x 2), .int .i16 (x 3), .slice (some ⟨b, off, none⟩) J.length c] 41
    have HC3 := Lib.hid (HC2.out.below hB3 hb12)
    have HK23 := Lib.hid (HK22.out.below hB3 HK22.out.lt)
    have HGG3 := Lib.hid (errV_below HGG2.out hB3 (Nat.lt_of_lt_of_le hge HB2.out.size))
    have HB3 := Lib.hid (HB2.out.trans (hB3.mono HB2.out.size))
    have HR3 := Lib.hid (hg_row k3)
    have hlt2 := HK22.out.lt
    have hs3 := hB3.size
    have hz3 : (w2.alloc (.cells #[.int .i16 (x 0), .int .i16 (x 1), .int .i16 (x 2), .int .i16 (x 3), .slice (some ⟨b, off, none⟩) J.length c] 41)).heap.size = w2.heap.size + 1 := by simp
    clear hB3 k3
    go_wp2_with fail
    refine (waitNone_any w2.heap.size x _ _ HX0.out h0 HR3.out).mono ?_
    rintro e w4 ⟨rfl, hb4⟩
    have HB4 := Lib.hid (HB3.out.trans (hb4.mono HB3.out.size))
    have HK24 := Lib.hid (HK23.out.below hb4 HK23.out.lt)
    have HGG4 := Lib.hid (errV_below HGG3.out hb4 (Nat.lt_of_lt_of_le hge HB3.out.size))
    clear hb4 c0 c1 c2 c3
    go_wp2_with fail
    refine (codeN_any _ HGG4.out).mono ?_
    rintro e w5 ⟨rfl, hb5⟩
    have HB5 := Lib.hid (HB4.out.trans (hb5.mono HB4.out.size))
    obtain ⟨z0, z1, z2, z3, z4⟩ := (HK24.out.below hb5 HK24.out.lt).four
    clear hb5
    go_wp2
    refine bodyPost_ret (v := .tuple #[watV noT, .int .i64 0, .int .i64 4]) (by simp [results, Tryd.results12, go_sem, z0, z1, z2, z3, noT]) rfl ⟨by rw [HE.out.1, HE.out.2.1, HE.out.2.2], ?_⟩
    exact (((HB5.out.setCell hle _).setCell hle _).setCell hle _).setCell hle _
  · have HE := Lib.hid (wf_ok hok h0)
    clear hok
    go_enter Tryd.func12, Tryd.ntmps12
    go_wp2_with fail
    refine HV.out.mono ?_
    rintro e w2 ⟨rfl, hb2⟩
    have HB2 := Lib.hid (HB.out.trans (hb2.mono HB.out.size))
    have HK12 := Lib.hid (HK1.out.below hb2 HK1.out.lt)
    have HK22 := Lib.hid (HK2.out.below hb2 HK2.out.lt)
    have HC2 := Lib.hid (HC.out.below hb2 hb1)
    have hb12 := Nat.lt_of_lt_of_le hb1 hb2.size
    have HGG2 := Lib.hid (errV_below HGG.out hb2 (Nat.lt_of_lt_of_le hge HB.out.size))
    clear hb2 c0 c1 c2 c3
    obtain ⟨c0, c1, c2, c3, -⟩ := HK12.out.four
    have hB3 := (Below.refl w2.heap.size w2).alloc (Nat.le_refl _) (.cells #[.int .i16 (x 0), .int .i16 (x 1), .int .i16 (x 2), .int .i16 (x 3), .slice (some ⟨b, off, none⟩) J.length c] 41)
    have k3 := blk_new w2 #[.int .i16 (x 0), .int .i16 (x 1), .int .i16 (x 2), .int .i16 (x 3), .slice (some ⟨b, off, none⟩) J.length c] 41
    have HC3 := Lib.hid (HC2.out.below hB3 hb12)
    have HK23 := Lib.hid (HK22.out.below hB3 HK22.out.lt)
    have HGG3 := Lib.hid (errV_below HGG2.out hB3 (Nat.lt_of_lt_of_le hge HB2.out.size))
    have HB3 := Lib.hid (HB2.out.trans (hB3.mono HB2.out.size))
    have HR3 := Lib.hid (hg_row k3)
    have hlt2 := HK22.out.lt
    have hs3 := hB3.size
    have hz3 : (w2.alloc (.cells #[.int .i16 (x 0), .int .i16 (x 1), .int .i16 (x 2), .int .i16 (x 3), .slice (some ⟨b, off, none⟩) J.length c] 41)).heap.size = w2.heap.size + 1 := by simp
    clear hB3 k3
    go_wp2_with fail
    refine (wait_any w2.heap.size x _ _ hx HX0.out h0 HR3.out).mono ?_
    rintro e w4 ⟨rfl, hr4, hb4⟩
    have HB4 := Lib.hid (HB2.out.trans (((Below.refl w2.heap.size w2).alloc (Nat.le_refl _) (.cells #[.int .i16 (x 0), .int .i16 (x 1), .int .i16 (x 2), .int .i16 (x 3), .slice (some ⟨b, off, none⟩) J.length c] 41)).trans hb4 |>.mono HB2.out.size))
    obtain ⟨z0, z1, z2, z3, z4⟩ := (HK23.out.below hb4 hlt2).four
    obtain ⟨h0', h1, h2, h3, h4⟩ := hg_five hr4
    clear hb4 hr4 c0 c1 c2 c3
    have hbd := lsTo_bd hx 4 (Nat.le_refl _)
    generalize wtTo x (lsTo x 4) 4 = E at *
    generalize lsTo x 4 = m at *
    go_wp2
    refine bodyPost_ret (v := .tuple #[watV E, .int .i64 m, .int .i64 0]) (by simp [results, Tryd.results12, go_sem, z0, z1, z2, z3]) rfl ⟨by rw [HE.out.1, HE.out.2.1, HE.out.2.2], ?_⟩
    exact (((HB4.out.setCell hle _).setCell hle _).setCell hle _).setCell hle _
end Go.Proofs.YtfigoidpkihnnaaDoor
