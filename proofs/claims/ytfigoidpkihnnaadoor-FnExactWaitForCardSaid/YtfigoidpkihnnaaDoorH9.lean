/-
  Turning glasses and waiting: the model's two functions.
-/
import Derived.Test.YtfigoidpkihnnaaDoorH8
namespace Go.Proofs.YtfigoidpkihnnaaDoor
open Go.RowKit
set_option maxRecDepth 100000

/-- No tops. -/
def noT (_ : Nat) : Int := 0
noncomputable def tgC (J : List Int) (x : Nat → Int) (s : Int) : Int := if okT J x = true then (if 2 ^ J.length ≤ s then 2 else 0) else 1
noncomputable def tgX (J : List Int) (x : Nat → Int) (s : Int) : Nat → Int := if tgC J x s = 0 then trTo J x s J.length else noT
noncomputable def wfC (J : List Int) (x : Nat → Int) : Int := if okT J x = true then (if lsTo x 4 = 0 then 4 else 0) else 1
noncomputable def wfX (J : List Int) (x : Nat → Int) : Nat → Int := if wfC J x = 0 then wtTo x (lsTo x 4) 4 else noT
noncomputable def wfM (J : List Int) (x : Nat → Int) : Int := if wfC J x = 0 then lsTo x 4 else 0
theorem tg_bad {J : List Int} {x : Nat → Int} {s : Int} (h : okT J x = false) : tgX J x s = noT ∧ tgC J x s = 1 := by
  have : tgC J x s = 1 := by unfold tgC; rw [h]; rfl
  exact ⟨by unfold tgX; rw [this]; rfl, this⟩
theorem tg_far {J : List Int} {x : Nat → Int} {s : Int} (h : okT J x = true) (hs : 2 ^ J.length ≤ s) : tgX J x s = noT ∧ tgC J x s = 2 := by
  have : tgC J x s = 2 := by unfold tgC; rw [h, if_pos rfl, if_pos hs]
  exact ⟨by unfold tgX; rw [this]; rfl, this⟩
theorem tg_ok {J : List Int} {x : Nat → Int} {s : Int} (h : okT J x = true) (hs : ¬ 2 ^ J.length ≤ s) : tgX J x s = trTo J x s J.length ∧ tgC J x s = 0 := by
  have : tgC J x s = 0 := by unfold tgC; rw [h, if_pos rfl, if_neg hs]
  exact ⟨by unfold tgX; rw [this]; rfl, this⟩
theorem wf_bad {J : List Int} {x : Nat → Int} (h : okT J x = false) : wfX J x = noT ∧ wfM J x = 0 ∧ wfC J x = 1 := by
  have : wfC J x = 1 := by unfold wfC; rw [h]; rfl
  exact ⟨by unfold wfX; rw [this]; rfl, by unfold wfM; rw [this]; rfl, this⟩
theorem wf_none {J : List Int} {x : Nat → Int} (h : okT J x = true) (hs : lsTo x 4 = 0) : wfX J x = noT ∧ wfM J x = 0 ∧ wfC J x = 4 := by
  have : wfC J x = 4 := by unfold wfC; rw [h, if_pos rfl, if_pos hs]
  exact ⟨by unfold wfX; rw [this]; rfl, by unfold wfM; rw [this]; rfl, this⟩
theorem wf_ok {J : List Int} {x : Nat → Int} (h : okT J x = true) (hs : ¬ lsTo x 4 = 0) : wfX J x = wtTo x (lsTo x 4) 4 ∧ wfM J x = lsTo x 4 ∧ wfC J x = 0 := by
  have : wfC J x = 0 := by unfold wfC; rw [h, if_pos rfl, if_neg hs]
  exact ⟨by unfold wfX; rw [this]; rfl, by unfold wfM; rw [this]; rfl, this⟩
theorem pow_len {J : List Int} (h : J.length ≤ 4) : 1 ≤ (2 : Int) ^ J.length ∧ (2 : Int) ^ J.length ≤ 16 := by
  generalize J.length = n at *
  have : n = 0 ∨ n = 1 ∨ n = 2 ∨ n = 3 ∨ n = 4 := by omega
  rcases this with rfl | rfl | rfl | rfl | rfl <;> decide
theorem specTurnGlasses_any (b off c : Nat) (J : List Int) (x : Nat → Int) (s : Int) (w : World) (hn : J.length ≤ 1048576) (hb : b < w.heap.size) (hc : At .i16 w b off J) (hs : 0 ≤ s ∧ s ≤ 255) :
    Calls Tryd.prog 5 #[.slice (some ⟨b, off, none⟩) J.length c, watV x, .int .u8 s] w fun e w' => e = .returned (.tuple #[watV (tgX J x s), .int .i64 (tgC J x s)]) ∧ Below w.heap.size w w' := by
  have k1 := (blk_new w #[.int .i16 (x 0), .int .i16 (x 1), .int .i16 (x 2), .int .i16 (x 3)] 25).alloc (.cells #[.int .i16 0, .int .i16 0, .int .i16 0, .int .i16 0] 25)
  have k2 := blk_new (w.alloc (.cells #[.int .i16 (x 0), .int .i16 (x 1), .int .i16 (x 2), .int .i16 (x 3)] 25)) #[.int .i16 0, .int .i16 0, .int .i16 0, .int .i16 0] 25
  have hB := ((Below.refl w.heap.size w).alloc (Nat.le_refl _) (.cells #[.int .i16 (x 0), .int .i16 (x 1), .int .i16 (x 2), .int .i16 (x 3)] 25)).alloc (by simp) (.cells #[.int .i16 0, .int .i16 0, .int .i16 0, .int .i16 0] 25)
  simp only [World.size_alloc] at k2
  have hc1 := hc.below hB hb
  have hb1 := Nat.lt_of_lt_of_le hb hB.size
  have HV := Lib.hid (l07Ok_any b off c J x _ hn hb1 hc1)
  have HC := Lib.hid hc1
  have HK1 := Lib.hid k1
  have HK2 := Lib.hid k2
  have HB := Lib.hid hB
  obtain ⟨c0, c1, c2, c3, -⟩ := k1.four
  have hle : w.heap.size ≤ w.heap.size + 1 := by omega
  clear hB hc hc1 k1 k2
  cases hok : okT J x
  · rw [hok] at HV
    have HE := Lib.hid (tg_bad (s := s) hok)
    clear hok
    go_enter Tryd.func5, Tryd.ntmps5
    go_wp2_with fail
    refine HV.out.mono ?_
    rintro e w2 ⟨rfl, hb2⟩
    have HB2 := Lib.hid (HB.out.trans (hb2.mono HB.out.size))
    obtain ⟨z0, z1, z2, z3, z4⟩ := (HK2.out.below hb2 HK2.out.lt).four
    clear hb2 c0 c1 c2 c3
    go_wp2
    refine bodyPost_ret (v := .tuple #[watV noT, .int .i64 1]) (by simp [results, Tryd.results5, go_sem, z0, z1, z2, z3, noT]) rfl ⟨by rw [HE.out.1, HE.out.2], ?_⟩
    exact (((HB2.out.setCell hle _).setCell hle _).setCell hle _).setCell hle _
  rw [hok] at HV
  have HG := Lib.hid (okT_G hok)
  have HX := Lib.hid (okT_X hok)
  have hl4 := HG.out.1.2
  have hp := pow_len hl4
  have HSS := Lib.hid (fun W => l07Sets_any (some ⟨b, off, none⟩) c J.length W hl4)
  by_cases hs2 : 2 ^ J.length ≤ s
  · have HE := Lib.hid (tg_far hok hs2)
    clear hok
    generalize (2 : Int) ^ J.length = q at *
    have hd : decide (q ≤ s) = true := by simpa using hs2
    go_enter Tryd.func5, Tryd.ntmps5
    go_wp2_with fail
    refine HV.out.mono ?_
    rintro e w2 ⟨rfl, hb2⟩
    have HB2 := Lib.hid (HB.out.trans (hb2.mono HB.out.size))
    obtain ⟨z0, z1, z2, z3, z4⟩ := (HK2.out.below hb2 HK2.out.lt).four
    clear hb2 c0 c1 c2 c3
    go_wp2_with fail
    refine (HSS.out _).mono ?_
    rintro e w' ⟨rfl, rfl⟩
    go_wp2
    refine bodyPost_ret (v := .tuple #[watV noT, .int .i64 2]) (by simp [results, Tryd.results5, go_sem, z0, z1, z2, z3, noT]) rfl ⟨by rw [HE.out.1, HE.out.2], ?_⟩
    exact (((HB2.out.setCell hle _).setCell hle _).setCell hle _).setCell hle _
  · have HE := Lib.hid (tg_ok hok hs2)
    clear hok
    have HT := Lib.hid (fun W (hW : b < W.heap.size) (h : At .i16 W b off J) => l07Turn_any b off c J x s W hl4 HG.out.2.1.each HX.out hW h)
    generalize hEE : trTo J x s J.length = E at *
    have HEE := Lib.hid hEE
    clear hEE
    generalize (2 : Int) ^ J.length = q at *
    have hd : decide (q ≤ s) = false := by simpa using hs2
    go_enter Tryd.func5, Tryd.ntmps5
    go_wp2_with fail
    refine HV.out.mono ?_
    rintro e w2 ⟨rfl, hb2⟩
    have HB2 := Lib.hid (HB.out.trans (hb2.mono HB.out.size))
    have HK12 := Lib.hid (HK1.out.below hb2 HK1.out.lt)
    have HK22 := Lib.hid (HK2.out.below hb2 HK2.out.lt)
    have HC2 := Lib.hid (HC.out.below hb2 hb1)
    have hb12 := Nat.lt_of_lt_of_le hb1 hb2.size
    clear hb2 c0 c1 c2 c3
    obtain ⟨c0, c1, c2, c3, -⟩ := HK12.out.four
    go_wp2_with fail
    refine (HSS.out _).mono ?_
    rintro e w' ⟨rfl, rfl⟩
    go_wp2_with fail
    refine (HT.out _ hb12 HC2.out).mono ?_
    rintro e w3 ⟨rfl, hb3⟩
    have HB3 := Lib.hid (HB2.out.trans (hb3.mono HB2.out.size))
    obtain ⟨z0, z1, z2, z3, z4⟩ := (HK22.out.below hb3 HK22.out.lt).four
    clear hb3 c0 c1 c2 c3
    go_wp2
    refine bodyPost_ret (v := .tuple #[watV E, .int .i64 0]) (by simp [results, Tryd.results5, go_sem, z0, z1, z2, z3]) rfl ⟨by rw [HE.out.1, HE.out.2], ?_⟩
    exact (((HB3.out.setCell hle _).setCell hle _).setCell hle _).setCell hle _
theorem specWaitFor_any (b off c : Nat) (J : List Int) (x : Nat → Int) (w : World) (hn : J.length ≤ 1048576) (hb : b < w.heap.size) (hc : At .i16 w b off J) (hx : W16 x) :
    Calls Tryd.prog 11 #[.slice (some ⟨b, off, none⟩) J.length c, watV x] w fun e w' => e = .returned (.tuple #[watV (wfX J x), .int .i64 (wfM J x), .int .i64 (wfC J x)]) ∧ Below w.heap.size w w' := by
  have k1 := (blk_new w #[.int .i16 (x 0), .int .i16 (x 1), .int .i16 (x 2), .int .i16 (x 3)] 25).alloc (.cells #[.int .i16 0, .int .i16 0, .int .i16 0, .int .i16 0] 25)
  have k2 := blk_new (w.alloc (.cells #[.int .i16 (x 0), .int .i16 (x 1), .int .i16 (x 2), .int .i16 (x 3)] 25)) #[.int .i16 0, .int .i16 0, .int .i16 0, .int .i16 0] 25
  have hB := ((Below.refl w.heap.size w).alloc (Nat.le_refl _) (.cells #[.int .i16 (x 0), .int .i16 (x 1), .int .i16 (x 2), .int .i16 (x 3)] 25)).alloc (by simp) (.cells #[.int .i16 0, .int .i16 0, .int .i16 0, .int .i16 0] 25)
  simp only [World.size_alloc] at k2
  have hc1 := hc.below hB hb
  have hb1 := Nat.lt_of_lt_of_le hb hB.size
  have HV := Lib.hid (l07Ok_any b off c J x _ hn hb1 hc1)
  have HC := Lib.hid hc1
  have HK1 := Lib.hid k1
  have HK2 := Lib.hid k2
  have HB := Lib.hid hB
  obtain ⟨c0, c1, c2, c3, -⟩ := k1.four
  have hle : w.heap.size ≤ w.heap.size + 1 := by omega
  clear hB hc hc1 k1 k2
  cases hok : okT J x
  · rw [hok] at HV
    have HE := Lib.hid (wf_bad hok)
    clear hok
    go_enter Tryd.func11, Tryd.ntmps11
    go_wp2_with fail
    refine HV.out.mono ?_
    rintro e w2 ⟨rfl, hb2⟩
    have HB2 := Lib.hid (HB.out.trans (hb2.mono HB.out.size))
    obtain ⟨z0, z1, z2, z3, z4⟩ := (HK2.out.below hb2 HK2.out.lt).four
    clear hb2 c0 c1 c2 c3
    go_wp2
    refine bodyPost_ret (v := .tuple #[watV noT, .int .i64 0, .int .i64 1]) (by simp [results, Tryd.results11, go_sem, z0, z1, z2, z3, noT]) rfl ⟨by rw [HE.out.1, HE.out.2.1, HE.out.2.2], ?_⟩
    exact (((HB2.out.setCell hle _).setCell hle _).setCell hle _).setCell hle _
  rw [hok] at HV
  have HW := Lib.hid (fun W => l07Wait_any x W hx)
  have hm := lsTo_bd hx 4 (Nat.le_refl _)
  by_cases h0 : lsTo x 4 = 0
  · have HE := Lib.hid (wf_none hok h0)
    rw [h0] at HW
    clear hok h0 hm
    generalize wtTo x 0 4 = E at *
    go_enter Tryd.func11, Tryd.ntmps11
    go_wp2_with fail
    refine HV.out.mono ?_
    rintro e w2 ⟨rfl, hb2⟩
    have HB2 := Lib.hid (HB.out.trans (hb2.mono HB.out.size))
    have HK12 := Lib.hid (HK1.out.below hb2 HK1.out.lt)
    have HK22 := Lib.hid (HK2.out.below hb2 HK2.out.lt)
    clear hb2 c0 c1 c2 c3
    obtain ⟨c0, c1, c2, c3, -⟩ := HK12.out.four
    go_wp2_with fail
    refine (HW.out _).mono ?_
    rintro e w3 ⟨rfl, hb3⟩
    have HB3 := Lib.hid (HB2.out.trans (hb3.mono HB2.out.size))
    obtain ⟨z0, z1, z2, z3, z4⟩ := (HK22.out.below hb3 HK22.out.lt).four
    have hlt3 := (HK22.out.below hb3 HK22.out.lt).lt
    clear hb3 c0 c1 c2 c3
    go_wp2
    refine bodyPost_ret (v := .tuple #[watV noT, .int .i64 0, .int .i64 4]) (by simp [results, Tryd.results11, go_sem, z0, z1, z2, z3, noT, hlt3, World.cell?_alloc_lt]) rfl ⟨by rw [HE.out.1, HE.out.2.1, HE.out.2.2], ?_⟩
    refine ((((HB3.out.setCell hle _).setCell hle _).setCell hle _).setCell hle _).alloc ?_ _
    have := HB3.out.size
    simpa using this
  · have HE := Lib.hid (wf_ok hok h0)
    clear hok
    generalize wtTo x (lsTo x 4) 4 = E at *
    generalize lsTo x 4 = m at *
    have hd : (m == 0) = false := by simpa using h0
    go_enter Tryd.func11, Tryd.ntmps11
    go_wp2_with fail
    refine HV.out.mono ?_
    rintro e w2 ⟨rfl, hb2⟩
    have HB2 := Lib.hid (HB.out.trans (hb2.mono HB.out.size))
    have HK12 := Lib.hid (HK1.out.below hb2 HK1.out.lt)
    have HK22 := Lib.hid (HK2.out.below hb2 HK2.out.lt)
    clear hb2 c0 c1 c2 c3
    obtain ⟨c0, c1, c2, c3, -⟩ := HK12.out.four
    go_wp2_with fail
    refine (HW.out _).mono ?_
    rintro e w3 ⟨rfl, hb3⟩
    have HB3 := Lib.hid (HB2.out.trans (hb3.mono HB2.out.size))
    obtain ⟨z0, z1, z2, z3, z4⟩ := (HK22.out.below hb3 HK22.out.lt).four
    have hlt3 := (HK22.out.below hb3 HK22.out.lt).lt
    clear hb3 c0 c1 c2 c3
    go_wp2
    refine bodyPost_ret (v := .tuple #[watV E, .int .i64 m, .int .i64 0]) (by simp [results, Tryd.results11, go_sem, z0, z1, z2, z3, hlt3, World.cell?_alloc_lt]) rfl ⟨by rw [HE.out.1, HE.out.2.1, HE.out.2.2], ?_⟩
    refine ((((HB3.out.setCell hle _).setCell hle _).setCell hle _).setCell hle _).alloc ?_ _
    have := HB3.out.size
    simpa using this
end Go.Proofs.YtfigoidpkihnnaaDoor
