/-
  RunTurns and CheckTurns in the model.
-/
import Derived.Test.YtmjkhkhjliadcaaDoorH16
namespace Go.Proofs.YtmjkhkhjliadcaaDoor
open Go.RowKit
set_option maxRecDepth 100000
set_option linter.unusedVariables false

noncomputable def rtC (J : List Int) (x : Nat → Int) (P : List Int) : Int := if okT J x = true then rnC J x P else 1
noncomputable def rtX (J : List Int) (x : Nat → Int) (P : List Int) : Nat → Int := if okT J x = true then ruX J x P else noT
noncomputable def rtL (J : List Int) (x : Nat → Int) (P : List Int) : List Int := if okT J x = true then ruL J x P else []
theorem rt_bad {J : List Int} {x : Nat → Int} {P : List Int} (h : okT J x = false) : rtL J x P = [] ∧ rtX J x P = noT ∧ rtC J x P = 1 := by
  unfold rtL rtX rtC; rw [h]; exact ⟨rfl, rfl, rfl⟩
theorem rt_ok {J : List Int} {x : Nat → Int} {P : List Int} (h : okT J x = true) : rtL J x P = ruL J x P ∧ rtX J x P = ruX J x P ∧ rtC J x P = rnC J x P := by
  unfold rtL rtX rtC; rw [h]; exact ⟨rfl, rfl, rfl⟩
theorem ownv_set {k : IntKind} {B : Nat} {w : World} {v : Value} {xs : List Int} (h : OwnV k B w v xs) {b : Nat} (hb : b < B) (i : Nat) (u : Value) : OwnV k B (w.setCell ⟨b, i, none⟩ u) v xs := by
  rcases h with h | ⟨g, c, e, h1, h2, h3, h4⟩
  · exact .inl h
  · have hbk := heap_setCell_other w ⟨b, i, none⟩ g u (by show g ≠ b; omega)
    refine .inr ⟨g, c, e, h1, by simpa using h2, fun j hj => ?_, fun j => ?_⟩
    · exact (World.cell?_of_block (w := w) (a := ⟨g, 0 + j, none⟩) hbk).trans (h3 j hj)
    · have := h4 j
      simp only [World.frozen?] at this ⊢
      rw [hbk]; exact this
theorem ownv_set4 {k : IntKind} {B : Nat} {w : World} {v : Value} {xs : List Int} (h : OwnV k B w v xs) {b : Nat} (hb : b < B) (u0 u1 u2 u3 : Value) : OwnV k B ((((w.setCell ⟨b, 0, none⟩ u0).setCell ⟨b, 1, none⟩ u1).setCell ⟨b, 2, none⟩ u2).setCell ⟨b, 3, none⟩ u3) v xs :=
  ownv_set (ownv_set (ownv_set (ownv_set h hb 0 u0) hb 1 u1) hb 2 u2) hb 3 u3
def HYPU (P : List Int) : Prop := ∀ j, 0 ≤ P.getD j 0 ∧ P.getD j 0 ≤ 255
theorem specRunTurns_any (b off c p po pc : Nat) (J : List Int) (x : Nat → Int) (P : List Int) (w : World) (hn : J.length ≤ 1048576) (hnp : P.length ≤ 1048576) (hb : b < w.heap.size) (hc : At .i16 w b off J) (hp : p < w.heap.size) (hpc : At .u8 w p po P) (hu : HYPU P) :
    Calls Tryd.prog 5 #[.slice (some ⟨b, off, none⟩) J.length c, watV x, .slice (some ⟨p, po, none⟩) P.length pc] w fun e w' => ∃ v, e = .returned (.tuple #[v, watV (rtX J x P), .int .i64 (rtC J x P)]) ∧ OwnV .i64 w.heap.size w' v (rtL J x P) ∧ Below w.heap.size w w' := by
  have k1 := (blk_new w #[.int .i16 (x 0), .int .i16 (x 1), .int .i16 (x 2), .int .i16 (x 3)] 27).alloc (.cells #[.int .i16 0, .int .i16 0, .int .i16 0, .int .i16 0] 27)
  have k2 := blk_new (w.alloc (.cells #[.int .i16 (x 0), .int .i16 (x 1), .int .i16 (x 2), .int .i16 (x 3)] 27)) #[.int .i16 0, .int .i16 0, .int .i16 0, .int .i16 0] 27
  have hB := ((Below.refl w.heap.size w).alloc (Nat.le_refl _) (.cells #[.int .i16 (x 0), .int .i16 (x 1), .int .i16 (x 2), .int .i16 (x 3)] 27)).alloc (by simp) (.cells #[.int .i16 0, .int .i16 0, .int .i16 0, .int .i16 0] 27)
  simp only [World.size_alloc] at k2
  have hc1 := hc.below hB hb
  have hb1 := Nat.lt_of_lt_of_le hb hB.size
  have HV := Lib.hid (l07Ok_any b off c J x _ hn hb1 hc1)
  have hp1 := Nat.lt_of_lt_of_le hp hB.size
  have HPC := Lib.hid (hpc.below hB hp)
  have HC := Lib.hid hc1
  have HK1 := Lib.hid k1
  have HK2 := Lib.hid k2
  have HB := Lib.hid hB
  obtain ⟨c0, c1, c2, c3, -⟩ := k1.four
  have hle : w.heap.size ≤ w.heap.size + 1 := by omega
  clear hB hc hc1 k1 k2
  clear hpc
  cases hok : okT J x
  · rw [hok] at HV
    have HE := Lib.hid (rt_bad (P := P) hok)
    clear hok
    go_enter Tryd.func5, Tryd.ntmps5
    go_wp2_with fail
    refine HV.out.mono ?_
    rintro e w2 ⟨rfl, hb2⟩
    have HB2 := Lib.hid (HB.out.trans (hb2.mono HB.out.size))
    obtain ⟨z0, z1, z2, z3, z4⟩ := ((HK2.out.below hb2 HK2.out.lt).alloc (.cells #[] 2)).four
    clear hb2 c0 c1 c2 c3
    go_wp2
    refine bodyPost_ret (v := .tuple #[.slice (some ⟨w2.heap.size, 0, none⟩) 0 0, watV noT, .int .i64 1]) (by simp [results, Tryd.results5, go_sem, z0, z1, z2, z3, noT]) rfl ⟨_, by rw [HE.out.2.1, HE.out.2.2], by rw [HE.out.1]; exact OwnV.nil _ _ _ _ _, ?_⟩
    repeat (first | exact HB2.out | refine Below.setCell ?_ hle _ | refine Below.drew ?_ | refine below_drewN ?_ _ | refine Below.alloc ?_ (by have := HB2.out.size; simp; omega) _)
  rw [hok] at HV
  have HG := Lib.hid (okT_G hok)
  have HX := Lib.hid (okT_X hok)
  have hl4 := HG.out.1.2
  have HE := Lib.hid (rt_ok (P := P) hok)
  clear hok
  go_enter Tryd.func5, Tryd.ntmps5
  go_wp2_with fail
  refine HV.out.mono ?_
  rintro e w2 ⟨rfl, hb2⟩
  have HB2 := Lib.hid (HB.out.trans (hb2.mono HB.out.size))
  have HK12 := Lib.hid (HK1.out.below hb2 HK1.out.lt)
  have HK22 := Lib.hid (HK2.out.below hb2 HK2.out.lt)
  have HC2 := Lib.hid (HC.out.below hb2 hb1)
  have HPC2 := Lib.hid (HPC.out.below hb2 hp1)
  have hb12 := Nat.lt_of_lt_of_le hb1 hb2.size
  have hp12 := Nat.lt_of_lt_of_le hp1 hb2.size
  clear hb2 c0 c1 c2 c3
  obtain ⟨c0, c1, c2, c3, -⟩ := HK12.out.four
  have HRUN := Lib.hid (l07Run_any b off c p po pc J x P w2 hnp hl4 HG.out.2.1.each HX.out hb12 HC2.out hp12 HPC2.out hu)
  generalize rnC J x P = rc at *
  generalize ruX J x P = X at *
  go_wp2_with fail
  refine HRUN.out.mono ?_
  rintro e w3 ⟨v, rfl, hov, hb3⟩
  have HB3 := Lib.hid (HB2.out.trans (hb3.mono HB2.out.size))
  obtain ⟨z0, z1, z2, z3, z4⟩ := (HK22.out.below hb3 HK22.out.lt).four
  have hlt2 := HK22.out.lt
  have HOV := Lib.hid hov
  clear hb3 c0 c1 c2 c3 hov
  go_wp2
  refine bodyPost_ret (v := .tuple #[v, watV X, .int .i64 rc]) (by simp [results, Tryd.results5, go_sem, z0, z1, z2, z3]) rfl ⟨v, by rw [HE.out.2.1, HE.out.2.2], ?_, ?_⟩
  · rw [HE.out.1]
    exact (ownv_set4 HOV.out (show w.heap.size + 1 < w2.heap.size from hlt2) _ _ _ _).mono HB2.out.size
  · exact (((HB3.out.setCell hle _).setCell hle _).setCell hle _).setCell hle _
/-- The code of glasses, tops and a time. -/
noncomputable def askC (J : List Int) (x : Nat → Int) (t : Int) : Int := if okT J x = true then (if inB t 0 120 = true then 0 else 2) else 1
theorem l07Asked_any (b off c : Nat) (J : List Int) (x : Nat → Int) (t : Int) (w : World) (hn : J.length ≤ 1048576) (hb : b < w.heap.size) (hc : At .i16 w b off J) :
    Calls Tryd.prog 26 #[.slice (some ⟨b, off, none⟩) J.length c, watV x, .int .i64 t] w fun e w' => e = .returned (.int .i64 (askC J x t)) ∧ Below w.heap.size w w' := by
  have k1 := blk_new w #[.int .i16 (x 0), .int .i16 (x 1), .int .i16 (x 2), .int .i16 (x 3)] 27
  have hB := (Below.refl w.heap.size w).alloc (Nat.le_refl _) (.cells #[.int .i16 (x 0), .int .i16 (x 1), .int .i16 (x 2), .int .i16 (x 3)] 27)
  have hb1 := Nat.lt_of_lt_of_le hb hB.size
  have HV := Lib.hid (l07Ok_any b off c J x _ hn hb1 (hc.below hB hb))
  have HK := Lib.hid k1
  have HB := Lib.hid hB
  obtain ⟨c0, c1, c2, c3, -⟩ := k1.four
  clear hB hc k1
  unfold askC
  cases hok : okT J x
  · rw [hok] at HV
    clear hok
    simp only [Bool.false_eq_true, if_false]
    go_enter Tryd.func26, Tryd.ntmps26
    go_wp2_with fail
    refine HV.out.mono ?_
    rintro e w2 ⟨rfl, hb2⟩
    have HB2 := Lib.hid (HB.out.trans (hb2.mono HB.out.size))
    clear hb2 c0 c1 c2 c3
    go_wp2
    go_ret
    exact ⟨rfl, HB2.out⟩
  · rw [hok] at HV
    clear hok
    simp only [if_true]
    have HI := Lib.hid (fun W => l00In_any t 0 120 W)
    cases hin : inB t 0 120
    · rw [hin] at HI
      clear hin
      simp only [Bool.false_eq_true, if_false]
      go_enter Tryd.func26, Tryd.ntmps26
      go_wp2_with fail
      refine HV.out.mono ?_
      rintro e w2 ⟨rfl, hb2⟩
      have HB2 := Lib.hid (HB.out.trans (hb2.mono HB.out.size))
      clear hb2 c0 c1 c2 c3
      go_wp2_with fail
      refine (HI.out _).mono ?_
      rintro e w3 ⟨rfl, rfl⟩
      go_wp2
      go_ret
      exact ⟨rfl, HB2.out⟩
    · rw [hin] at HI
      clear hin
      simp only [if_true]
      go_enter Tryd.func26, Tryd.ntmps26
      go_wp2_with fail
      refine HV.out.mono ?_
      rintro e w2 ⟨rfl, hb2⟩
      have HB2 := Lib.hid (HB.out.trans (hb2.mono HB.out.size))
      clear hb2 c0 c1 c2 c3
      go_wp2_with fail
      refine (HI.out _).mono ?_
      rintro e w3 ⟨rfl, rfl⟩
      go_wp2
      go_ret
      exact ⟨rfl, HB2.out⟩
theorem codeOfTime_any (b off c : Nat) (J : List Int) (x : Nat → Int) (t : Int) (w : World) (hn : J.length ≤ 1048576) (hb : b < w.heap.size) (hc : At .i16 w b off J) (hi : I16 J) :
    Calls Tryd.prog 27 #[.slice (some ⟨b, off, none⟩) J.length c, watV x, .int .i64 t] w fun e w' => e = .returned (.int .i64 (askC J x t)) ∧ Below w.heap.size w w' := by
  have k1 := blk_new w #[.int .i16 (x 0), .int .i16 (x 1), .int .i16 (x 2), .int .i16 (x 3)] 27
  have hB := (Below.refl w.heap.size w).alloc (Nat.le_refl _) (.cells #[.int .i16 (x 0), .int .i16 (x 1), .int .i16 (x 2), .int .i16 (x 3)] 27)
  have hb1 := Nat.lt_of_lt_of_le hb hB.size
  have HV := Lib.hid (validTops_any b off c J x _ hn hb1 (hc.below hB hb) hi)
  have HK := Lib.hid k1
  have HB := Lib.hid hB
  obtain ⟨c0, c1, c2, c3, -⟩ := k1.four
  clear hB hc k1
  unfold askC
  cases hok : okT J x
  · rw [hok] at HV
    clear hok
    simp only [Bool.false_eq_true, if_false]
    go_enter Tryd.func27, Tryd.ntmps27
    go_wp2_with fail
    refine HV.out.mono ?_
    rintro e w2 ⟨rfl, hb2⟩
    have HB2 := Lib.hid (HB.out.trans (hb2.mono HB.out.size))
    clear hb2 c0 c1 c2 c3
    go_wp2
    go_ret
    exact ⟨rfl, HB2.out⟩
  · rw [hok] at HV
    clear hok
    simp only [if_true]
    have HI := Lib.hid (fun W => within_any t 0 120 W)
    cases hin : inB t 0 120
    · rw [hin] at HI
      clear hin
      simp only [Bool.false_eq_true, if_false]
      go_enter Tryd.func27, Tryd.ntmps27
      go_wp2_with fail
      refine HV.out.mono ?_
      rintro e w2 ⟨rfl, hb2⟩
      have HB2 := Lib.hid (HB.out.trans (hb2.mono HB.out.size))
      clear hb2 c0 c1 c2 c3
      go_wp2_with fail
      refine (HI.out _).mono ?_
      rintro e w3 ⟨rfl, rfl⟩
      go_wp2
      go_ret
      exact ⟨rfl, HB2.out⟩
    · rw [hin] at HI
      clear hin
      simp only [if_true]
      go_enter Tryd.func27, Tryd.ntmps27
      go_wp2_with fail
      refine HV.out.mono ?_
      rintro e w2 ⟨rfl, hb2⟩
      have HB2 := Lib.hid (HB.out.trans (hb2.mono HB.out.size))
      clear hb2 c0 c1 c2 c3
      go_wp2_with fail
      refine (HI.out _).mono ?_
      rintro e w3 ⟨rfl, rfl⟩
      go_wp2
      go_ret
      exact ⟨rfl, HB2.out⟩
end Go.Proofs.YtmjkhkhjliadcaaDoor
