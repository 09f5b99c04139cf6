/-
  CheckTurns, in the program and in its model.
-/
import Derived.Test.YtmjkhkhjliadcaaDoorH20
namespace Go.Proofs.YtmjkhkhjliadcaaDoor
open Go.RowKit
set_option maxRecDepth 100000
set_option linter.unusedVariables false

theorem specCheckTurns_any (b off c p po pc : Nat) (J : List Int) (x : Nat → Int) (P : List Int) (t : Int) (w : World) (hn : J.length ≤ 1048576) (hnp : P.length ≤ 1048576) (hb : b < w.heap.size) (hc : At .i16 w b off J) (hp : p < w.heap.size) (hpc : At .u8 w p po P) (hu : HYPU P) (ht : -9223372036854775808 ≤ t ∧ t ≤ 9223372036854775807) :
    Calls Tryd.prog 18 #[.slice (some ⟨b, off, none⟩) J.length c, watV x, .slice (some ⟨p, po, none⟩) P.length pc, .int .i64 t] w fun e w' => e = .returned (.tuple #[.bool (ckB J x P t), .int .i64 (askC J x t)]) ∧ Below w.heap.size w w' := by
  have k1 := blk_new w #[.int .i16 (x 0), .int .i16 (x 1), .int .i16 (x 2), .int .i16 (x 3)] 27
  have hB := (Below.refl w.heap.size w).alloc (Nat.le_refl _) (.cells #[.int .i16 (x 0), .int .i16 (x 1), .int .i16 (x 2), .int .i16 (x 3)] 27)
  have hb1 := Nat.lt_of_lt_of_le hb hB.size
  have hp1 := Nat.lt_of_lt_of_le hp hB.size
  have HC := Lib.hid (hc.below hB hb)
  have HP := Lib.hid (hpc.below hB hp)
  have HA := Lib.hid (l07Asked_any b off c J x t _ hn hb1 HC.out)
  have HK := Lib.hid k1
  have HB := Lib.hid hB
  obtain ⟨c0, c1, c2, c3, -⟩ := k1.four
  clear hB hc hpc k1
  by_cases h0 : askC J x t = 0
  rotate_left
  · have HE := Lib.hid (ck_no (P := P) h0)
    have hbd := askC_bd J x t
    generalize askC J x t = a at *
    have hd : (a == 0) = false := by simpa using h0
    go_enter Tryd.func18, Tryd.ntmps18
    go_wp2_with fail
    refine HA.out.mono ?_
    rintro e w2 ⟨rfl, hb2⟩
    have HB2 := Lib.hid (HB.out.trans (hb2.mono HB.out.size))
    clear hb2 c0 c1 c2 c3
    go_wp2
    go_ret2
    exact ⟨by rw [HE.out]; rfl, HB2.out⟩
  rw [h0] at HA
  have hok := ask_ok h0
  have HCK := Lib.hid (ck_eq (P := P) h0)
  have HRT := Lib.hid (rt_ok (P := P) hok)
  have HG4 := Lib.hid (okT_G hok)
  have HX4 := Lib.hid (okT_X hok)
  have HTL := Lib.hid (And.intro (show rnC J x P = 0 → ruL J x P = rnL J x P P.length from fun h => by unfold ruL; rw [if_pos h]) (rnT_bd P (okT_G hok).2.1.each (okT_X hok) P.length))
  have hcb := rnC_bd J x P
  have hlb : rnC J x P = 0 → P.length ≤ 60 := fun h => by
    by_cases h6 : 60 < P.length
    · rw [(ru_long (J := J) (x := x) h6).2.2] at h; omega
    · omega
  have H0 := Lib.hid h0
  clear hok h0
  go_enter Tryd.func18, Tryd.ntmps18
  go_wp2_with fail
  refine HA.out.mono ?_
  rintro e w2 ⟨rfl, hb2⟩
  have HB2 := Lib.hid (HB.out.trans (hb2.mono HB.out.size))
  have HK2 := Lib.hid (HK.out.below hb2 HK.out.lt)
  have HC2 := Lib.hid (HC.out.below hb2 hb1)
  have HP2 := Lib.hid (HP.out.below hb2 hp1)
  have hb12 := Nat.lt_of_lt_of_le hb1 hb2.size
  have hp12 := Nat.lt_of_lt_of_le hp1 hb2.size

  clear hb2 c0 c1 c2 c3
  obtain ⟨c0, c1, c2, c3, -⟩ := HK2.out.four
  have HRUN := Lib.hid (l07Run_any b off c p po pc J x P w2 hnp HG4.out.1.2 HG4.out.2.1.each HX4.out hb12 HC2.out hp12 HP2.out hu)

  generalize ruX J x P = X at *
  go_wp2_with fail
  refine HRUN.out.mono ?_
  rintro e w3 ⟨v, rfl, hov, hb3⟩
  have HB3 := Lib.hid (HB2.out.trans (hb3.mono HB2.out.size))
  clear hb3 c0 c1 c2 c3
  by_cases hrc : rnC J x P = 0
  rotate_left
  · have HE := Lib.hid (ck_f (t := t) (P := P) H0.out hrc)
    generalize rnC J x P = rc at *
    have hd : (rc == 0) = false := by simpa using hrc
    go_wp2
    go_ret2
    refine ⟨by rw [HE.out, H0.out]; rfl, HB3.out.alloc HB3.out.size _⟩
  have hd : (rnC J x P == 0) = true := by simpa using hrc
  have hl60 := hlb hrc
  have hrl := HTL.out.1 hrc
  have HE := Lib.hid (ck_t (t := t) (P := P) H0.out hrc)
  have htb := HTL.out.2
  rw [hrl] at hov
  clear hlb hcb
  generalize rnC J x P = rc at *
  rcases hov with ⟨he, a', c', rfl⟩ | ⟨g, gc, rfl, hg1, hg2, hg3, hg4⟩
  · have hl0 : P.length = 0 := by have := rnL_len J x P P.length; rw [he] at this; simpa using this.symm
    have hT0 : rnT J x P P.length = 0 := by rw [hl0]; rfl
    rw [hT0] at HE
    clear hT0 he hrl htb
    go_wp2
    go_ret2
    refine ⟨by rw [HE.out, H0.out]; first | rfl | (rw [show ((0 : Int) == t) = (t == 0) from BEq.comm]; rfl), HB3.out.alloc HB3.out.size _⟩
  · rw [rnL_len] at *
    by_cases hl0 : P.length = 0
    · have hT0 : rnT J x P P.length = 0 := by rw [hl0]; rfl
      rw [hT0] at HE
      clear hT0 hrl htb hg3
      go_wp2
      go_ret2
      refine ⟨by rw [HE.out, H0.out]; first | rfl | (rw [show ((0 : Int) == t) = (t == 0) from BEq.comm]; rfl), HB3.out.alloc HB3.out.size _⟩
    · have hcell := (hg3.below ((Below.refl w3.heap.size w3).alloc (Nat.le_refl _) (.cells #[.int .i16 (X 0), .int .i16 (X 1), .int .i16 (X 2), .int .i16 (X 3)] 27)) hg2) (P.length - 1) (by rw [rnL_len]; omega)
      have hgd : (rnL J x P P.length).getD (P.length - 1) 0 = rnT J x P P.length := by
        unfold rnL
        have : P.length - 1 < P.length := by omega
        simp [List.getD_eq_getElem?_getD, this]
        congr 1; omega
      rw [hgd, Nat.zero_add] at hcell
      clear hgd hrl hg3
      generalize rnT J x P P.length = T at *
      go_wp2
      go_ret2
      refine ⟨by rw [HE.out, H0.out]; first | rfl | (rw [show ((0 : Int) == t) = (t == 0) from BEq.comm]; rfl), HB3.out.alloc HB3.out.size _⟩
theorem checkTurns_any (b off c p po pc : Nat) (J : List Int) (x : Nat → Int) (P : List Int) (t : Int) (w : World) (hn : J.length ≤ 1048576) (hnp : P.length ≤ 1048576) (hb : b < w.heap.size) (hc : At .i16 w b off J) (hi : I16 J) (hp : p < w.heap.size) (hpc : At .u8 w p po P) (hu : HYPU P) (ht : -9223372036854775808 ≤ t ∧ t ≤ 9223372036854775807) (hg : w.cell? ⟨0, 0, none⟩ = some errV) :
    Calls Tryd.prog 19 #[.slice (some ⟨b, off, none⟩) J.length c, watV x, .slice (some ⟨p, po, none⟩) P.length pc, .int .i64 t] w fun e w' => e = .returned (.tuple #[.bool (ckB J x P t), .int .i64 (askC J x t)]) ∧ Below w.heap.size w w' := by
  have k1 := blk_new w #[.int .i16 (x 0), .int .i16 (x 1), .int .i16 (x 2), .int .i16 (x 3)] 27
  have hB := (Below.refl w.heap.size w).alloc (Nat.le_refl _) (.cells #[.int .i16 (x 0), .int .i16 (x 1), .int .i16 (x 2), .int .i16 (x 3)] 27)
  have hb1 := Nat.lt_of_lt_of_le hb hB.size
  have hp1 := Nat.lt_of_lt_of_le hp hB.size
  have HC := Lib.hid (hc.below hB hb)
  have HP := Lib.hid (hpc.below hB hp)
  have HA := Lib.hid (codeOfTime_any b off c J x t _ hn hb1 HC.out hi)
  have HK := Lib.hid k1
  have HB := Lib.hid hB
  have hge := errV_lt hg
  have HGG := Lib.hid (errV_below hg hB hge)
  clear hg
  obtain ⟨c0, c1, c2, c3, -⟩ := k1.four
  clear hB hc hpc k1
  by_cases h0 : askC J x t = 0
  rotate_left
  · have HE := Lib.hid (ck_no (P := P) h0)
    have hbd := askC_bd J x t
    generalize askC J x t = a at *
    have hd : (a == 0) = false := by simpa using h0
    go_enter Tryd.func19, Tryd.ntmps19
    go_wp2_with fail
    refine HA.out.mono ?_
    rintro e w2 ⟨rfl, hb2⟩
    have HB2 := Lib.hid (HB.out.trans (hb2.mono HB.out.size))
    clear hb2 c0 c1 c2 c3
    go_wp2
    go_ret2
    exact ⟨by rw [HE.out]; rfl, HB2.out⟩
  rw [h0] at HA
  have hok := ask_ok h0
  have HCK := Lib.hid (ck_eq (P := P) h0)
  have HRT := Lib.hid (rt_ok (P := P) hok)
  have HG4 := Lib.hid (okT_G hok)
  have HX4 := Lib.hid (okT_X hok)
  have HTL := Lib.hid (And.intro (show rnC J x P = 0 → ruL J x P = rnL J x P P.length from fun h => by unfold ruL; rw [if_pos h]) (rnT_bd P (okT_G hok).2.1.each (okT_X hok) P.length))
  have hcb := rnC_bd J x P
  have hlb : rnC J x P = 0 → P.length ≤ 60 := fun h => by
    by_cases h6 : 60 < P.length
    · rw [(ru_long (J := J) (x := x) h6).2.2] at h; omega
    · omega
  have H0 := Lib.hid h0
  clear hok h0
  go_enter Tryd.func19, Tryd.ntmps19
  go_wp2_with fail
  refine HA.out.mono ?_
  rintro e w2 ⟨rfl, hb2⟩
  have HB2 := Lib.hid (HB.out.trans (hb2.mono HB.out.size))
  have HK2 := Lib.hid (HK.out.below hb2 HK.out.lt)
  have HC2 := Lib.hid (HC.out.below hb2 hb1)
  have HP2 := Lib.hid (HP.out.below hb2 hp1)
  have hb12 := Nat.lt_of_lt_of_le hb1 hb2.size
  have hp12 := Nat.lt_of_lt_of_le hp1 hb2.size
  have HGG2 := Lib.hid (errV_below HGG.out hb2 (Nat.lt_of_lt_of_le hge HB.out.size))
  clear hb2 c0 c1 c2 c3
  obtain ⟨c0, c1, c2, c3, -⟩ := HK2.out.four
  have HRUN := Lib.hid (runTurns_any b off c p po pc J x P w2 hn hnp hb12 HC2.out hi hp12 HP2.out hu HGG2.out)
  rw [HRT.out.1, HRT.out.2.1, HRT.out.2.2] at HRUN
  generalize ruX J x P = X at *
  go_wp2_with fail
  refine HRUN.out.mono ?_
  rintro e w3 ⟨v, rfl, hov, hb3⟩
  have HB3 := Lib.hid (HB2.out.trans (hb3.mono HB2.out.size))
  clear hb3 c0 c1 c2 c3
  by_cases hrc : rnC J x P = 0
  rotate_left
  · have HE := Lib.hid (ck_f (t := t) (P := P) H0.out hrc)
    generalize rnC J x P = rc at *
    have hd : (rc == 0) = false := by simpa using hrc
    go_wp2
    go_ret2
    refine ⟨by rw [HE.out, H0.out]; rfl, HB3.out.alloc HB3.out.size _⟩
  have hd : (rnC J x P == 0) = true := by simpa using hrc
  have hl60 := hlb hrc
  have hrl := HTL.out.1 hrc
  have HE := Lib.hid (ck_t (t := t) (P := P) H0.out hrc)
  have htb := HTL.out.2
  rw [hrl] at hov
  clear hlb hcb
  generalize rnC J x P = rc at *
  rcases hov with ⟨he, a', c', rfl⟩ | ⟨g, gc, rfl, hg1, hg2, hg3, hg4⟩
  · have hl0 : P.length = 0 := by have := rnL_len J x P P.length; rw [he] at this; simpa using this.symm
    have hT0 : rnT J x P P.length = 0 := by rw [hl0]; rfl
    rw [hT0] at HE
    clear hT0 he hrl htb
    go_wp2
    go_ret2
    refine ⟨by rw [HE.out, H0.out]; first | rfl | (rw [show ((0 : Int) == t) = (t == 0) from BEq.comm]; rfl), HB3.out.alloc HB3.out.size _⟩
  · rw [rnL_len] at *
    by_cases hl0 : P.length = 0
    · have hT0 : rnT J x P P.length = 0 := by rw [hl0]; rfl
      rw [hT0] at HE
      clear hT0 hrl htb hg3
      go_wp2
      go_ret2
      refine ⟨by rw [HE.out, H0.out]; first | rfl | (rw [show ((0 : Int) == t) = (t == 0) from BEq.comm]; rfl), HB3.out.alloc HB3.out.size _⟩
    · have hcell := (hg3.below ((Below.refl w3.heap.size w3).alloc (Nat.le_refl _) (.cells #[.int .i16 (X 0), .int .i16 (X 1), .int .i16 (X 2), .int .i16 (X 3)] 27)) hg2) (P.length - 1) (by rw [rnL_len]; omega)
      have hgd : (rnL J x P P.length).getD (P.length - 1) 0 = rnT J x P P.length := by
        unfold rnL
        have : P.length - 1 < P.length := by omega
        simp [List.getD_eq_getElem?_getD, this]
        congr 1; omega
      rw [hgd, Nat.zero_add] at hcell
      clear hgd hrl hg3
      generalize rnT J x P P.length = T at *
      go_wp2
      go_ret2
      refine ⟨by rw [HE.out, H0.out]; first | rfl | (rw [show ((0 : Int) == t) = (t == 0) from BEq.comm]; rfl), HB3.out.alloc HB3.out.size _⟩
end Go.Proofs.YtmjkhkhjliadcaaDoor
