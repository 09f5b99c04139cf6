/-
  RunTurns in the program; CheckTurns in both.
-/
import Derived.Test.YtmjkhkhjliadcaaDoorH19
namespace Go.Proofs.YtmjkhkhjliadcaaDoor
open Go.RowKit
set_option maxRecDepth 100000
set_option linter.unusedVariables false

theorem hg_row {w : World} {h : Nat} {x : Nat → Int} {v : Value} {t : TypeId} (hk : Blk w h #[.int .i16 (x 0), .int .i16 (x 1), .int .i16 (x 2), .int .i16 (x 3), v] t) : w.rowIs h t 5 (hgF x v) :=
  ⟨_, hk, rfl, fun i hi => by
    have : i = 0 ∨ i = 1 ∨ i = 2 ∨ i = 3 ∨ i = 4 := by omega
    rcases this with rfl | rfl | rfl | rfl | rfl <;> rfl⟩
theorem rt_err {J : List Int} {x : Nat → Int} {P : List Int} (h : okT J x = true) : ∀ c : Int, rnC J x P = c → c ≠ 0 → rtL J x P = [] ∧ rtX J x P = noT ∧ rtC J x P = c := fun c hc h0 => by
  obtain ⟨e1, e2, e3⟩ := rt_ok (P := P) h
  refine ⟨?_, ?_, e3.trans hc⟩
  · rw [e1]; unfold ruL; rw [hc, if_neg h0]
  · rw [e2]; unfold ruX; rw [hc, if_neg h0]
theorem rt_fine {J : List Int} {x : Nat → Int} {P : List Int} (h : okT J x = true) (hc : rnC J x P = 0) : rtL J x P = rnL J x P P.length ∧ rtX J x P = rnX J x P P.length ∧ rtC J x P = 0 := by
  obtain ⟨e1, e2, e3⟩ := rt_ok (P := P) h
  refine ⟨?_, ?_, e3.trans hc⟩
  · rw [e1]; unfold ruL; rw [hc, if_pos rfl]
  · rw [e2]; unfold ruX; rw [hc, if_pos rfl]
set_option maxHeartbeats 2000000 in
theorem runTurns_any (b off c p po pc : Nat) (J : List Int) (x : Nat → Int) (P : List Int) (w : World) (hn : J.length ≤ 1048576) (hnp : P.length ≤ 1048576) (hb : b < w.heap.size) (hc : At .i16 w b off J) (hi : I16 J) (hp : p < w.heap.size) (hpc : At .u8 w p po P) (hu : HYPU P) (hg : w.cell? ⟨0, 0, none⟩ = some errV) :
    Calls Tryd.prog 9 #[.slice (some ⟨b, off, none⟩) J.length c, watV x, .slice (some ⟨p, po, none⟩) P.length pc] w fun e w' => ∃ v, e = .returned (.tuple #[v, watV (rtX J x P), .int .i64 (rtC J x P)]) ∧ OwnV .i64 w.heap.size w' v (rtL J x P) ∧ Below w.heap.size w w' := by
  have k1 := (blk_new w #[.int .i16 (x 0), .int .i16 (x 1), .int .i16 (x 2), .int .i16 (x 3)] 27).alloc (.cells #[.int .i16 0, .int .i16 0, .int .i16 0, .int .i16 0] 27)
  have k2 := blk_new (w.alloc (.cells #[.int .i16 (x 0), .int .i16 (x 1), .int .i16 (x 2), .int .i16 (x 3)] 27)) #[.int .i16 0, .int .i16 0, .int .i16 0, .int .i16 0] 27
  have hB := ((Below.refl w.heap.size w).alloc (Nat.le_refl _) (.cells #[.int .i16 (x 0), .int .i16 (x 1), .int .i16 (x 2), .int .i16 (x 3)] 27)).alloc (by simp) (.cells #[.int .i16 0, .int .i16 0, .int .i16 0, .int .i16 0] 27)
  simp only [World.size_alloc] at k2
  have hc1 := hc.below hB hb
  have hb1 := Nat.lt_of_lt_of_le hb hB.size
  have HV := Lib.hid (validTops_any b off c J x _ hn hb1 hc1 hi)
  have hp1 := Nat.lt_of_lt_of_le hp hB.size
  have HPC := Lib.hid (hpc.below hB hp)
  have hge := errV_lt hg
  have HGG := Lib.hid (errV_below hg hB hge)
  have HC := Lib.hid hc1
  have HK1 := Lib.hid k1
  have HK2 := Lib.hid k2
  have HB := Lib.hid hB
  obtain ⟨c0, c1, c2, c3, -⟩ := k1.four
  have hle : w.heap.size ≤ w.heap.size + 1 := by omega
  clear hB hc hc1 k1 k2
  clear hg hpc
  cases hok : okT J x
  · rw [hok] at HV
    have HE := Lib.hid (rt_bad (P := P) hok)
    clear hok
    go_enter Tryd.func9, Tryd.ntmps9
    go_wp2_with fail
    refine HV.out.mono ?_
    rintro e w2 ⟨rfl, hb2⟩
    have HB2 := Lib.hid (HB.out.trans (hb2.mono HB.out.size))
    obtain ⟨z0, z1, z2, z3, z4⟩ := (HK2.out.below hb2 HK2.out.lt).four
    clear hb2 c0 c1 c2 c3
    go_wp2
    refine bodyPost_ret (v := .tuple #[.slice none 0 0, watV noT, .int .i64 1]) (by simp [results, Tryd.results9, go_sem, z0, z1, z2, z3, noT]) rfl ⟨_, by rw [HE.out.2.1, HE.out.2.2], by rw [HE.out.1]; exact OwnV.nil _ _ _ _ _, ?_⟩
    exact (((HB2.out.setCell hle _).setCell hle _).setCell hle _).setCell hle _
  rw [hok] at HV
  have HG := Lib.hid (okT_G hok)
  have HX := Lib.hid (okT_X hok)
  have hl4 := HG.out.1.2
  have HEE := Lib.hid (rt_err (P := P) hok)
  have HEF := Lib.hid (rt_fine (P := P) hok)
  clear hok
  go_enter Tryd.func9, Tryd.ntmps9
  go_wp2_with fail
  refine HV.out.mono ?_
  rintro e w2 ⟨rfl, hb2⟩
  have HB2 := Lib.hid (HB.out.trans (hb2.mono HB.out.size))
  have HK12 := Lib.hid (HK1.out.below hb2 HK1.out.lt)
  have HK22 := Lib.hid (HK2.out.below hb2 HK2.out.lt)
  have HC2 := Lib.hid (HC.out.below hb2 hb1)
  have HP2 := Lib.hid (HPC.out.below hb2 hp1)
  have hb12 := Nat.lt_of_lt_of_le hb1 hb2.size
  have hp12 := Nat.lt_of_lt_of_le hp1 hb2.size
  have HGG2 := Lib.hid (errV_below HGG.out hb2 (Nat.lt_of_lt_of_le hge HB.out.size))
  clear hb2 c0 c1 c2 c3
  obtain ⟨c0, c1, c2, c3, -⟩ := HK12.out.four
  have hB3 := (Below.refl w2.heap.size w2).alloc (Nat.le_refl _) (.cells #[.int .i16 (x 0), .int .i16 (x 1), .int .i16 (x 2), .int .i16 (x 3), .slice (some ⟨b, off, none⟩) J.length c] 47)
  have k3 := blk_new w2 #[.int .i16 (x 0), .int .i16 (x 1), .int .i16 (x 2), .int .i16 (x 3), .slice (some ⟨b, off, none⟩) J.length c] 47
  have HC3 := Lib.hid (HC2.out.below hB3 hb12)
  have HP3 := Lib.hid (HP2.out.below hB3 hp12)
  have HK23 := Lib.hid (HK22.out.below hB3 HK22.out.lt)
  have HGG3 := Lib.hid (errV_below HGG2.out hB3 (Nat.lt_of_lt_of_le hge HB2.out.size))
  have HBX := Lib.hid hB3
  have HR3 := Lib.hid (hg_row k3)
  have hlt2 := HK22.out.lt
  have hz3 : (w2.alloc (.cells #[.int .i16 (x 0), .int .i16 (x 1), .int .i16 (x 2), .int .i16 (x 3), .slice (some ⟨b, off, none⟩) J.length c] 47)).heap.size = w2.heap.size + 1 := by simp
  clear hB3 k3
  go_wp2_with fail
  refine (timesOf_any w2.heap.size b off c p po pc J x P _ hnp hl4 HG.out.2.1.each HX.out hb12 hp12 HC3.out HP3.out hu HR3.out).mono ?_
  rintro e w4 ⟨v, er, rfl, ho4, hte⟩
  have HB4 := Lib.hid (HB2.out.trans ((HBX.out.trans ho4.below).mono HB2.out.size))
  have HK24 := Lib.hid (HK23.out.below ho4.below hlt2)
  have HGG4 := Lib.hid (errV_below HGG3.out ho4.below (Nat.lt_of_lt_of_le hge HB2.out.size))
  have hs4 := ho4.size
  clear ho4 c0 c1 c2 c3
  rcases hte with ⟨hcode, rfl, hov, hr4⟩ | ⟨hcode, s, hte⟩ | ⟨hcode, s, hte⟩ | ⟨hcode, hte⟩
  · have HE := Lib.hid (HEF.out hcode)
    have HOV := Lib.hid hov
    obtain ⟨z0, z1, z2, z3, z4⟩ := HK24.out.four
    obtain ⟨h0, h1, h2, h3, h4⟩ := hg_five hr4
    clear hcode hov hr4
    generalize rnX J x P P.length = E at *
    go_wp2
    go_region
    go_wp2
    refine bodyPost_ret (v := .tuple #[v, watV E, .int .i64 0]) (by simp [results, Tryd.results9, go_sem, z0, z1, z2, z3]) rfl ⟨v, by rw [HE.out.2.1, HE.out.2.2], ?_, ?_⟩
    · rw [HE.out.1]
      have hq := ownv_set4 HOV.out (show w.heap.size + 1 < (w2.alloc (.cells #[.int .i16 (x 0), .int .i16 (x 1), .int .i16 (x 2), .int .i16 (x 3), .slice (some ⟨b, off, none⟩) J.length c] 47)).heap.size by omega) (.int .i16 (E 0)) (.int .i16 (E 1)) (.int .i16 (E 2)) (.int .i16 (E 3))
      exact (hq.below ((Below.refl _ _).drew) (Nat.le_refl _)).mono (by have := HB2.out.size; omega)
    · exact ((((HB4.out.setCell hle _).setCell hle _).setCell hle _).setCell hle _).drew
  · subst hte
    have HE := Lib.hid (HEE.out 3 hcode (by omega))
    clear HEE hcode
    go_wp2_with fail
    refine (codeL_any s _ HGG4.out).mono ?_
    rintro e w5 ⟨rfl, hb5⟩
    have HB5 := Lib.hid (HB4.out.trans (hb5.mono HB4.out.size))
    obtain ⟨z0, z1, z2, z3, z4⟩ := (HK24.out.below hb5 HK24.out.lt).four
    clear hb5
    go_wp2
    refine bodyPost_ret (v := .tuple #[.slice none 0 0, watV noT, .int .i64 3]) (by simp [results, Tryd.results9, go_sem, z0, z1, z2, z3, noT]) rfl ⟨_, by rw [HE.out.2.1, HE.out.2.2], by rw [HE.out.1]; exact OwnV.nil _ _ _ _ _, ?_⟩
    exact (((HB5.out.setCell hle _).setCell hle _).setCell hle _).setCell hle _
  · subst hte
    have HE := Lib.hid (HEE.out 2 hcode (by omega))
    clear HEE hcode
    go_wp2_with fail
    refine (codeS_any s _ HGG4.out).mono ?_
    rintro e w5 ⟨rfl, hb5⟩
    have HB5 := Lib.hid (HB4.out.trans (hb5.mono HB4.out.size))
    obtain ⟨z0, z1, z2, z3, z4⟩ := (HK24.out.below hb5 HK24.out.lt).four
    clear hb5
    go_wp2
    refine bodyPost_ret (v := .tuple #[.slice none 0 0, watV noT, .int .i64 2]) (by simp [results, Tryd.results9, go_sem, z0, z1, z2, z3, noT]) rfl ⟨_, by rw [HE.out.2.1, HE.out.2.2], by rw [HE.out.1]; exact OwnV.nil _ _ _ _ _, ?_⟩
    exact (((HB5.out.setCell hle _).setCell hle _).setCell hle _).setCell hle _
  · subst hte
    have HE := Lib.hid (HEE.out 4 hcode (by omega))
    clear HEE hcode
    go_wp2_with fail
    refine (codeN_any _ HGG4.out).mono ?_
    rintro e w5 ⟨rfl, hb5⟩
    have HB5 := Lib.hid (HB4.out.trans (hb5.mono HB4.out.size))
    obtain ⟨z0, z1, z2, z3, z4⟩ := (HK24.out.below hb5 HK24.out.lt).four
    clear hb5
    go_wp2
    refine bodyPost_ret (v := .tuple #[.slice none 0 0, watV noT, .int .i64 4]) (by simp [results, Tryd.results9, go_sem, z0, z1, z2, z3, noT]) rfl ⟨_, by rw [HE.out.2.1, HE.out.2.2], by rw [HE.out.1]; exact OwnV.nil _ _ _ _ _, ?_⟩
    exact (((HB5.out.setCell hle _).setCell hle _).setCell hle _).setCell hle _
noncomputable def ckB (J : List Int) (x : Nat → Int) (P : List Int) (t : Int) : Bool := cb (askC J x t = 0 ∧ rnC J x P = 0 ∧ rnT J x P P.length = t)
theorem askC_bd (J : List Int) (x : Nat → Int) (t : Int) : 0 ≤ askC J x t ∧ askC J x t ≤ 2 := by
  unfold askC
  by_cases h : okT J x = true
  · rw [if_pos h]; by_cases h2 : inB t 0 120 = true
    · rw [if_pos h2]; omega
    · rw [if_neg h2]; omega
  · rw [if_neg h]; omega
theorem ask_ok {J : List Int} {x : Nat → Int} {t : Int} (h : askC J x t = 0) : okT J x = true := by
  unfold askC at h
  by_cases h1 : okT J x = true
  · exact h1
  · rw [if_neg h1] at h; omega
theorem ck_no {J : List Int} {x : Nat → Int} {P : List Int} {t : Int} (h : ¬ askC J x t = 0) : ckB J x P t = false := cb_f (fun q => h q.1)
theorem ck_f {J : List Int} {x : Nat → Int} {P : List Int} {t : Int} (h : askC J x t = 0) (h2 : ¬ rnC J x P = 0) : ckB J x P t = false := cb_f (fun q => h2 q.2.1)
theorem ck_t {J : List Int} {x : Nat → Int} {P : List Int} {t : Int} (h : askC J x t = 0) (h2 : rnC J x P = 0) : ckB J x P t = (rnT J x P P.length == t) := by
  by_cases h3 : rnT J x P P.length = t
  · rw [show ckB J x P t = true from cb_t ⟨h, h2, h3⟩]; simp [h3]
  · rw [show ckB J x P t = false from cb_f (fun q => h3 q.2.2)]; simp [h3]
theorem ck_eq {J : List Int} {x : Nat → Int} {P : List Int} {t : Int} (h : askC J x t = 0) : True := trivial
theorem rcTo_bd (J : List Int) (x : Nat → Int) (P : List Int) (k : Nat) : 0 ≤ rcTo J x P k ∧ rcTo J x P k ≤ 4 := by
  induction k with
  | zero => simp [rcTo]
  | succ k ih =>
    unfold rcTo
    by_cases h : rcTo J x P k = 0
    · rw [if_pos h]
      by_cases h2 : 2 ^ J.length ≤ P.getD k 0
      · rw [if_pos h2]; omega
      · rw [if_neg h2]
        by_cases h3 : rnM J x P k = 0
        · rw [if_pos h3]; omega
        · rw [if_neg h3]; omega
    · rw [if_neg h]; exact ih
theorem rnC_bd (J : List Int) (x : Nat → Int) (P : List Int) : 0 ≤ rnC J x P ∧ rnC J x P ≤ 4 := by
  unfold rnC
  by_cases h : 60 < P.length
  · rw [if_pos h]; omega
  · rw [if_neg h]; exact rcTo_bd J x P _
end Go.Proofs.YtmjkhkhjliadcaaDoor
