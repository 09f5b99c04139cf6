/-
  ShortestCrossing in the program.
-/
import Derived.Test.YtoeoilhbekhnbaaY39
import Derived.StillTailTactics
namespace Go.Proofs.Ytoeoilhbekhnbaa
open Go.RowKit Go.Maps Go.MapKept Go.ChangeMaps
set_option maxRecDepth 100000
set_option linter.unusedVariables false

/-- What the row of loads holds when the last d of st are laid. -/
def rowB (s : St) (i st d : Nat) : List Int := List.replicate (st - d) 0 ++ byD s i d
theorem rowB_len {s : St} {i st d : Nat} (h : d ≤ st) : (rowB s i st d).length = st := by
  unfold rowB; rw [List.length_append, byD_len, List.length_replicate]; omega
theorem rowB_zero (s : St) (i st : Nat) : rowB s i st 0 = List.replicate st 0 := by simp [rowB, byD]
theorem rowB_all (s : St) (i st : Nat) : rowB s i st st = byD s i st := by simp [rowB]
theorem rowB_set {s : St} {i st d : Nat} (h : d < st) : (rowB s i st d).set (st - d - 1) (s.by'.getD (pvN s i d) 0) = rowB s i st (d + 1) := by
  unfold rowB
  obtain ⟨m, hm⟩ : ∃ m, st - d = m + 1 := ⟨st - d - 1, by omega⟩
  rw [hm, show st - (d + 1) = m by omega, show m + 1 - 1 = m from rfl, List.set_append_left _ _ (by simp)]
  have e : (List.replicate (m + 1) (0 : Int)).set m (s.by'.getD (pvN s i d) 0) = List.replicate m 0 ++ [s.by'.getD (pvN s i d) 0] := by
    rw [List.replicate_succ', List.set_append_right _ _ (by simp)]
    simp
  rw [e, List.append_assoc]
  rfl
theorem Blk.five' {w : World} {b : Nat} {a0 a1 a2 a3 a4 : Value} {t : TypeId} (h : Blk w b #[a0, a1, a2, a3, a4] t) : w.cell? ⟨b, 0, none⟩ = some a0 ∧ w.cell? ⟨b, 1, none⟩ = some a1 ∧ w.cell? ⟨b, 2, none⟩ = some a2 ∧ w.cell? ⟨b, 3, none⟩ = some a3 ∧ w.cell? ⟨b, 4, none⟩ = some a4 ∧ ∀ i, w.frozen? ⟨b, i, none⟩ = false := ⟨h.cell 0, h.cell 1, h.cell 2, h.cell 3, h.cell 4, h.free⟩
theorem lgV_eq (l : Int) (s : St) (p : Nat) : lgV l s p = .agg #[.int .u16 (bkN l (s.fr.getD (p) 0)), .bool (bkF l (s.fr.getD (p) 0)), .int .u16 (s.by'.getD (p) 0), .int .i16 (s.tb.getD (p) 0), .int .i64 (s.wy.getD (p) 0)] := rfl
set_option maxHeartbeats 2000000 in
theorem shortestCrossing_any (l k : Int) (a : Option Addr) (c : Nat) (xs : List Int) (w : World) (hs : Sl .u16 w.heap.size w a xs) (hl : B8 l) (hk : B8 k) (hn : xs.length ≤ 1048576) (hw : U16 xs) :
    Calls Try.prog 19 #[ferV l k a xs.length c] w fun e w' => ∃ v, e = .returned (.tuple #[v, .int .i64 (scC l k xs)]) ∧ OwnV .u16 w.heap.size w' v (scL l k xs) ∧ Below w.heap.size w w' := by
  have F0 := (FR.start w).box #[.int .i8 l, .int .i8 k, .slice a xs.length c] 30
  obtain ⟨c0, c1, c2, -⟩ := (F0.blk _ List.mem_cons_self).three
  have HO := Lib.hid (validFerry_any l k a c xs _ (hs.up F0.below (Nat.le_refl _)) hl hk hn hw)
  have HF := Lib.hid F0
  unfold scL scC scF
  cases hok : okY l k xs
  · rw [hok] at HO
    simp only [Bool.false_eq_true, if_false]
    clear hok F0 hs hl hk hw
    go_enter Try.func19, Try.ntmps19
    go_wp2_with fail
    refine HO.out.mono ?_
    rintro e w2 ⟨rfl, hb⟩
    have HB := Lib.hid (HF.out.next hb).below
    clear hb HF HO c0 c1 c2
    go_wp2
    go_ret2
    exact ⟨_, rfl, OwnV.nil _ _ _ _ _, HB.out⟩
  rw [hok] at HO
  simp only [if_true]
  have h8 := (okY_t hok).1
  have hk8 : 0 ≤ k ∧ k ≤ 8 := by have := okY_t hok; omega
  have hN := nB_eq h8
  have HFD := Lib.hid (fun W2 (h1 : Below w.heap.size w W2) => landings_any l k a c xs W2 (hs.up h1 (Nat.le_refl _)) hn hw h8 hk8)
  have HLB := Lib.hid (fun W => lastBank_any W)
  have HLBK := Lib.hid (last_bk h8)
  have hI := stA_inv (k := k) (xs := xs) h8 hN.1
  have hI2 := stA_inv2 (k := k) (xs := xs) h8 hN.1
  have HKM := Lib.hid (fun (i : Nat) (hi : i < nB l) => keyB_mk (bkN l (i : Int)) (bkF l (i : Int)) (by have hq := bk_num (l := l) (i := (i : Int)) h8 ⟨by omega, by omega⟩; have ha := allI_le h8; omega))
  have hlaN := hN.2.2.2
  have hN5 := hN.2.1
  generalize stA l k xs (nB l) = s at *
  generalize nB l = N at *
  generalize laN l = la at *
  have HBD := Lib.hid (pvN_bd hI hI2 hlaN)
  have hfar := hI.far la hlaN
  have hsh := hI.short
  have HI := Lib.hid (And.intro hI hI2)
  obtain ⟨kl, hkl⟩ := keyB_mk 0 true (by decide)
  have HKL := Lib.hid hkl
  clear hok F0 hs hl hk hw hN h8 hk8 hI hI2 hkl
  obtain ⟨LL, hLL⟩ : ∃ LL : List Int, LL = if decide (0 ≤ s.tb.getD la 0) = true then byV s la else [] := ⟨_, rfl⟩
  obtain ⟨CC, hCC⟩ : ∃ CC : Int, CC = if decide (0 ≤ s.tb.getD la 0) = true then 0 else 6 := ⟨_, rfl⟩
  rw [← hLL, ← hCC]
  have HLC := Lib.hid (And.intro hLL hCC)
  clear hLL hCC
  go_enter Try.func19, Try.ntmps19
  go_wp2_with fail
  refine HO.out.mono ?_
  rintro e w2 ⟨rfl, hb⟩
  have F2 := HF.out.next hb
  have HFX := Lib.hid (HFD.out w2 F2.below)
  clear c0 c1 c2
  obtain ⟨c0, c1, c2, -⟩ := (F2.blk _ List.mem_cons_self).three
  have HB2 := Lib.hid F2.below
  clear hb HF HO F2 HFD
  go_wp2_with fail
  refine HFX.out.mono ?_
  rintro e w3 ⟨O, X, mb, g, cap, rfl, hP⟩
  have HB3 := Lib.hid (HB2.out.trans (hP.below.mono HB2.out.size))
  obtain ⟨G, nn, hnn, hM, hS⟩ := hP.map
  have HM := Lib.hid hM
  have HS := Lib.hid hS
  have hmlo : w.heap.size ≤ mb := Nat.le_trans HB2.out.size hP.lo.2.2
  clear c0 c1 c2 HFX hP hM hS hnn HB2
  go_wp2_with fail
  refine (HLB.out w3).mono ?_
  rintro e w4 ⟨rfl, hb4⟩
  have HM4 := Lib.hid (HM.out.below hb4 HM.out.lt)
  have HB4 := Lib.hid (HB3.out.trans (hb4.mono HB3.out.size))
  clear hb4 HM HB3 HLB
  by_cases hv : 0 ≤ s.tb.getD la 0
  case neg =>
    have HL2 := Lib.hid (show LL = [] ∧ CC = 6 by have h := HLC.out; rw [decide_eq_false hv] at h; exact h)
    have hg : G (bankV 0 true) = none := by rw [HLBK.out, HS.out.1 la hlaN]; unfold lgO; rw [if_neg hv]
    have HV := Lib.hid (show (G (bankV 0 true)).getD (.agg #[.int .u16 0, .bool false, .int .u16 0, .int .i16 0, .int .i64 0]) = .agg #[.int .u16 0, .bool false, .int .u16 0, .int .i16 0, .int .i64 0] by rw [hg]; rfl)
    have HSM := Lib.hid (show (G (bankV 0 true)).isSome = false by rw [hg]; rfl)
    have HBE := Lib.hid (HB4.out.alloc HB4.out.size (.cells #[.int .u16 0, .bool false, .int .u16 0, .int .i16 0, .int .i64 0] 66))
    clear hg
    go_wp2_with (first
      | (at_lookup; refine wpList_lookH_ok rfl _ _ 60 rfl 66 keyB Try.underlying60 (zeroLg' _) rfl HM4.out (bankV 0 true) kl rfl HKL.out _ HV.out false HSM.out ?_)
      | fail)
    go_ret2
    rw [HL2.out.1, HL2.out.2]
    exact ⟨_, rfl, OwnV.nil _ _ _ _ _, HBE.out⟩
  obtain ⟨st, hst⟩ : ∃ st : Nat, s.tb.getD la 0 = (st : Int) := ⟨(s.tb.getD la 0).toNat, by omega⟩
  have HL2 := Lib.hid (show LL = byD s la st ∧ CC = 0 by have h := HLC.out; rw [decide_eq_true hv, if_pos rfl, if_pos rfl] at h; rw [h.1, h.2]; unfold byV; rw [hst]; exact ⟨rfl, rfl⟩)
  have hg : G (bankV 0 true) = some (lgV l s la) := by rw [HLBK.out, HS.out.1 la hlaN]; unfold lgO; rw [if_pos hv]
  have HSM := Lib.hid (show (G (bankV 0 true)).isSome = true by rw [hg]; rfl)
  have HGS := Lib.hid (fun (p : Nat) (hp : p < N) (h0 : 0 ≤ s.tb.getD p 0) => (show G (bankV (bkN l (p : Int)) (bkF l (p : Int))) = some (lgV l s p) by rw [show bankV (bkN l (p : Int)) (bkF l (p : Int)) = bkV l (p : Nat) from rfl, HS.out.1 p hp]; unfold lgO; rw [if_pos h0]))
  have hst5 : st ≤ 512 := by omega
  rw [hst] at HBD
  have HST := Lib.hid hst
  obtain ⟨y1, hy1⟩ : ∃ y, bkN l (s.fr.getD la 0) = y := ⟨_, rfl⟩
  obtain ⟨y2, hy2⟩ : ∃ y, bkF l (s.fr.getD la 0) = y := ⟨_, rfl⟩
  obtain ⟨y3, hy3⟩ : ∃ y, s.by'.getD la 0 = y := ⟨_, rfl⟩
  obtain ⟨y5, hy5⟩ : ∃ y, s.wy.getD la 0 = y := ⟨_, rfl⟩
  have HV := Lib.hid (show (G (bankV 0 true)).getD (.agg #[.int .u16 0, .bool false, .int .u16 0, .int .i16 0, .int .i64 0]) = .agg #[.int .u16 y1, .bool y2, .int .u16 y3, .int .i16 (st : Int), .int .i64 y5] by rw [hg]; show lgV l s la = _; unfold lgV; rw [hy1, hy2, hy3, hst, hy5])
  have HYY := Lib.hid (show lgV l s la = .agg #[.int .u16 y1, .bool y2, .int .u16 y3, .int .i16 (st : Int), .int .i64 y5] by unfold lgV; rw [hy1, hy2, hy3, hst, hy5])
  have hmk := run_make_row' (P := Try.prog) 23 62 (.int .u16 0) 2 Try.underlying23 Try.info_u16 rfl .i16 .i16 st (by omega) (by omega)
  rw [made_ncells] at hmk
  clear hg hst hy1 hy2 hy3 hy5 hv
  have hW0 := (blk_new w4 #[.int .u16 y1, .bool y2, .int .u16 y3, .int .i16 (st : Int), .int .i64 y5] 66).alloc (.cells (ncells .u16 (List.replicate st 0)) 62)
  have hR0 := blk_new (w4.alloc (.cells #[.int .u16 y1, .bool y2, .int .u16 y3, .int .i16 (st : Int), .int .i64 y5] 66)) (ncells .u16 (List.replicate st 0)) 62
  have hB0 := (HB4.out.alloc HB4.out.size (.cells #[.int .u16 y1, .bool y2, .int .u16 y3, .int .i16 (st : Int), .int .i64 y5] 66)).alloc (by simp; have := HB4.out.size; omega) (.cells (ncells .u16 (List.replicate st 0)) 62)
  simp only [World.size_alloc] at hR0
  have hM0 := (HM4.out.alloc (.cells #[.int .u16 y1, .bool y2, .int .u16 y3, .int .i16 (st : Int), .int .i64 y5] 66)).alloc (.cells (ncells .u16 (List.replicate st 0)) 62)
  have hml := HM4.out.lt
  have H0 := Lib.hid (And.intro hW0 (And.intro hR0 (And.intro hM0 hB0)))
  have hzw := HB4.out.size
  clear hW0 hR0 hM0 hB0
  go_wp2_with (first
    | (at_lookup; refine wpList_lookH_ok rfl _ _ 60 rfl 66 keyB Try.underlying60 (zeroLg' _) rfl HM4.out (bankV 0 true) kl rfl HKL.out _ HV.out true HSM.out ?_)
    | fail)
  go_loopw [8] (fun iv wr => ∃ d : Nat, iv = .int .i64 ((st : Int) - d - 1) ∧ d ≤ st ∧ (∃ b1 b2 b3 b5, lgV l s (pvN s la d) = .agg #[.int .u16 b1, .bool b2, .int .u16 b3, .int .i16 ((st : Int) - d), .int .i64 b5] ∧ Blk wr w4.heap.size #[.int .u16 b1, .bool b2, .int .u16 b3, .int .i16 ((st : Int) - d), .int .i64 b5] 66) ∧ Blk wr (w4.heap.size + 1) (ncells .u16 (rowB s la st d)) 62 ∧ MapAt Try.prog 64 wr mb nn G ∧ Below w.heap.size w wr) (fun iv _ => (intOf iv + 1).toNat)
  case atStart =>
    refine ⟨0, by simp, Nat.zero_le _, ⟨y1, y2, y3, y5, ?_, ?_⟩, by rw [rowB_zero]; exact H0.out.2.1, H0.out.2.2.1, H0.out.2.2.2⟩
    · show lgV l s la = _
      rw [HYY.out]; simp
    · have h := H0.out.1
      simpa using h
  case round =>
    clear H0 HM4 HV HYY HSM hmk
    obtain ⟨d, rfl, hd, ⟨b1, b2, b3, b5, hlg, hWb⟩, hRb, hMap, hB⟩ := hrel
    by_cases hlt : d < st
    · obtain ⟨hkN, hkt⟩ := HBD.out d (by omega)
      have hkN2 := (HBD.out (d + 1) (by omega))
      have hb1 : b1 = bkN l (s.fr.getD (pvN s la d) 0) ∧ b2 = bkF l (s.fr.getD (pvN s la d) 0) ∧ b3 = s.by'.getD (pvN s la d) 0 := by
        unfold lgV at hlg
        simp at hlg
        exact ⟨hlg.1.symm, hlg.2.1.symm, hlg.2.2.1.symm⟩
      have hbk := HI.out.2.back _ hkN
      have hfe : s.fr.getD (pvN s la d) 0 = ((pvN s la (d + 1) : Nat) : Int) := by show _ = (((s.fr.getD (pvN s la d) 0).toNat : Nat) : Int); omega
      rw [hfe] at hb1
      obtain ⟨kE, hkE⟩ := HKM.out (pvN s la (d + 1)) hkN2.1
      have hGE := HGS.out (pvN s la (d + 1)) hkN2.1 (by rw [hkN2.2]; omega)
      have HRS := Lib.hid (rowB_set (s := s) (i := la) hlt)
      rw [← hb1.2.2] at HRS
      rw [← hb1.1, ← hb1.2.1] at hkE hGE
      have hrl := rowB_len (s := s) (i := la) hd
      obtain ⟨e1, he1⟩ : ∃ y, bkN l (s.fr.getD (pvN s la (d + 1)) 0) = y := ⟨_, rfl⟩
      obtain ⟨e2, he2⟩ : ∃ y, bkF l (s.fr.getD (pvN s la (d + 1)) 0) = y := ⟨_, rfl⟩
      obtain ⟨e3, he3⟩ : ∃ y, s.by'.getD (pvN s la (d + 1)) 0 = y := ⟨_, rfl⟩
      obtain ⟨e5, he5⟩ : ∃ y, s.wy.getD (pvN s la (d + 1)) 0 = y := ⟨_, rfl⟩
      obtain ⟨z4, hz4⟩ : ∃ z4 : Int, (st : Int) - ((d + 1 : Nat) : Int) = z4 := ⟨_, rfl⟩
      have hLE : lgV l s (pvN s la (d + 1)) = .agg #[.int .u16 e1, .bool e2, .int .u16 e3, .int .i16 z4, .int .i64 e5] := by unfold lgV; rw [he1, he2, he3, he5, hkN2.2, hz4]
      have HLE := Lib.hid hLE
      have HZ4 := Lib.hid hz4
      have HV := Lib.hid (show (G (bankV b1 b2)).getD (.agg #[.int .u16 0, .bool false, .int .u16 0, .int .i16 0, .int .i64 0]) = .agg #[.int .u16 e1, .bool e2, .int .u16 e3, .int .i16 z4, .int .i64 e5] by rw [hGE, hLE]; rfl)
      have HKE := Lib.hid hkE
      obtain ⟨p, hp⟩ : ∃ p : Nat, st - d - 1 = p := ⟨_, rfl⟩
      have hpe : (st : Int) - d - 1 = (p : Int) := by omega
      have hps : (p : Int) < (st : Int) := by omega
      have HPE := Lib.hid (And.intro hp hpe)
      rw [hpe]
      rw [hp] at HRS
      have hge : (0 : Int) ≤ (p : Int) := by omega
      have r0 : wr.cell? ⟨w4.heap.size + 1, p, none⟩ = some (.int .u16 ((rowB s la st d).getD p 0)) := (hRb.cell p).trans (ncells_get _ _ _ (by rw [hrl]; omega))
      have rf := hRb.free p
      obtain ⟨d0, d1, d2, d3, d4, df⟩ := hWb.five'
      have HALL := Lib.hid (And.intro hWb (And.intro hRb (And.intro hMap hB)))
      have hsl := hRb.lt
      have HR2 := Lib.hid (show Blk (wr.setCell ⟨w4.heap.size + 1, p, none⟩ (.int .u16 b3)) (w4.heap.size + 1) (ncells .u16 (rowB s la st (d + 1))) 62 by
        have h := hRb.set p (.int .u16 b3)
        rw [ncells_set _ _ _ _ (by rw [hrl]; omega), HRS.out] at h
        exact h)
      have HW2 := Lib.hid (hWb.setOther (show w4.heap.size ≠ w4.heap.size + 1 by omega) p (.int .u16 b3))
      have HM2 := Lib.hid (hMap.setCell (a := ⟨w4.heap.size + 1, p, none⟩) (show mb ≠ w4.heap.size + 1 by omega) (.int .u16 b3))
      have HB2 := Lib.hid (hB.setCell (p := ⟨w4.heap.size + 1, p, none⟩) (show w.heap.size ≤ w4.heap.size + 1 by omega) (.int .u16 b3))
      clear hlg hWb hRb hMap hB hb1 hkt hkN hkN2 hbk hfe hkE hGE he1 he2 he3 he5 hz4 hLE hp hpe hrl HRS
      go_upto_region 12 with fail
      clear r0 rf d0 d1 d2 d3 d4 df HALL
      generalize wr.setCell ⟨w4.heap.size + 1, p, none⟩ (.int .u16 b3) = wq at *
      obtain ⟨d0, d1, d2, d3, d4, df⟩ := HW2.out.five'
      have df0 := df 0
      have df1 := df 1
      have df2 := df 2
      have df3 := df 3
      have df4 := df 4
      have HW3 := Lib.hid (show Blk (((((wq.setCell ⟨w4.heap.size, 0, none⟩ (.int .u16 e1)).setCell ⟨w4.heap.size, 1, none⟩ (.bool e2)).setCell ⟨w4.heap.size, 2, none⟩ (.int .u16 e3)).setCell ⟨w4.heap.size, 3, none⟩ (.int .i16 z4)).setCell ⟨w4.heap.size, 4, none⟩ (.int .i64 e5)) w4.heap.size #[.int .u16 e1, .bool e2, .int .u16 e3, .int .i16 z4, .int .i64 e5] 66 from ((((HW2.out.set 0 (.int .u16 e1)).set 1 (.bool e2)).set 2 (.int .u16 e3)).set 3 (.int .i16 z4)).set 4 (.int .i64 e5))
      have HR3 := Lib.hid (((((HR2.out.setOther (show w4.heap.size + 1 ≠ w4.heap.size by omega) 0 (.int .u16 e1)).setOther (show w4.heap.size + 1 ≠ w4.heap.size by omega) 1 (.bool e2)).setOther (show w4.heap.size + 1 ≠ w4.heap.size by omega) 2 (.int .u16 e3)).setOther (show w4.heap.size + 1 ≠ w4.heap.size by omega) 3 (.int .i16 z4)).setOther (show w4.heap.size + 1 ≠ w4.heap.size by omega) 4 (.int .i64 e5))
      have HM3 := Lib.hid (((((HM2.out.setCell (a := ⟨w4.heap.size, 0, none⟩) (show mb ≠ w4.heap.size by omega) (.int .u16 e1)).setCell (a := ⟨w4.heap.size, 1, none⟩) (show mb ≠ w4.heap.size by omega) (.bool e2)).setCell (a := ⟨w4.heap.size, 2, none⟩) (show mb ≠ w4.heap.size by omega) (.int .u16 e3)).setCell (a := ⟨w4.heap.size, 3, none⟩) (show mb ≠ w4.heap.size by omega) (.int .i16 z4)).setCell (a := ⟨w4.heap.size, 4, none⟩) (show mb ≠ w4.heap.size by omega) (.int .i64 e5))
      have HB3 := Lib.hid (((((HB2.out.setCell (p := ⟨w4.heap.size, 0, none⟩) hzw (.int .u16 e1)).setCell (p := ⟨w4.heap.size, 1, none⟩) hzw (.bool e2)).setCell (p := ⟨w4.heap.size, 2, none⟩) hzw (.int .u16 e3)).setCell (p := ⟨w4.heap.size, 3, none⟩) hzw (.int .i16 z4)).setCell (p := ⟨w4.heap.size, 4, none⟩) hzw (.int .i64 e5))
      clear HR2 HW2 HB2 df
      go_wp2_with (first
        | (at_lookup; refine wpList_lookH rfl _ _ 60 rfl 66 keyB Try.underlying60 (zeroLg' _) rfl HM2.out (bankV b1 b2) kE rfl HKE.out _ HV.out ?_)
        | fail)
      go_roundw
      case rel =>
        refine ⟨d + 1, by have := HPE.out.2; go_num, by omega, ⟨e1, e2, e3, e5, ?_, ?_⟩, HR3.out, HM3.out, HB3.out⟩
        · rw [HLE.out, HZ4.out]
        · rw [HZ4.out]; exact HW3.out
      case measure => simp [intOf]
    · obtain rfl : d = st := by omega
      have HO2 := Lib.hid (show OwnV .u16 w.heap.size wr (.slice (some ⟨w4.heap.size + 1, 0, none⟩) d d) (byD s la d) by
        rw [rowB_all] at hRb
        exact ownV_of_blk hRb (by omega) (by rw [byD_len]))
      have hz : ¬ (0 : Int) ≤ (d : Int) - d - 1 := by omega
      have HBE := Lib.hid hB
      clear hWb hRb hMap hB hlg
      go_wp2
      go_ret2
      rw [HL2.out.1, HL2.out.2]
      exact ⟨_, rfl, HO2.out, HBE.out⟩
end Go.Proofs.Ytoeoilhbekhnbaa
