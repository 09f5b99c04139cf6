/-
  The walks of ValidGlasses and ValidTops, in the program and in its model.
-/
import Derived.Test.YtnpgnekofclciaaDoorH3
namespace Go.Proofs.YtnpgnekofclciaaDoor
open Go.RowKit
set_option maxRecDepth 100000

theorem validGlasses_any (b off c : Nat) (J : List Int) (w : World) (hn : J.length ≤ 1048576) (hc : At .i16 w b off J) (hi : I16 J) :
    Calls Tryd.prog 25 #[.slice (some ⟨b, off, none⟩) J.length c] w fun e w' => e = .returned (.bool (okG J)) ∧ w = w' := by
  have HC := Lib.hid hc
  have HV := Lib.hid (fun W (h : At .i16 W b off J) => validJugs_any b off c J W hn h hi)
  cases hok : okJ J
  · rw [hok] at HV
    have HR := Lib.hid (okG_no hok)
    clear hok hc hi
    go_enter Tryd.func25, Tryd.ntmps25
    go_wp2_with (go_at_call 35; refine (HV.out _ HC.out).mono ?_; rintro e w' ⟨rfl, rfl⟩)
    go_ret
    exact ⟨retb HR.out.symm, rfl⟩
  rw [hok] at HV
  have HJ := Lib.hid (of_okJ hok)
  have HM := Lib.hid (maxG_any b off c J w HJ.out.1.1 hn hi hc)
  have hm := mxTo_bd hi (J.length - 1)
  by_cases h40 : mxTo J (J.length - 1) ≤ 40
  · have HR := Lib.hid (okG_few hok h40)
    have HS := Lib.hid (countStates_any b off c J w HJ.out.1.2 HJ.out.2.1 hc)
    have hb := stTo_bd4 HJ.out.2.1 HJ.out.1.2
    clear hok hc hi
    generalize mxTo J (J.length - 1) = m at *
    generalize stTo J J.length = s at *
    have hd : decide (m ≤ 40) = true := by simpa using h40
    go_enter Tryd.func25, Tryd.ntmps25
    go_wp2_with (first
      | (go_at_call 35; refine (HV.out _ HC.out).mono ?_; rintro e w' ⟨rfl, rfl⟩)
      | (go_at_call 36; refine (HM.out).mono ?_; rintro e w' ⟨rfl, rfl⟩)
      | (go_at_call 37; refine (HS.out).mono ?_; rintro e w' ⟨rfl, rfl⟩))
    go_ret
    exact ⟨retb HR.out.symm, rfl⟩
  · have HR := Lib.hid (okG_big hok h40)
    clear hok hc hi
    generalize mxTo J (J.length - 1) = m at *
    have hd : decide (m ≤ 40) = false := by simpa using h40
    go_enter Tryd.func25, Tryd.ntmps25
    go_wp2_with (first
      | (go_at_call 35; refine (HV.out _ HC.out).mono ?_; rintro e w' ⟨rfl, rfl⟩)
      | (go_at_call 36; refine (HM.out).mono ?_; rintro e w' ⟨rfl, rfl⟩))
    go_ret
    exact ⟨retb HR.out.symm, rfl⟩
theorem l07States_any (b off c : Nat) (J : List Int) (w : World) (hn : J.length ≤ 1048576) (hc : At .i16 w b off J) :
    Calls Tryd.prog 23 #[.slice (some ⟨b, off, none⟩) J.length c] w fun e w' => e = .returned (.int .i64 (gV J)) ∧ w = w' := by
  by_cases hl : 1 ≤ J.length ∧ J.length ≤ 4
  rotate_left
  · have Hr := Lib.hid (show gV J = 0 from by unfold gV; rw [show okG J = false from cb_f (p := OkG J) (fun h => hl h.1)]; rfl)
    have hin : ∀ W, Calls Tryd.prog 34 #[.int .i64 (J.length : Int), .int .i64 1, .int .i64 4] W fun e w' => e = .returned (.bool false) ∧ W = w' := fun W => l00In_f _ 1 4 W (by omega)
    have HI := Lib.hid hin
    clear hin hl
    go_enter Tryd.func23, Tryd.ntmps23
    go_wp2_with (go_at_call 34; refine (HI.out _).mono ?_; rintro e w' ⟨rfl, rfl⟩)
    go_ret
    exact ⟨reti Hr.out.symm, rfl⟩
  have hin : ∀ W, Calls Tryd.prog 34 #[.int .i64 (J.length : Int), .int .i64 1, .int .i64 4] W fun e w' => e = .returned (.bool true) ∧ W = w' := fun W => l00In_t _ 1 4 W (by omega)
  have HI := Lib.hid hin
  have HL := Lib.hid hl
  have hl4 := hl.2
  clear hin hl
  go_enter Tryd.func23, Tryd.ntmps23
  go_wp2_with (go_at_call 34; refine (HI.out _).mono ?_; rintro e w' ⟨rfl, rfl⟩)
  go_loop [3, 4] (fun n i => ∃ k : Nat, k ≤ J.length ∧ i = .int .i64 k ∧ n = .int .i64 (stTo J k) ∧ EachG J k) (fun _ i => J.length - (intOf i).toNat)
  case atStart => exact ⟨0, Nat.zero_le _, rfl, rfl, fun j hj => absurd hj (by omega)⟩
  case round =>
    obtain ⟨k, hk, rfl, rfl, hE⟩ := hrel
    have HE := Lib.hid hE
    clear hE
    by_cases hlt : k < J.length
    · have hcell := hc k hlt
      by_cases h1 : J.getD k 0 < 1
      · have Hr := Lib.hid (show gV J = 0 from by unfold gV; rw [show okG J = false from cb_f (p := OkG J) (fun h => by have := h.2.1 k hlt; omega)]; rfl)
        generalize J.getD k 0 = x at *
        have hd : decide (x < 1) = true := by simpa using h1
        go_wp2
        go_ret
        exact ⟨reti Hr.out.symm, rfl⟩
      have h1' : 1 ≤ J.getD k 0 := by omega
      by_cases h2 : 40 < J.getD k 0
      · have Hr := Lib.hid (show gV J = 0 from by unfold gV; rw [show okG J = false from cb_f (p := OkG J) (fun h => by have := h.2.1 k hlt; omega)]; rfl)
        generalize J.getD k 0 = x at *
        have hd : decide (x < 1) = false := by simpa using h1
        have hd2 : decide (40 < x) = true := by simpa using h2
        go_wp2
        go_ret
        exact ⟨reti Hr.out.symm, rfl⟩
      have h2' : J.getD k 0 ≤ 40 := by omega
      have HS := Lib.hid (HE.out.snoc ⟨h1', h2'⟩)
      have hp := stTo_bd4 (HE.out.each) (by omega)
      have hp2 := stTo_bd4 HS.out.each (by omega)
      have H := Lib.hid (stTo_step J k)
      rw [stTo_step] at hp2
      generalize J.getD k 0 = x at *
      have hd : decide (x < 1) = false := by simpa using h1
      have hd2 : decide (40 < x) = false := by simpa using h2
      generalize hP : stTo J k = P at *
      have HP := Lib.hid hP
      clear hP
      obtain ⟨q, hq⟩ : ∃ q, P * (x + 1) = q := ⟨_, rfl⟩
      rw [hq] at hp2
      have HQ := Lib.hid hq
      go_wp2
      go_round
      case rel => exact ⟨k + 1, by omega, by go_num, by rw [H.out, HQ.out], HS.out⟩
      case measure => simp [intOf]; omega
    · obtain rfl : k = J.length := by omega
      have hb := stTo_bd4 HE.out.each hl4
      by_cases h5 : 3000 < stTo J J.length
      · have Hr := Lib.hid (show gV J = 0 from by unfold gV; rw [show okG J = false from cb_f (p := OkG J) (fun h => by have := h.2.2; omega)]; rfl)
        generalize stTo J J.length = S at *
        go_wp2
        go_ret
        exact ⟨reti Hr.out.symm, rfl⟩
      · have Hr := Lib.hid (show gV J = stTo J J.length from by unfold gV; rw [okG_of ⟨HL.out, HE.out, by omega⟩]; rfl)
        generalize stTo J J.length = S at *
        go_wp2
        go_ret
        exact ⟨reti Hr.out.symm, rfl⟩
theorem validTops_any (b off c : Nat) (J : List Int) (x : Nat → Int) (w : World) (hn : J.length ≤ 1048576) (hb : b < w.heap.size) (hc : At .i16 w b off J) (hi : I16 J) :
    Calls Tryd.prog 17 #[.slice (some ⟨b, off, none⟩) J.length c, watV x] w fun e w' => e = .returned (.bool (okT J x)) ∧ Below w.heap.size w w' := by
  have hB := (Below.refl w.heap.size w).alloc (Nat.le_refl _) (.cells #[.int .i16 (x 0), .int .i16 (x 1), .int .i16 (x 2), .int .i16 (x 3)] 28)
  have HC := Lib.hid (hc.below hB hb)
  have HV := Lib.hid (fun W (h : At .i16 W b off J) => validGlasses_any b off c J W hn h hi)
  unfold okT
  clear hc hi
  cases hok : okG J
  · rw [hok] at HV
    clear hok
    simp only [Bool.false_and]
    have HB := Lib.hid hB
    clear hB
    go_enter Tryd.func17, Tryd.ntmps17
    go_wp2_with (go_at_call 25; refine (HV.out _ HC.out).mono ?_; rintro e w' ⟨rfl, rfl⟩)
    go_ret
    exact ⟨rfl, HB.out⟩
  · rw [hok] at HV
    have hl := (of_okG hok).1.2
    have HH := Lib.hid (canHold_any b off c J x _ hl (Nat.lt_of_lt_of_le hb hB.size) HC.out)
    have HB := Lib.hid hB
    clear hok hB
    simp only [Bool.true_and]
    go_enter Tryd.func17, Tryd.ntmps17
    go_wp2_with (go_at_call 25; refine (HV.out _ HC.out).mono ?_; rintro e w' ⟨rfl, rfl⟩)
    refine HH.out.mono ?_
    rintro e w2 ⟨rfl, hb2⟩
    have HB2 := Lib.hid (HB.out.trans (hb2.mono HB.out.size))
    clear hb2
    go_wp2
    go_ret
    exact ⟨rfl, HB2.out⟩
theorem l07Ok_any (b off c : Nat) (J : List Int) (x : Nat → Int) (w : World) (hn : J.length ≤ 1048576) (hb : b < w.heap.size) (hc : At .i16 w b off J) :
    Calls Tryd.prog 15 #[.slice (some ⟨b, off, none⟩) J.length c, watV x] w fun e w' => e = .returned (.bool (okT J x)) ∧ Below w.heap.size w w' := by
  have k0 := blk_new w #[.int .i16 (x 0), .int .i16 (x 1), .int .i16 (x 2), .int .i16 (x 3)] 28
  have hB := (Below.refl w.heap.size w).alloc (Nat.le_refl _) (.cells #[.int .i16 (x 0), .int .i16 (x 1), .int .i16 (x 2), .int .i16 (x 3)] 28)
  have hc1 := hc.below hB hb
  have HV := Lib.hid (l07States_any b off c J _ hn hc1)
  clear hc
  cases hok : okG J
  · have hs : gV J = 0 := by unfold gV; rw [hok]; rfl
    rw [hs] at HV
    have Hr := Lib.hid (show okT J x = false from by unfold okT; rw [hok]; rfl)
    clear hok hs k0
    have HB := Lib.hid hB
    clear hB
    go_enter Tryd.func15, Tryd.ntmps15
    go_wp2_with (go_at_call 23; refine (HV.out).mono ?_; rintro e w' ⟨rfl, rfl⟩)
    go_ret
    exact ⟨retb Hr.out.symm, HB.out⟩
  have hs : 0 < gV J := gV_pos.2 (of_okG hok)
  have hbd := gV_bd J
  have Hq := Lib.hid (show okT J x = okX J x from by unfold okT; rw [hok]; rfl)
  clear hok
  generalize gV J = S at *
  have hd0 : decide (S = 0) = false := by simp; omega
  have HB := Lib.hid hB
  clear hB
  go_enter Tryd.func15, Tryd.ntmps15
  go_wp2_with (go_at_call 23; refine (HV.out).mono ?_; rintro e w' ⟨rfl, rfl⟩)
  generalize hg : w.alloc (.cells #[.int .i16 (x 0), .int .i16 (x 1), .int .i16 (x 2), .int .i16 (x 3)] 28) = wb at *
  clear hg HV
  go_loop [5, 6] (fun i _ => ∃ k : Nat, k ≤ 4 ∧ i = .int .i64 k ∧ UpTo J x k) (fun i _ => 4 - (intOf i).toNat)
  case atStart => exact ⟨0, Nat.zero_le _, rfl, fun j hj => absurd hj (by omega)⟩
  case round =>
    obtain ⟨k, hk, rfl, hU⟩ := hrel
    have HU := Lib.hid hU
    clear hU
    by_cases hlt : k < 4
    · have hx := k0.wat hlt
      by_cases h1 : x k < 0
      · have Hr := Lib.hid (show okT J x = false from Hq.out.trans (cb_f (p := OkX J x) (fun h => by have := h k hlt; omega)))
        generalize x k = y at *
        have hd : decide (y < 0) = true := by simpa using h1
        by_cases hj : k < J.length
        · have hcell := hc1 k hj
          go_wp2
          go_ret
          exact ⟨retb Hr.out.symm, HB.out⟩
        · go_wp2
          go_ret
          exact ⟨retb Hr.out.symm, HB.out⟩
      by_cases h2 : J.getD k 0 < x k
      · have Hr := Lib.hid (show okT J x = false from Hq.out.trans (cb_f (p := OkX J x) (fun h => by have := h k hlt; omega)))
        generalize x k = y at *
        have hd : decide (y < 0) = false := by simpa using h1
        by_cases hj : k < J.length
        · have hcell := hc1 k hj
          generalize J.getD k 0 = m at *
          have hd2 : decide (m < y) = true := by simpa using h2
          go_wp2
          go_ret
          exact ⟨retb Hr.out.symm, HB.out⟩
        · rw [getD_ge (by omega)] at h2
          have hd2 : decide (0 < y) = true := by simpa using h2
          go_wp2
          go_ret
          exact ⟨retb Hr.out.symm, HB.out⟩
      have HS := Lib.hid (HU.out.snoc (k := k) ⟨by omega, by omega⟩)
      generalize x k = y at *
      have hd : decide (y < 0) = false := by simpa using h1
      by_cases hj : k < J.length
      · have hcell := hc1 k hj
        generalize J.getD k 0 = m at *
        have hd2 : decide (m < y) = false := by simpa using h2
        go_wp2
        go_round
        case rel => exact ⟨k + 1, by omega, by go_num, HS.out⟩
        case measure => simp [intOf]; omega
      · rw [getD_ge (by omega)] at h2
        have hd2 : decide (0 < y) = false := by simpa using h2
        go_wp2
        go_round
        case rel => exact ⟨k + 1, by omega, by go_num, HS.out⟩
        case measure => simp [intOf]; omega
    · obtain rfl : k = 4 := by omega
      have Hr := Lib.hid (show okT J x = true from Hq.out.trans (cb_t (p := OkX J x) HU.out))
      go_wp2
      go_ret
      exact ⟨retb Hr.out.symm, HB.out⟩
end Go.Proofs.YtnpgnekofclciaaDoor
