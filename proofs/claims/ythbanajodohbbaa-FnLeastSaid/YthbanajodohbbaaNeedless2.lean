/-
  The walks of NeedlessWeight, in the program and in its model.
-/
import Derived.Test.YthbanajodohbbaaNeedless
namespace Go.Proofs.Ythbanajodohbbaa
open Go.RowKit Go.Maps
set_option linter.unusedVariables false

theorem sumI_shift (xs : List Int) : ∀ a : Int, xs.foldl (· + ·) a = a + sumI xs := by
  unfold sumI
  induction xs with
  | nil => intro a; simp
  | cons x xs ih => intro a; rw [List.foldl_cons, List.foldl_cons, ih, ih (0 + x)]; omega
theorem sumI_append (xs ys : List Int) : sumI (xs ++ ys) = sumI xs + sumI ys := by
  rw [show sumI (xs ++ ys) = (xs ++ ys).foldl (· + ·) 0 from rfl, List.foldl_append, sumI_shift]; rfl
theorem rmv_sum {ws : List Int} {i : Nat} (hi : i < ws.length) : sumI ws = sumI (rmv ws i) + ws.getD i 0 := by
  have e : ws = ws.take i ++ (ws.getD i 0 :: ws.drop (i + 1)) := by
    rw [List.getD_eq_getElem?_getD, List.getElem?_eq_getElem hi]
    simp
  have e2 : sumI (ws.getD i 0 :: ws.drop (i + 1)) = ws.getD i 0 + sumI (ws.drop (i + 1)) := by
    rw [show sumI (ws.getD i 0 :: ws.drop (i + 1)) = (ws.drop (i + 1)).foldl (· + ·) (0 + ws.getD i 0) from rfl, sumI_shift]; omega
  rw [show sumI ws = sumI (ws.take i ++ (ws.getD i 0 :: ws.drop (i + 1))) by rw [← e], sumI_append, e2]
  unfold rmv
  rw [sumI_append]
  omega
theorem rmv_ok {ws : List Int} {i : Nat} (h : OkW ws) (hi : i < ws.length) (h1 : 1 < ws.length) : OkW (rmv ws i) := by
  have hl := rmv_len hi
  have hs := rmv_sum hi
  obtain ⟨h2, h3, h4, h5⟩ := h
  refine ⟨by omega, by omega, fun j hj => ?_, by have := (h4 i hi).1; omega⟩
  rw [hl] at hj
  rw [rmv_getD _ _ _ hi]
  by_cases c1 : j < i
  · rw [if_pos c1]
    refine ⟨(h4 j (by omega)).1, fun h0 => ?_⟩
    rw [rmv_getD _ _ _ hi, if_pos (by omega)]
    exact (h4 j (by omega)).2 h0
  · rw [if_neg c1]
    refine ⟨(h4 (j + 1) (by omega)).1, fun h0 => ?_⟩
    rw [rmv_getD _ _ _ hi]
    by_cases c2 : j - 1 < i
    · rw [if_pos c2]
      have e1 := (h4 j (by omega)).2 h0
      have e2 := (h4 (j + 1) (by omega)).2 (by omega)
      rw [Nat.add_sub_cancel] at e2
      omega
    · rw [if_neg c2]
      have e2 := (h4 (j + 1) (by omega)).2 (by omega)
      rw [Nat.add_sub_cancel] at e2
      rw [show j - 1 + 1 = j by omega]
      exact e2
theorem rmv_out {ws : List Int} {i : Nat} (h : OkW ws) (hi : i < ws.length) (both : Bool) : ∀ s, 2000 < s → wayFn (plOf both) (rmv ws i) (rmv ws i).length s = 0 := by
  intro s hs
  by_cases h1 : 1 < ws.length
  · have ho := rmv_ok h hi h1
    have := okW_sum ho (rmv ws i).length (Nat.le_refl _)
    exact wayFn_out ho both _ (Nat.le_refl _) s (by omega)
  · have e : (rmv ws i).length = 0 := by rw [rmv_len hi]; omega
    rw [e]
    unfold wayFn
    rw [if_neg (by omega)]
theorem rmv_one {ws : List Int} (h : ws.length = 1) (both : Bool) {most : Int} (hm : 1 ≤ most) : ¬ Cov (rmv ws 0) both most := by
  intro hc
  have h1 := hc 1 (by omega) hm
  have e : (rmv ws 0).length = 0 := by rw [rmv_len (by omega)]; omega
  rw [e] at h1
  unfold wayFn at h1
  rw [if_neg (by omega)] at h1
  omega
theorem full_out {ws : List Int} (h : OkW ws) (both : Bool) : ∀ s, 2000 < s → wayFn (plOf both) ws ws.length s = 0 := fun s hs =>
  wayFn_out h both ws.length (Nat.le_refl _) s (by have := okW_sum h ws.length (Nat.le_refl _); omega)
set_option maxRecDepth 100000 in
theorem needlessWeight_any (b off c : Nat) (ws : List Int) (most : Int) (both : Bool) (w : World) (hn : ws.length ≤ 1048576) (hb : b < w.heap.size) (hc : At .i16 w b off ws) (hi16 : I16 ws) (hlc : ws.length ≤ c) :
    Calls Try.prog 9 #[.slice (some ⟨b, off, none⟩) ws.length c, .int .i64 most, .bool both] w fun e w' => e = .returned (.tuple #[.int .i64 (nlV ws most both).1, .int .i64 (nlV ws most both).2]) ∧ Below w.heap.size w w' := by
  have hV := Lib.hid (validWeights_any b off c ws w hn hc hi16)
  have HI := Lib.hid (fun W => within_any most 1 2000 W)
  unfold nlV
  cases hok : okW ws
  · rw [hok] at hV
    clear hok
    simp only [Bool.false_eq_true, if_false]
    go_enter Try.func9, Try.ntmps9
    go_wp2_with fail
    refine hV.out.mono ?_
    rintro e w' ⟨rfl, hd⟩
    have hB := hd.below
    clear hd
    go_wp2
    go_ret2
    exact ⟨rfl, hB⟩
  rw [hok] at hV
  have HO := Lib.hid (show OkW ws from of_cb hok)
  clear hok
  simp only [if_true]
  by_cases hm : 1 ≤ most ∧ most ≤ 2000
  rotate_left
  · rw [cb_f hm]
    rw [show inB most 1 2000 = false from cb_f hm] at HI
    clear hm
    simp only [Bool.false_eq_true, if_false]
    go_enter Try.func9, Try.ntmps9
    go_wp2_with fail
    refine hV.out.mono ?_
    rintro e w' ⟨rfl, hd⟩
    have hB := hd.below
    clear hd
    go_wp2_with (go_at_call 16; refine (HI.out _).mono ?_; rintro e w' ⟨rfl, rfl⟩)
    go_ret2
    exact ⟨rfl, hB⟩
  rw [cb_t hm]
  rw [show inB most 1 2000 = true from cb_t hm] at HI
  simp only [if_true]
  have HR := Lib.hid (run_cov ws both most (full_out HO.out both) hm.1)
  have HRM := Lib.hid (fun W (h1 : b < W.heap.size) (h2 : At .i16 W b off ws) => runOfMasses_any b off c ws both W h1 h2 HO.out.2.1 (okW_bd HO.out) (full_out HO.out both))
  have hl16 := HO.out.2.1
  by_cases hcov : Cov ws both most
  rotate_left
  · rw [cb_f hcov]
    have hlt : runV (wayFn (plOf both) ws ws.length) < most := by
      have := HR.out
      have h3 : ¬ most ≤ runV (wayFn (plOf both) ws ws.length) := fun h => hcov (this.1 h)
      omega
    clear hcov HR
    simp only [Bool.false_eq_true, if_false]
    generalize runV (wayFn (plOf both) ws ws.length) = r at *
    go_enter Try.func9, Try.ntmps9
    go_wp2_with fail
    refine hV.out.mono ?_
    rintro e w1 ⟨rfl, hd⟩
    have hB := hd.below
    have hb1 := Nat.lt_of_lt_of_le hb hB.size
    have hc1 := hc.below hB hb
    clear hd hc
    go_wp2_with (go_at_call 16; refine (HI.out _).mono ?_; rintro e w' ⟨rfl, rfl⟩)
    refine (HRM.out w1 hb1 hc1).mono ?_
    rintro e w2 ⟨rfl, hb2⟩
    have hBB := hB.trans (hb2.mono hB.size)
    go_wp2
    go_ret2
    exact ⟨rfl, hBB⟩
  rw [cb_t hcov]
  have hge : most ≤ runV (wayFn (plOf both) ws ws.length) := HR.out.2 hcov
  clear hcov HR
  simp only [if_true]
  have HN := Lib.hid (fun W i (hi : i < ws.length) (h1 : b < W.heap.size) (h2 : At .i16 W b off ws) => without_any b off c ws i W h1 h2 hl16 hlc hi)
  have HX := Lib.hid (fun W i g o2 c2 (hi : i < ws.length) (h1 : g < W.heap.size) (h2 : At .i16 W g o2 (rmv ws i)) => runOfMasses_any g o2 c2 (rmv ws i) both W h1 h2 (by rw [rmv_len hi]; omega) (rmv_bd hi (okW_bd HO.out)) (rmv_out HO.out hi both))
  have HC := Lib.hid (fun i (hi : i < ws.length) => run_cov (rmv ws i) both most (rmv_out HO.out hi both) hm.1)
  have hrb : 0 ≤ runV (wayFn (plOf both) ws ws.length) := by omega
  generalize hW : runV (wayFn (plOf both) ws ws.length) = r at *
  clear hW
  go_enter Try.func9, Try.ntmps9
  go_wp2_with fail
  refine hV.out.mono ?_
  rintro e w1 ⟨rfl, hd⟩
  have hB := hd.below
  have hb1 := Nat.lt_of_lt_of_le hb hB.size
  have hc1 := hc.below hB hb
  clear hd hc
  go_wp2_with (go_at_call 16; refine (HI.out _).mono ?_; rintro e w' ⟨rfl, rfl⟩)
  refine (HRM.out w1 hb1 hc1).mono ?_
  rintro e w2 ⟨rfl, hb2⟩
  have hBB := hB.trans (hb2.mono hB.size)
  have hc2 := hc1.below hb2 hb1
  have hb3 := Nat.lt_of_lt_of_le hb1 hb2.size
  clear hb2 hB hc1 hb1
  go_wp2_with fail
  go_loopw [22] (fun i wr => ∃ k : Nat, i = .int .i64 k ∧ k ≤ ws.length ∧ (∀ j, j < k → ¬ Cov (rmv ws j) both most) ∧ Below w2.heap.size w2 wr) (fun i _ => ws.length - (intOf i).toNat)
  case atStart => exact ⟨0, rfl, Nat.zero_le _, fun j h => absurd h (by omega), Below.refl _ _⟩
  case round =>
    obtain ⟨k, rfl, hk, hno, hbr⟩ := hrel
    have HNO := Lib.hid hno
    clear hno
    by_cases hlt : k < ws.length
    · have hcr := hc2.below hbr hb3
      have hbr3 := Nat.lt_of_lt_of_le hb3 hbr.size
      have HCK := Lib.hid (HC.out k hlt)
      have HXK := Lib.hid (fun W g o2 c2 => HX.out W k g o2 c2 hlt)
      go_wp2_with fail
      refine (HN.out _ k hlt hbr3 hcr).mono ?_
      rintro e w4 ⟨g, o2, c2, rfl, hg, hA, hb4⟩
      go_wp2_with fail
      refine (HXK.out _ g o2 c2 hg hA).mono ?_
      rintro e w5 ⟨rfl, hb5⟩
      have HB5 := Lib.hid (hbr.trans ((hb4.trans (hb5.mono hb4.size)).mono hbr.size))
      clear hA hg hb4 hb5 hcr hbr3
      generalize runV (wayFn (plOf both) (rmv ws k) (rmv ws k).length) = q at *
      by_cases hq : most ≤ q
      · have HF := Lib.hid (fstV_eq (n := ws.length) (H := fun i => Cov (rmv ws i) both most) (r := ((k : Int), 0)) (.inl ⟨k, hlt, HCK.out.1 hq, HNO.out, rfl⟩))
        go_wp2
        go_ret2
        exact ⟨by rw [HF.out]; rfl, hBB.trans (HB5.out.mono hBB.size)⟩
      · have HNN := Lib.hid (show ∀ j, j < k + 1 → ¬ Cov (rmv ws j) both most from fun j hj hcj => by
          by_cases e : j = k
          · subst e; exact hq (HCK.out.2 hcj)
          · exact HNO.out j (by omega) hcj)
        go_wp2
        go_roundw
        case rel => exact ⟨k + 1, by go_num, by omega, HNN.out, HB5.out⟩
        case measure => simp [intOf]; omega
    · have hkk : k = ws.length := by omega
      have HF := Lib.hid (fstV_eq (n := ws.length) (H := fun i => Cov (rmv ws i) both most) (r := (0, 6)) (.inr ⟨by rw [← hkk]; exact HNO.out, rfl⟩))
      clear hkk
      go_wp2
      go_ret2
      exact ⟨by rw [HF.out]; rfl, hBB.trans (hbr.mono hBB.size)⟩
end Go.Proofs.Ythbanajodohbbaa
