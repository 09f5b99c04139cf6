/-
  The walks of AllUpTo, in the program and in its model.
-/
import Derived.Test.YtagnaiajgkhhcaaMiss
namespace Go.Proofs.Ytagnaiajgkhhcaa
open Go.RowKit Go.Maps

def IsRun (W : Int → Int) (r : Int) : Prop := 0 ≤ r ∧ (∀ j, 1 ≤ j → j ≤ r → 0 < W j) ∧ ¬ 0 < W (r + 1)
noncomputable def runV (W : Int → Int) : Int := @Classical.epsilon Int ⟨0⟩ (IsRun W)
theorem runV_eq {W : Int → Int} {r : Int} (h : IsRun W r) : runV W = r := by
  have h' : IsRun W (runV W) := @Classical.epsilon_spec _ (IsRun W) ⟨r, h⟩
  generalize runV W = q at *
  rcases Int.lt_trichotomy q r with hl | hl | hl
  · exact absurd (h.2.1 (q + 1) (by have := h'.1; omega) (by omega)) h'.2.2
  · exact hl
  · exact absurd (h'.2.1 (r + 1) (by have := h.1; omega) (by omega)) h.2.2
theorem missTo_first (pl ws : List Int) (k : Nat) :
    (missTo pl ws k = [] ∧ ∀ j : Int, 1 ≤ j → j ≤ k → wayFn pl ws ws.length j ≠ 0) ∨
    (∃ e, (missTo pl ws k).getD 0 0 = e ∧ missTo pl ws k ≠ [] ∧ 1 ≤ e ∧ e ≤ k ∧ wayFn pl ws ws.length e = 0 ∧ ∀ j : Int, 1 ≤ j → j < e → wayFn pl ws ws.length j ≠ 0) := by
  induction k with
  | zero => exact .inl ⟨rfl, fun j h1 h2 => absurd h2 (by omega)⟩
  | succ k ih =>
    unfold missTo
    rcases ih with ⟨h1, h2⟩ | ⟨e, h1, h2, h3, h4, h5, h6⟩
    · split
      · rename_i h0
        refine .inr ⟨(k : Int) + 1, by rw [h1]; rfl, by simp, by omega, by omega, h0, fun j a b => h2 j a (by omega)⟩
      · rename_i h0
        refine .inl ⟨h1, fun j a b => ?_⟩
        by_cases e : j = (k : Int) + 1
        · rw [e]; exact h0
        · exact h2 j a (by omega)
    · refine .inr ⟨e, ?_, ?_, h3, by omega, h5, h6⟩
      · split
        · rw [← h1, List.getD_eq_getElem?_getD, List.getD_eq_getElem?_getD, List.getElem?_append_left (List.length_pos_iff.2 h2)]
        · exact h1
      · split
        · simp
        · exact h2
theorem run_bd (W : Int → Int) (hz : ∀ s, 2000 < s → W s = 0) {r : Int} (h : ∀ j, 1 ≤ j → j ≤ r → 0 < W j) : r ≤ 2000 := by
  by_cases hr : r ≤ 2000
  · exact hr
  · have := h r (by omega) (Int.le_refl _)
    rw [hz r (by omega)] at this
    omega
set_option maxRecDepth 100000 in
theorem runOfMasses_any (b off c : Nat) (ws : List Int) (both : Bool) (w : World) (hb : b < w.heap.size) (hc : At .i16 w b off ws) (hl16 : ws.length ≤ 16) (hk : ∀ j, j < ws.length → 1 ≤ ws.getD j 0 ∧ ws.getD j 0 ≤ 2000) (hz : ∀ s, 2000 < s → wayFn (plOf both) ws ws.length s = 0) :
    Calls Try.prog 40 #[.slice (some ⟨b, off, none⟩) ws.length c, .bool both] w fun e w' => e = .returned (.int .i64 (runV (wayFn (plOf both) ws ws.length))) ∧ Below w.heap.size w w' := by
  have HWB := Lib.hid (waysBySum_any b off c ws both w hl16 hk hb hc)
  have HZ := Lib.hid hz
  clear hz hk
  go_enter Try.func40, Try.ntmps40
  go_wp2_with fail
  refine HWB.out.mono ?_
  rintro e w2 ⟨mm, n, D, rfl, hown, hM, hb2⟩
  have HMM := Lib.hid hM
  clear hM
  generalize hW : wayFn (plOf both) ws ws.length = W at *
  have HQ := Lib.hid hW
  clear hW
  go_wp2_with fail
  go_loop [6] (fun r => ∃ q : Int, r = .int .i64 q ∧ 0 ≤ q ∧ (∀ j, 1 ≤ j → j ≤ q → 0 < W j)) (fun r => (2001 - intOf r).toNat)
  case atStart => exact ⟨0, rfl, by omega, fun j a b => absurd b (by omega)⟩
  case round =>
    obtain ⟨q, rfl, hq0, hq⟩ := hrel
    have HG := Lib.hid hq
    have hq2 := run_bd W HZ.out hq
    have hVV := Lib.hid (HMM.out.2.1 (q + 1))
    clear hq
    have HR := Lib.hid (show ¬ 0 < W (q + 1) → runV W = q from fun h => runV_eq ⟨hq0, HG.out, h⟩)
    have HN := Lib.hid (show 0 < W (q + 1) → ∀ j, 1 ≤ j → j ≤ q + 1 → 0 < W j from fun h j a b => by
      by_cases e : j = q + 1
      · rw [e]; exact h
      · exact HG.out j a (by omega))
    generalize W (q + 1) = V at *
    by_cases hv : 0 < V
    · have hnx := Lib.hid (HN.out hv)
      go_wp2_with (at_lookup; refine wpList_lookup_own_int _ rfl _ _ 49 rfl 2 2 .i64 keyI Try.underlying49 Try.underlying2 (Try.zeroValue2 _) mm n D rfl hown _ (ky (q + 1)) rfl (keyOf_int_mk Try.underlying2 (lit_wf (by omega))) ?_; intro c2 hat2 _; obtain rfl : c2 = V := dl_inj (hat2.symm.trans hVV.out); clear hat2)
      go_round
      case rel => exact ⟨q + 1, rfl, by omega, hnx.out⟩
      case measure => simp [intOf]; omega
    · have hrun := Lib.hid (HR.out hv)
      go_wp2_with (at_lookup; refine wpList_lookup_own_int _ rfl _ _ 49 rfl 2 2 .i64 keyI Try.underlying49 Try.underlying2 (Try.zeroValue2 _) mm n D rfl hown _ (ky (q + 1)) rfl (keyOf_int_mk Try.underlying2 (lit_wf (by omega))) ?_; intro c2 hat2 _; obtain rfl : c2 = V := dl_inj (hat2.symm.trans hVV.out); clear hat2)
      go_ret
      exact ⟨reti (by rw [HQ.out, hrun.out]), hb2⟩
noncomputable def auV (ws : List Int) (both : Bool) : Int := if okW ws = true then runV (wayFn (plOf both) ws ws.length) else 0
theorem allUpTo_any (b off c : Nat) (ws : List Int) (both : Bool) (w : World) (hn : ws.length ≤ 1048576) (hb : b < w.heap.size) (hc : At .i16 w b off ws) (hi16 : I16 ws) :
    Calls Try.prog 16 #[.slice (some ⟨b, off, none⟩) ws.length c, .bool both] w fun e w' => e = .returned (.tuple #[.int .i64 (auV ws both), .int .i64 (codeN ws)]) ∧ Below w.heap.size w w' := by
  have hV := Lib.hid (validWeights_any b off c ws w hn hc hi16)
  unfold codeN auV
  cases hok : okW ws
  · rw [hok] at hV
    clear hok
    simp only [Bool.false_eq_true, if_false]
    go_enter Try.func16, Try.ntmps16
    go_wp2_with fail
    refine hV.out.mono ?_
    rintro e w' ⟨rfl, hd⟩
    have hB := hd.below
    clear hd
    go_wp2
    go_ret2
    exact ⟨rfl, hB⟩
  rw [hok] at hV
  have HO := Lib.hid (show OkW ws from of_cb hok)
  clear hok
  simp only [if_true]
  go_enter Try.func16, Try.ntmps16
  go_wp2_with fail
  refine hV.out.mono ?_
  rintro e w1 ⟨rfl, hd⟩
  have hB := hd.below
  have hb1 := Nat.lt_of_lt_of_le hb hB.size
  have hc1 := hc.below hB hb
  clear hd hc
  go_wp2_with fail
  refine (runOfMasses_any b off c ws both w1 hb1 hc1 HO.out.2.1 (okW_bd HO.out) (fun s hs => wayFn_out HO.out both ws.length (Nat.le_refl _) s (by have := okW_sum HO.out ws.length (Nat.le_refl _); omega))).mono ?_
  rintro e w2 ⟨rfl, hb2⟩
  have hBB := hB.trans (hb2.mono hB.size)
  go_wp2
  go_ret2
  exact ⟨rfl, hBB⟩
theorem specAllUpTo_any (b off c : Nat) (ws : List Int) (both : Bool) (w : World) (hn : ws.length ≤ 1048576) (hb : b < w.heap.size) (hc : At .i16 w b off ws) (hi : I16 ws) :
    Calls Try.prog 15 #[.slice (some ⟨b, off, none⟩) ws.length c, .bool both] w fun e w' => e = .returned (.tuple #[.int .i64 (auV ws both), .int .i64 (codeN ws)]) ∧ Below w.heap.size w w' := by
  have hV := Lib.hid (l01Ok_any b off c ws w hn hc hi)
  unfold codeN auV
  cases hok : okW ws
  · rw [hok] at hV
    clear hok
    simp only [Bool.false_eq_true, if_false]
    go_enter Try.func15, Try.ntmps15
    go_wp2_with fail
    refine hV.out.mono ?_
    rintro e w' ⟨rfl, hd⟩
    have hB := hd.below
    clear hd
    go_wp2
    go_ret2
    exact ⟨rfl, hB⟩
  rw [hok] at hV
  have HO := Lib.hid (show OkW ws from of_cb hok)
  clear hok
  simp only [if_true]
  have HI := Lib.hid hi
  have HP := Lib.hid (fun s => (wayFn_bd both ws ws.length s).1)
  have HF := Lib.hid (missTo_first (plOf both) ws (sumI ws).toNat)
  have hst := okW_total HO.out
  have HZ := Lib.hid (show wayFn (plOf both) ws ws.length (sumI ws + 1) = 0 from wayFn_out HO.out both ws.length (Nat.le_refl _) _ (by rw [List.take_length]; omega))
  have hll := missTo_len (plOf both) ws (sumI ws).toNat
  clear hi
  go_enter Try.func15, Try.ntmps15
  go_wp2_with fail
  refine hV.out.mono ?_
  rintro e w1 ⟨rfl, hd⟩
  have hB := hd.below
  have hb1 := Nat.lt_of_lt_of_le hb hB.size
  have hc1 := hc.below hB hb
  clear hd hc
  go_wp2_with fail
  refine (l01Sum_any b off c ws w1 hn hc1 HI.out).mono ?_
  rintro e w' ⟨rfl, rfl⟩
  go_wp2_with fail
  refine (l01Missing_any b off c ws _ both w1 hb1 hc1 HO.out hst).mono ?_
  rintro e w2 ⟨v, rfl, ho, hb2⟩
  have hBB := hB.trans (hb2.mono hB.size)
  have hb2' := Nat.lt_of_lt_of_le hb1 hb2.size
  have hc2 := hc1.below hb2 hb1
  generalize hLL : missTo (plOf both) ws (sumI ws).toNat = L at *
  clear hLL
  rcases HF.out with ⟨h1, h2⟩ | ⟨e, h1, h2, h3, h4, h5, h6⟩
  · subst h1
    have HR := Lib.hid (show runV (wayFn (plOf both) ws ws.length) = sumI ws from runV_eq ⟨by omega, fun j a b => by have := h2 j a (by omega); have := HP.out j; omega, by rw [HZ.out]; omega⟩)
    obtain ⟨a, cc, rfl⟩ : ∃ a cc, v = .slice a 0 cc := by
      rcases ho with ⟨_, a, cc, rfl⟩ | ⟨g, cc, rfl, _⟩
      · exact ⟨a, cc, rfl⟩
      · exact ⟨_, cc, rfl⟩
    clear h2 ho
    go_wp2_with fail
    refine (l01Sum_any b off c ws w2 hn hc2 HI.out).mono ?_
    rintro e w' ⟨rfl, rfl⟩
    go_wp2
    go_ret2
    exact ⟨ret2 HR.out.symm rfl, hBB⟩
  · have HR := Lib.hid (show runV (wayFn (plOf both) ws ws.length) = e - 1 from runV_eq ⟨by omega, fun j a b => by have := h6 j a (by omega); have := HP.out j; omega, by rw [show e - 1 + 1 = e by omega, h5]; omega⟩)
    rcases ho with ⟨h0, _⟩ | ⟨g, cc, rfl, hg1, hg2, hat, _⟩
    · exact absurd h0 h2
    have hpos : 0 < L.length := List.length_pos_iff.2 h2
    have hx := hat 0 hpos
    rw [h1, Nat.add_zero] at hx
    have hne : (L.length == 0) = false := by simp; omega
    have hne2 : ¬ (L.length : Int) = 0 := by omega
    have he := h4
    clear h1 h2 h5 h6 hat HF
    go_wp2
    go_ret2
    exact ⟨ret2 HR.out.symm rfl, hBB⟩
end Go.Proofs.Ytagnaiajgkhhcaa
