/-
  The walks of AllUpTo, in the program and in its model.
-/
import Derived.Test.YthbanajodohbbaaMiss
namespace Go.Proofs.Ythbanajodohbbaa
open Go.RowKit Go.Maps

def IsRun (W : Int → Int) (r : Int) : Prop := 0 ≤ r ∧ (∀ j, 1 ≤ j → j ≤ r → 0 < W j) ∧ ¬ 0 < W (r + 1)
noncomputable def runV (W : Int → Int) : Int := @Classical.epsilon Int ⟨0⟩ (IsRun W)
theorem runV_eq {W : Int → Int} {r : Int} (h : IsRun W r) : runV W = r := by
  have h' : IsRun W (runV W) := @Classical.epsilon_spec _ (IsRun W) ⟨r, h⟩
  generalize runV W = q at *
  rcases Int.lt_trichotomy q r with hl | hl | hl
  · exact absurd (h.2.1 (q + 1) (by have := h'.1; omega) (by omega)) h'.2.2
  · exact hl
  · exact absurd (h'.2.1 (r + 1) (by have := h.1; omega) (by omega)) h.2.2
theorem missTo_first (pl ws : List Int) (k : Nat) :
    (missTo pl ws k = [] ∧ ∀ j : Int, 1 ≤ j → j ≤ k → wayFn pl ws ws.length j ≠ 0) ∨
    (∃ e, (missTo pl ws k).getD 0 0 = e ∧ missTo pl ws k ≠ [] ∧ 1 ≤ e ∧ e ≤ k ∧ wayFn pl ws ws.length e = 0 ∧ ∀ j : Int, 1 ≤ j → j < e → wayFn pl ws ws.length j ≠ 0) := by
  induction k with
  | zero => exact .inl ⟨rfl, fun j h1 h2 => absurd h2 (by omega)⟩
  | succ k ih =>
    unfold missTo
    rcases ih with ⟨h1, h2⟩ | ⟨e, h1, h2, h3, h4, h5, h6⟩
    · split
      · rename_i h0
        refine .inr ⟨(k : Int) + 1, by rw [h1]; rfl, by simp, by omega, by omega, h0, fun j a b => h2 j a (by omega)⟩
      · rename_i h0
        refine .inl ⟨h1, fun j a b => ?_⟩
        by_cases e : j = (k : Int) + 1
        · rw [e]; exact h0
        · exact h2 j a (by omega)
    · refine .inr ⟨e, ?_, ?_, h3, by omega, h5, h6⟩
      · split
        · rw [← h1, List.getD_eq_getElem?_getD, List.getD_eq_getElem?_getD, List.getElem?_append_left (List.length_pos_iff.2 h2)]
        · exact h1
      · split
        · simp
        · exact h2
theorem run_bd (W : Int → Int) (hz : ∀ s, 2000 < s → W s = 0) {r : Int} (h : ∀ j, 1 ≤ j → j ≤ r → 0 < W j) : r ≤ 2000 := by
  by_cases hr : r ≤ 2000
  · exact hr
  · have := h r (by omega) (Int.le_refl _)
    rw [hz r (by omega)] at this
    omega
set_option maxRecDepth 100000 in
theorem runOfMasses_any (b off c : Nat) (ws : List Int) (both : Bool) (w : World) (hb : b < w.heap.size) (hc : At .i16 w b off ws) (hl16 : ws.length ≤ 16) (hk : ∀ j, j < ws.length → 1 ≤ ws.getD j 0 ∧ ws.getD j 0 ≤ 2000) (hz : ∀ s, 2000 < s → wayFn (plOf both) ws ws.length s = 0) :
    Calls Try.prog 20 #[.slice (some ⟨b, off, none⟩) ws.length c, .bool both] w fun e w' => e = .returned (.int .i64 (runV (wayFn (plOf both) ws ws.length))) ∧ Below w.heap.size w w' := by
  have HWB := Lib.hid (waysBySum_any b off c ws both w hl16 hk hb hc)
  have HZ := Lib.hid hz
  clear hz hk
  go_enter Try.func20, Try.ntmps20
  go_wp2_with fail
  refine HWB.out.mono ?_
  rintro e w2 ⟨mm, n, D, rfl, hown, hM, hb2⟩
  have HMM := Lib.hid hM
  clear hM
  generalize hW : wayFn (plOf both) ws ws.length = W at *
  have HQ := Lib.hid hW
  clear hW
  go_wp2_with fail
  go_loop [6] (fun r => ∃ q : Int, r = .int .i64 q ∧ 0 ≤ q ∧ (∀ j, 1 ≤ j → j ≤ q → 0 < W j)) (fun r => (2001 - intOf r).toNat)
  case atStart => exact ⟨0, rfl, by omega, fun j a b => absurd b (by omega)⟩
  case round =>
    obtain ⟨q, rfl, hq0, hq⟩ := hrel
    have HG := Lib.hid hq
    have hq2 := run_bd W HZ.out hq
    have hVV := Lib.hid (HMM.out.2.1 (q + 1))
    clear hq
    have HR := Lib.hid (show ¬ 0 < W (q + 1) → runV W = q from fun h => runV_eq ⟨hq0, HG.out, h⟩)
    have HN := Lib.hid (show 0 < W (q + 1) → ∀ j, 1 ≤ j → j ≤ q + 1 → 0 < W j from fun h j a b => by
      by_cases e : j = q + 1
      · rw [e]; exact h
      · exact HG.out j a (by omega))
    generalize W (q + 1) = V at *
    by_cases hv : 0 < V
    · have hnx := Lib.hid (HN.out hv)
      go_wp2_with (at_lookup; refine wpList_lookup_own_int _ rfl _ _ 54 rfl 2 2 .i64 keyI Try.underlying54 Try.underlying2 (Try.zeroValue2 _) mm n D rfl hown _ (ky (q + 1)) rfl (keyOf_int_mk Try.underlying2 (lit_wf (by omega))) ?_; intro c2 hat2 _; obtain rfl : c2 = V := dl_inj (hat2.symm.trans hVV.out); clear hat2)
      go_round
      case rel => exact ⟨q + 1, rfl, by omega, hnx.out⟩
      case measure => simp [intOf]; omega
    · have hrun := Lib.hid (HR.out hv)
      go_wp2_with (at_lookup; refine wpList_lookup_own_int _ rfl _ _ 54 rfl 2 2 .i64 keyI Try.underlying54 Try.underlying2 (Try.zeroValue2 _) mm n D rfl hown _ (ky (q + 1)) rfl (keyOf_int_mk Try.underlying2 (lit_wf (by omega))) ?_; intro c2 hat2 _; obtain rfl : c2 = V := dl_inj (hat2.symm.trans hVV.out); clear hat2)
      go_ret
      exact ⟨reti (by rw [HQ.out, hrun.out]), hb2⟩
noncomputable def auV (ws : List Int) (both : Bool) : Int := if okW ws = true then runV (wayFn (plOf both) ws ws.length) else 0
theorem allUpTo_any (b off c : Nat) (ws : List Int) (both : Bool) (w : World) (hn : ws.length ≤ 1048576) (hb : b < w.heap.size) (hc : At .i16 w b off ws) (hi16 : I16 ws) :
    Calls Try.prog 8 #[.slice (some ⟨b, off, none⟩) ws.length c, .bool both] w fun e w' => e = .returned (.tuple #[.int .i64 (auV ws both), .int .i64 (codeN ws)]) ∧ Below w.heap.size w w' := by
  have hV := Lib.hid (validWeights_any b off c ws w hn hc hi16)
  unfold codeN auV
  cases hok : okW ws
  · rw [hok] at hV
    clear hok
    simp only [Bool.false_eq_true, if_false]
    go_enter Try.func8, Try.ntmps8
    go_wp2_with fail
    refine hV.out.mono ?_
    rintro e w' ⟨rfl, hd⟩
    have hB := hd.below
    clear hd
    go_wp2
    go_ret2
    exact ⟨rfl, hB⟩
  rw [hok] at hV
  have HO := Lib.hid (show OkW ws from of_cb hok)
  clear hok
  simp only [if_true]
  go_enter Try.func8, Try.ntmps8
  go_wp2_with fail
  refine hV.out.mono ?_
  rintro e w1 ⟨rfl, hd⟩
  have hB := hd.below
  have hb1 := Nat.lt_of_lt_of_le hb hB.size
  have hc1 := hc.below hB hb
  clear hd hc
  go_wp2_with fail
  refine (runOfMasses_any b off c ws both w1 hb1 hc1 HO.out.2.1 (okW_bd HO.out) (fun s hs => wayFn_out HO.out both ws.length (Nat.le_refl _) s (by have := okW_sum HO.out ws.length (Nat.le_refl _); omega))).mono ?_
  rintro e w2 ⟨rfl, hb2⟩
  have hBB := hB.trans (hb2.mono hB.size)
  go_wp2
  go_ret2
  exact ⟨rfl, hBB⟩
end Go.Proofs.Ythbanajodohbbaa
