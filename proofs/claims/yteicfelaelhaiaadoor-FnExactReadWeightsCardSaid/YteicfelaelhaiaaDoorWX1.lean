/-
  The text of weights, in the model.
-/
import Derived.Test.YteicfelaelhaiaaDoorDC
namespace Go.Proofs.YteicfelaelhaiaaDoor
open Go.RowKit
set_option maxRecDepth 100000
set_option linter.unusedVariables false

/-- The texts of numbers that are at least 0. -/
def ntX (xs : List Int) (j : Nat) : ByteArray := dcV (xs.getD j 0).toNat
noncomputable def wtV (xs : List Int) : ByteArray := if okW xs = true then jT (ntX xs) xs.length else ⟨#[]⟩
theorem wt_t {xs : List Int} (h : okW xs = true) : wtV xs = jT (ntX xs) xs.length := if_pos h
theorem wt_f {xs : List Int} (h : okW xs = false) : wtV xs = ⟨#[]⟩ := if_neg (by rw [h]; decide)
theorem okW_of {xs : List Int} (h : okW xs = true) : OkW xs := by
  by_cases h2 : OkW xs
  · exact h2
  · exact absurd (h.symm.trans (cb_f h2)) (by decide)
theorem ok_bounds {xs : List Int} (h : OkW xs) : ∀ j, 0 ≤ xs.getD j 0 ∧ xs.getD j 0 ≤ 32767 := by
  intro j
  have hsum : ∀ k, k ≤ xs.length → 0 ≤ sumI (xs.take k) ∧ ∀ i, i < k → xs.getD i 0 ≤ sumI (xs.take k) := by
    intro k
    induction k with
    | zero => intro _; exact ⟨by simp [sumI], fun i hi => absurd hi (Nat.not_lt_zero _)⟩
    | succ k ih =>
      intro hk
      have h1 := ih (by omega)
      have h2 := (h.2.2.1 k (by omega)).1
      rw [take_getD xs k (by omega), sumI_snoc]
      refine ⟨by omega, fun i hi => ?_⟩
      rcases Nat.lt_or_ge i k with h3 | h3
      · have := h1.2 i h3; omega
      · have : i = k := by omega
        subst this; omega
  rcases Nat.lt_or_ge j xs.length with hj | hj
  · have h1 := (hsum xs.length (Nat.le_refl _)).2 j hj
    rw [List.take_length] at h1
    have h2 := (h.2.2.1 j hj).1
    have h3 := h.2.2.2
    omega
  · rw [List.getD_eq_getElem?_getD, List.getElem?_eq_none hj]; simp
theorem ntX_size {xs : List Int} (h : ∀ j, 0 ≤ xs.getD j 0 ∧ xs.getD j 0 ≤ 32767) (j : Nat) : (ntX xs j).size ≤ 5 :=
  dcV_len 5 _ (by have := h j; show _ < 100000; omega) (by decide)
set_option maxHeartbeats 1000000 in
theorem l01Text_any (b off c : Nat) (xs : List Int) (w : World) (hn : xs.length ≤ 16) (hb : b < w.heap.size) (hc : At .i16 w b off xs) (h : ∀ j, 0 ≤ xs.getD j 0 ∧ xs.getD j 0 ≤ 32767) :
    Calls Tryd.prog 14 #[.slice (some ⟨b, off, none⟩) xs.length c] w fun e w' => e = .returned (.string (jT (ntX xs) xs.length)) ∧ Below w.heap.size w w' := by
  have HC := Lib.hid hc
  have HH := Lib.hid h
  have HSZ := Lib.hid (fun k => jT_size (ntX xs) 5 (ntX_size h) k)
  have HNS := Lib.hid (ntX_size h)
  clear hc h
  go_enter Tryd.func14, Tryd.ntmps14
  go_wp2
  go_loopw [3, 4] (fun t i wr => ∃ k : Nat, t = .string (jT (ntX xs) k) ∧ i = .int .i64 k ∧ k ≤ xs.length ∧ Below w.heap.size w wr) (fun _ i _ => xs.length - (intOf i).toNat)
  case atStart => exact ⟨0, rfl, rfl, Nat.zero_le _, Below.refl _ _⟩
  case round =>
    obtain ⟨k, rfl, rfl, hk, hB⟩ := hrel
    by_cases hlt : k < xs.length
    · have hcell := (HC.out.below hB hb) k hlt
      have hkl : (k : Int) < (xs.length : Int) := by omega
      have hx := HH.out k
      obtain ⟨x, hxx⟩ : ∃ x : Nat, xs.getD k 0 = (x : Int) := ⟨(xs.getD k 0).toNat, by omega⟩
      rw [hxx] at hx hcell
      have hT : ntX xs k = dcV x := by unfold ntX; rw [hxx]; rfl
      have hs1 := HSZ.out k
      have hs2 : (dcV x).size ≤ 5 := by rw [← hT]; exact HNS.out k
      have HD := Lib.hid (fun W => decimal_any x W (by omega))
      have HBB := Lib.hid hB
      by_cases hk0 : k = 0
      · subst hk0
        have HJ := Lib.hid (show dcV x = jT (ntX xs) (0 + 1) from by rw [← hT]; exact (jT_one _).symm)
        have e0 : jT (ntX xs) 0 = ⟨#[]⟩ := rfl
        rw [e0] at *
        rw [Nat.add_zero] at hcell
        have hq2 := fun W => run_string_add_sum (P := Tryd.prog) W ⟨#[]⟩ (dcV x) (by rw [show (⟨#[]⟩ : ByteArray).size = 0 from rfl]; omega)
        clear hT hB
        generalize dcV x = X at *
        go_wp2_with fail
        refine (HD.out _).mono ?_
        rintro e w2 ⟨rfl, hb2⟩
        have HB2 := Lib.hid (HBB.out.trans (hb2.mono HBB.out.size))
        clear hb2
        go_wp2
        go_roundw
        case rel => exact ⟨1, sv (by rw [← HJ.out]; first | rfl | (apply ByteArray.ext; simp)), by go_num, by omega, HB2.out⟩
        case measure => simp [intOf]; omega
      · have HJ := Lib.hid (show jT (ntX xs) k ++ ⟨#[32]⟩ ++ dcV x = jT (ntX xs) (k + 1) from by rw [← hT]; exact (jT_more _ hk0).symm)
        have hk1 : (0 : Int) < (k : Int) := by omega
        have hq1 := fun W => run_string_add_sum (P := Tryd.prog) W (jT (ntX xs) k) ⟨#[32]⟩ (by rw [show (⟨#[32]⟩ : ByteArray).size = 1 from rfl]; omega)
        have hq2 := fun W => run_string_add_sum (P := Tryd.prog) W (jT (ntX xs) k ++ ⟨#[32]⟩) (dcV x) (by rw [ByteArray.size_append, show (⟨#[32]⟩ : ByteArray).size = 1 from rfl]; omega)
        clear hT hB
        generalize dcV x = X at *
        generalize jT (ntX xs) k = T at *
        go_wp2_with fail
        refine (HD.out _).mono ?_
        rintro e w2 ⟨rfl, hb2⟩
        have HB2 := Lib.hid (HBB.out.trans (hb2.mono HBB.out.size))
        clear hb2
        go_wp2
        go_roundw
        case rel => exact ⟨k + 1, sv HJ.out, by go_num, by omega, HB2.out⟩
        case measure => simp [intOf]; omega
    · obtain rfl : k = xs.length := by omega
      have HB := Lib.hid hB
      clear hB
      go_wp2
      go_ret
      exact ⟨rfl, HB.out⟩
theorem specWeightsText_any (b off c : Nat) (xs : List Int) (w : World) (hn : xs.length ≤ 1048576) (hb : b < w.heap.size) (hc : At .i16 w b off xs) (hwf : I16 xs) :
    Calls Tryd.prog 5 #[.slice (some ⟨b, off, none⟩) xs.length c] w fun e w' => e = .returned (.string (wtV xs)) ∧ Below w.heap.size w w' := by
  have HV := Lib.hid (l01Ok_any b off c xs w hn hc hwf)
  cases hok : okW xs with
  | false =>
    rw [hok] at HV
    have HR := Lib.hid (wt_f hok)
    clear hok hc hwf
    generalize xs.length = n at *
    go_enter Tryd.func5, Tryd.ntmps5
    go_wp2_with fail
    refine HV.out.mono ?_
    rintro e w2 ⟨rfl, hd⟩
    have HB := Lib.hid hd.below
    clear hd
    go_wp2
    go_ret
    exact ⟨rets HR.out.symm, HB.out⟩
  | true =>
    rw [hok] at HV
    have hO : OkW xs := okW_of hok
    have HR := Lib.hid (wt_t hok)
    have HI := Lib.hid (fun W (hB : Below w.heap.size w W) => l01Text_any b off c xs W hO.2.1 (Nat.lt_of_lt_of_le hb hB.size) (hc.below hB hb) (ok_bounds hO))
    clear hok hc hwf hO
    generalize jT (ntX xs) xs.length = T at *
    generalize xs.length = n at *
    go_enter Tryd.func5, Tryd.ntmps5
    go_wp2_with fail
    refine HV.out.mono ?_
    rintro e w2 ⟨rfl, hd⟩
    have HB := Lib.hid hd.below
    clear hd
    go_wp2_with fail
    refine (HI.out _ HB.out).mono ?_
    rintro e w3 ⟨rfl, hb3⟩
    have HB3 := Lib.hid (HB.out.trans (hb3.mono HB.out.size))
    clear hb3
    go_wp2
    go_ret
    exact ⟨rets HR.out.symm, HB3.out⟩
end Go.Proofs.YteicfelaelhaiaaDoor
