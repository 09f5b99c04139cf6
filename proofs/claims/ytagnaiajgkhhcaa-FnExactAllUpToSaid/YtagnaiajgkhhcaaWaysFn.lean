/-
  The walk of WaysToWeigh, in the program.
-/
import Derived.Test.YtagnaiajgkhhcaaWays
namespace Go.Proofs.Ytagnaiajgkhhcaa
open Go.RowKit Go.Maps

noncomputable def askC (ws : List Int) (m : Int) : Int := if okW ws = true then (if cb (0 ≤ m ∧ m ≤ 2000) = true then 0 else 2) else 1
noncomputable def wtwV (ws : List Int) (m : Int) (both : Bool) : Int := if askC ws m = 0 then wayFn (plOf both) ws ws.length m else 0
theorem askC_zero {ws : List Int} {m : Int} (h : askC ws m = 0) : OkW ws ∧ (0 ≤ m ∧ m ≤ 2000) := by
  unfold askC at h
  split at h
  · rename_i h1
    split at h
    · rename_i h2; exact ⟨of_cb h1, of_cb h2⟩
    · omega
  · omega
theorem askC_bd (ws : List Int) (m : Int) : 0 ≤ askC ws m ∧ askC ws m ≤ 2 := by
  unfold askC
  split
  · split <;> omega
  · omega
theorem codeOfWeighing_any (b off c : Nat) (ws : List Int) (m : Int) (w : World) (hn : ws.length ≤ 1048576) (hc : At .i16 w b off ws) (hi : I16 ws) :
    Calls Try.prog 32 #[.slice (some ⟨b, off, none⟩) ws.length c, .int .i64 m] w fun e w' => e = .returned (.int .i64 (askC ws m)) ∧ Dr w w' := by
  have hV := Lib.hid (validWeights_any b off c ws w hn hc hi)
  unfold askC
  cases hok : okW ws
  · rw [hok] at hV
    clear hok
    simp only [Bool.false_eq_true, if_false]
    go_enter Try.func32, Try.ntmps32
    go_wp2_with fail
    refine hV.out.mono ?_
    rintro e w' ⟨rfl, hd⟩
    go_wp2
    go_ret
    exact ⟨rfl, hd⟩
  rw [hok] at hV
  clear hok
  simp only [if_true]
  by_cases hm : 0 ≤ m ∧ m ≤ 2000
  · rw [cb_t hm]
    simp only [if_true]
    go_enter Try.func32, Try.ntmps32
    go_wp2_with fail
    refine hV.out.mono ?_
    rintro e w1 ⟨rfl, hd⟩
    go_wp2_with fail
    refine (within_t _ _ _ _ hm).mono ?_
    rintro e w' ⟨rfl, rfl⟩
    go_wp2
    go_ret
    exact ⟨rfl, hd⟩
  · rw [cb_f hm]
    have H := Lib.hid hm
    clear hm
    simp only [Bool.false_eq_true, if_false]
    go_enter Try.func32, Try.ntmps32
    go_wp2_with fail
    refine hV.out.mono ?_
    rintro e w1 ⟨rfl, hd⟩
    go_wp2_with fail
    refine (within_f _ _ _ _ H.out).mono ?_
    rintro e w' ⟨rfl, rfl⟩
    go_wp2
    go_ret
    exact ⟨rfl, hd⟩
theorem waysToWeigh_any (b off c : Nat) (ws : List Int) (m : Int) (both : Bool) (w : World) (hn : ws.length ≤ 1048576) (hb : b < w.heap.size) (hc : At .i16 w b off ws) (hi : I16 ws) :
    Calls Try.prog 14 #[.slice (some ⟨b, off, none⟩) ws.length c, .int .i64 m, .bool both] w fun e w' => e = .returned (.tuple #[.int .i64 (wtwV ws m both), .int .i64 (askC ws m)]) ∧ Below w.heap.size w w' := by
  have hC := Lib.hid (codeOfWeighing_any b off c ws m w hn hc hi)
  unfold wtwV
  by_cases h0 : askC ws m = 0
  · rw [if_pos h0]
    have HZ := Lib.hid (askC_zero h0)
    have HO := HZ.out.1
    have hok : ∀ j, j < ws.length → 1 ≤ ws.getD j 0 ∧ ws.getD j 0 ≤ 2000 := okW_bd HO
    have hl16 := HO.2.1
    have HK := Lib.hid hok
    have HM := HZ.out.2
    clear HO hok
    rw [h0] at hC ⊢
    clear h0
    go_enter Try.func14, Try.ntmps14
    go_wp2_with fail
    refine hC.out.mono ?_
    rintro e w1 ⟨rfl, hd⟩
    have hb1 := hd.below
    have hs1 := Nat.lt_of_lt_of_le hb hb1.size
    have hc1 := hc.below hb1 hb
    clear hd
    go_wp2_with fail
    refine (waysBySum_any b off c ws both w1 hl16 HK.out hs1 hc1).mono ?_
    rintro e w2 ⟨mm, n, D, rfl, hown, hM, hb2⟩
    have HMM := Lib.hid hM
    clear hM
    have HB := Lib.hid (hb1.trans (hb2.mono hb1.size))
    clear hb1 hb2
    go_wp2_with (at_lookup; refine wpList_lookup_own_int _ rfl _ _ 49 rfl 2 2 .i64 keyI Try.underlying49 Try.underlying2 (Try.zeroValue2 _) mm n D rfl hown _ (ky m) rfl (keyOf_int_mk Try.underlying2 (lit_wf (by omega))) ?_; intro c2 hat2 _; have HC2 := Lib.hid (show c2 = wayFn (plOf both) ws ws.length m from dl_inj (hat2.symm.trans (HMM.out.2.1 _))); clear hat2)
    go_ret2
    exact ⟨ret2 HC2.out rfl, HB.out⟩
  · rw [if_neg h0]
    have hne : (askC ws m != 0) = true := by simpa using h0
    have hne2 : (askC ws m == 0) = false := by simpa using h0
    have hbd := askC_bd ws m
    clear h0
    generalize askC ws m = cc at *
    go_enter Try.func14, Try.ntmps14
    go_wp2_with fail
    refine hC.out.mono ?_
    rintro e w1 ⟨rfl, hd⟩
    have hb1 := hd.below
    clear hd
    go_wp2
    go_ret2
    exact ⟨rfl, hb1⟩
end Go.Proofs.Ytagnaiajgkhhcaa
