/-
  The walks of CanWeigh, in the program and in its model.
-/
import Derived.Test.YtagnaiajgkhhcaaFew
namespace Go.Proofs.Ytagnaiajgkhhcaa
open Go.RowKit Go.Maps

noncomputable def canV (ws : List Int) (m : Int) (both : Bool) : Bool := if askC ws m = 0 then decide (0 < wayFn (plOf both) ws ws.length m) else false
theorem retbi {a b : Bool} {c d : Int} (h : a = b) (h2 : c = d) : Ending.returned (.tuple #[.bool a, .int .i64 c]) = .returned (.tuple #[.bool b, .int .i64 d]) := by rw [h, h2]
theorem canWeigh_any (b off c : Nat) (ws : List Int) (m : Int) (both : Bool) (w : World) (hn : ws.length ≤ 1048576) (hb : b < w.heap.size) (hc : At .i16 w b off ws) (hi : I16 ws) :
    Calls Try.prog 11 #[.slice (some ⟨b, off, none⟩) ws.length c, .int .i64 m, .bool both] w fun e w' => e = .returned (.tuple #[.bool (canV ws m both), .int .i64 (askC ws m)]) ∧ Below w.heap.size w w' := by
  have hC := Lib.hid (codeOfWeighing_any b off c ws m w hn hc hi)
  unfold canV
  by_cases h0 : askC ws m = 0
  · rw [if_pos h0]
    have HZ := Lib.hid (askC_zero h0)
    have HO := HZ.out.1
    have hok : ∀ j, j < ws.length → 1 ≤ ws.getD j 0 ∧ ws.getD j 0 ≤ 2000 := okW_bd HO
    have hl16 := HO.2.1
    have HK := Lib.hid hok
    have HM := HZ.out.2
    clear HO hok
    rw [h0] at hC ⊢
    clear h0
    go_enter Try.func11, Try.ntmps11
    go_wp2_with fail
    refine hC.out.mono ?_
    rintro e w1 ⟨rfl, hd⟩
    have hb1 := hd.below
    have hs1 := Nat.lt_of_lt_of_le hb hb1.size
    have hc1 := hc.below hb1 hb
    clear hd
    go_wp2_with fail
    refine (waysBySum_any b off c ws both w1 hl16 HK.out hs1 hc1).mono ?_
    rintro e w2 ⟨mm, n, D, rfl, hown, hM, hb2⟩
    have HMM := Lib.hid hM
    clear hM
    have HB := Lib.hid (hb1.trans (hb2.mono hb1.size))
    clear hb1 hb2
    go_wp2_with (at_lookup; refine wpList_lookup_own_int _ rfl _ _ 49 rfl 2 2 .i64 keyI Try.underlying49 Try.underlying2 (Try.zeroValue2 _) mm n D rfl hown _ (ky m) rfl (keyOf_int_mk Try.underlying2 (lit_wf (by omega))) ?_; intro c2 hat2 _; have HC2 := Lib.hid (show c2 = wayFn (plOf both) ws ws.length m from dl_inj (hat2.symm.trans (HMM.out.2.1 _))); clear hat2)
    go_ret2
    exact ⟨retbi (by rw [HC2.out]) rfl, HB.out⟩
  · rw [if_neg h0]
    have hne : (askC ws m != 0) = true := by simpa using h0
    have hne2 : (askC ws m == 0) = false := by simpa using h0
    have hbd := askC_bd ws m
    clear h0
    generalize askC ws m = cc at *
    go_enter Try.func11, Try.ntmps11
    go_wp2_with fail
    refine hC.out.mono ?_
    rintro e w1 ⟨rfl, hd⟩
    have hb1 := hd.below
    clear hd
    go_wp2
    go_ret2
    exact ⟨rfl, hb1⟩
theorem specCanWeigh_any (b off c : Nat) (ws : List Int) (m : Int) (both : Bool) (w : World) (hn : ws.length ≤ 1048576) (hb : b < w.heap.size) (hc : At .i16 w b off ws) (hi : I16 ws) :
    Calls Try.prog 9 #[.slice (some ⟨b, off, none⟩) ws.length c, .int .i64 m, .bool both] w fun e w' => e = .returned (.tuple #[.bool (canV ws m both), .int .i64 (askC ws m)]) ∧ Below w.heap.size w w' := by
  have hC := Lib.hid (l01Asked_any b off c ws m w hn hc hi)
  unfold canV
  by_cases h0 : askC ws m = 0
  · rw [if_pos h0]
    have HZ := Lib.hid (askC_zero h0)
    have HM := HZ.out.2
    rw [h0] at hC ⊢
    clear h0
    have HW := Lib.hid (few_way both ws m)
    go_enter Try.func9, Try.ntmps9
    go_wp2_with fail
    refine hC.out.mono ?_
    rintro e w1 ⟨rfl, hd⟩
    have hb1 := hd.below
    have hs1 := Nat.lt_of_lt_of_le hb hb1.size
    have hc1 := hc.below hb1 hb
    clear hd
    go_wp2_with fail
    refine (l01Fewest_any b off c ws both w1 hs1 hc1 HZ.out.1).mono ?_
    rintro e w2 ⟨rfl, hT, hb2⟩
    have HB := Lib.hid (hb1.trans (hb2.mono hb1.size))
    clear hb1 hb2
    have hp := hT.ptr (i := 0) (Nat.zero_le _)
    have hx := hT.cell (i := 0) (j := (2000 + m).toNat) (Nat.zero_le _) (by omega)
    rw [show (((2000 + m).toNat : Nat) : Int) - 2000 = m by omega, Nat.sub_zero] at hx
    clear hT
    generalize fewFn (plOf both) ws ws.length m = F at *
    go_wp2
    go_ret2
    exact ⟨retbi (decide_eq_decide.2 HW.out) rfl, HB.out⟩
  · rw [if_neg h0]
    have hne : (askC ws m != 0) = true := by simpa using h0
    have hne2 : (askC ws m == 0) = false := by simpa using h0
    have hbd := askC_bd ws m
    clear h0
    generalize askC ws m = cc at *
    go_enter Try.func9, Try.ntmps9
    go_wp2_with fail
    refine hC.out.mono ?_
    rintro e w1 ⟨rfl, hd⟩
    have hb1 := hd.below
    clear hd
    go_wp2
    go_ret2
    exact ⟨rfl, hb1⟩
end Go.Proofs.Ytagnaiajgkhhcaa
