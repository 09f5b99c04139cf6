/-
  The walks of NotWeighed, in the program and in its model.
-/
import Derived.Test.YtagnaiajgkhhcaaCan
import Derived.Test.YtagnaiajgkhhcaaSlaw
namespace Go.Proofs.Ytagnaiajgkhhcaa
open Go.RowKit Go.Maps

/-- The masses from 1 to k that cannot be weighed. -/
def missTo (pl ws : List Int) : Nat → List Int
  | 0 => []
  | k + 1 => if wayFn pl ws ws.length ((k : Int) + 1) = 0 then missTo pl ws k ++ [(k : Int) + 1] else missTo pl ws k
theorem missTo_len (pl ws : List Int) (k : Nat) : (missTo pl ws k).length ≤ k := by
  induction k with
  | zero => simp [missTo]
  | succ k ih =>
    unfold missTo
    split
    · simp; omega
    · omega
noncomputable def codeN (ws : List Int) : Int := if okW ws = true then 0 else 1
noncomputable def nwV (ws : List Int) (both : Bool) : List Int := if okW ws = true then missTo (plOf both) ws (sumI ws).toNat else []
theorem okW_total {ws : List Int} (h : OkW ws) : 0 ≤ sumI ws ∧ sumI ws ≤ 2000 := by
  have := okW_sum h ws.length (Nat.le_refl _)
  rwa [List.take_length] at this
theorem nwV_len (ws : List Int) (both : Bool) : (nwV ws both).length ≤ 1048576 := by
  unfold nwV
  by_cases h : okW ws = true
  · rw [if_pos h]
    have h1 := missTo_len (plOf both) ws (sumI ws).toNat
    have h2 := okW_total (of_cb h)
    omega
  · rw [if_neg h]; simp
set_option maxRecDepth 100000 in
theorem l01Missing_any (b off c : Nat) (ws : List Int) (most : Int) (both : Bool) (w : World) (hb : b < w.heap.size) (hc : At .i16 w b off ws) (hO : OkW ws) (hm : 0 ≤ most ∧ most ≤ 2000) :
    Calls Try.prog 37 #[.slice (some ⟨b, off, none⟩) ws.length c, .int .i64 most, .bool both] w fun e w' => ∃ v, e = .returned v ∧ OwnV .i64 w.heap.size w' v (missTo (plOf both) ws most.toNat) ∧ Below w.heap.size w w' := by
  obtain ⟨i0, hi, hz0, hz1, hz2⟩ := info_parts Try.info_i64t
  have HF := Lib.hid (l01Fewest_any b off c ws both w hb hc hO)
  have HW := Lib.hid (fun s => few_way both ws s)
  have HN := Lib.hid (fun s => (wayFn_bd both ws ws.length s).1)
  have HLN := Lib.hid (missTo_len (plOf both) ws)
  have HST := Lib.hid (show ∀ k, missTo (plOf both) ws (k + 1) = if wayFn (plOf both) ws ws.length ((k : Int) + 1) = 0 then missTo (plOf both) ws k ++ [(k : Int) + 1] else missTo (plOf both) ws k from fun k => rfl)
  have hM0 : missTo (plOf both) ws 0 = [] := rfl
  go_enter Try.func37, Try.ntmps37
  go_wp2_with fail
  refine HF.out.mono ?_
  rintro e w1 ⟨rfl, hT, hb1⟩
  have hsz := hb1.size
  have HT := Lib.hid hT
  clear hT
  generalize fewFn (plOf both) ws = F at *
  generalize wayFn (plOf both) ws ws.length = W at *
  generalize hLL : missTo (plOf both) ws = L at *
  have HLQ := Lib.hid hLL
  clear hLL
  have hto : 0 < w1.heap.size := by omega
  go_wp2_with fail
  go_loopw [8, 9] (fun v mv wr => ∃ k : Nat, mv = .int .i64 ((k : Int) + 1) ∧ (k : Int) ≤ most ∧ wr.ownsRow w1.heap.size 2 1 v (L k).length ((L k).map (Value.int .i64)) ∧ Below w1.heap.size w1 wr) (fun _ mv _ => (most + 1 - intOf mv).toNat)
  case atStart =>
    refine ⟨0, rfl, by omega, ?_, (Below.refl _ _).alloc (Nat.le_refl _) _⟩
    rw [hM0]
    exact World.ownsRow_made w1 #[] 0 (Nat.le_refl _) (by unfold maxLen; omega) (by simp)
  case round =>
    obtain ⟨k, rfl, hk, hown, hB⟩ := hrel
    by_cases hlt : (k : Int) + 1 ≤ most
    · have hT1 := HT.out
      have hp : wr.cell? ⟨w.heap.size, 0, none⟩ = some (.slice (some ⟨w.heap.size + 1 + 0, 0, none⟩) 4001 4001) := (hB.cell (p := ⟨w.heap.size, 0, none⟩) (hT1.out.lt)).trans (hT1.ptr (i := 0) (Nat.zero_le _))
      have hx : wr.cell? ⟨w.heap.size + 1 + 0, 2000 + (k + 1), none⟩ = some (.int .i64 (F ws.length ((k : Int) + 1))) := by
        have h1 := hT1.cell (i := 0) (j := 2000 + (k + 1)) (Nat.zero_le _) (by omega)
        rw [show ((2000 + (k + 1) : Nat) : Int) - 2000 = (k : Int) + 1 by omega, Nat.sub_zero] at h1
        exact (hB.cell (p := ⟨w.heap.size + 1 + 0, 2000 + (k + 1), none⟩) ((hT1.row 0 (Nat.zero_le _)).lt)).trans h1
      have HFW := Lib.hid (And.intro (HW.out ((k : Int) + 1)) (HN.out ((k : Int) + 1)))
      have hll := HLN.out k
      have hk2 : k ≤ 2000 := by omega
      have HSTk := Lib.hid (HST.out k)
      generalize F ws.length ((k : Int) + 1) = V at *
      by_cases hv : V < 0
      · have HL1 := Lib.hid (show L (k + 1) = L k ++ [(k : Int) + 1] by rw [HSTk.out, if_pos (by have h1 := HFW.out.1; have h2 := HFW.out.2; omega)])
        obtain ⟨wq, rfl⟩ : ∃ wq : World, wq = wr := ⟨_, rfl⟩
        go_wp2_with (first
          | (at_builtin; refine wpList_append_own _ rfl _ _ 33 rfl w1.heap.size 2 i0 (.int .i64 0) 1 8 Try.underlying33 hi hz0 hz1 hz2 rfl (by decide) _ _ _ rfl (hown.alloc _) ⟨wq.heap.size, 0, none⟩ 1 1 [.int .i64 ((k : Int) + 1)] rfl rfl ?c1 ?c2 ?c3 ?c4 ?c5 ?_)
          | go_in)
        case c1 =>
          intro j u hj
          match j, hj with
          | 0, hj => simp at hj; subst hj; simp [Addr.add]
        case c2 => intro u hu; simp at hu; subst hu; rfl
        case c3 => unfold maxLen; omega
        case c4 => omega
        case c5 => have := hB.size; simp; omega
        · intro v' w1' hown' hgrow _
          have hB3 : Below w1.heap.size w1 w1' := (hB.alloc hB.size _).grown hgrow (by have := hB.size; simp; omega) (fun j hj => (hown.lt j hj).1)
          clear hgrow
          go_wp2
          go_roundw
          case rel => exact ⟨k + 1, by go_num, by omega, by rw [HL1.out]; simpa using hown', hB3⟩
          case measure => simp [intOf]; omega
      · have HL1 := Lib.hid (show L (k + 1) = L k by rw [HSTk.out, if_neg (by have h1 := HFW.out.1; have h2 := HFW.out.2; omega)])
        go_wp2
        go_roundw
        case rel => exact ⟨k + 1, by go_num, by omega, by rw [HL1.out]; exact hown, hB⟩
        case measure => simp [intOf]; omega
    · have HE := Lib.hid (show k = most.toNat by omega)
      go_wp2
      go_ret
      refine ⟨_, rfl, ?_, hb1.trans (hB.mono hsz)⟩
      rw [← HE.out, HLQ.out]
      exact (OwnV.ofOwns rfl hown).mono hsz
set_option maxRecDepth 100000 in
theorem specNotWeighed_any (b off c : Nat) (ws : List Int) (both : Bool) (w : World) (hn : ws.length ≤ 1048576) (hb : b < w.heap.size) (hc : At .i16 w b off ws) (hi : I16 ws) :
    Calls Try.prog 17 #[.slice (some ⟨b, off, none⟩) ws.length c, .bool both] w fun e w' => ∃ v, e = .returned (.tuple #[v, .int .i64 (codeN ws)]) ∧ OwnV .i64 w.heap.size w' v (nwV ws both) ∧ Below w.heap.size w w' := by
  have hV := Lib.hid (l01Ok_any b off c ws w hn hc hi)
  unfold codeN nwV
  cases hok : okW ws
  · rw [hok] at hV
    clear hok
    simp only [Bool.false_eq_true, if_false]
    go_enter Try.func17, Try.ntmps17
    go_wp2_with fail
    refine hV.out.mono ?_
    rintro e w' ⟨rfl, hd⟩
    have hB := hd.below
    clear hd
    go_wp2
    go_ret2
    exact ⟨_, rfl, OwnV.nil _ _ _ _ _, hB.alloc hB.size _⟩
  rw [hok] at hV
  have HO := Lib.hid (show OkW ws from of_cb hok)
  clear hok
  simp only [if_true]
  go_enter Try.func17, Try.ntmps17
  go_wp2_with fail
  refine hV.out.mono ?_
  rintro e w1 ⟨rfl, hd⟩
  have hB := hd.below
  have hb1 := Nat.lt_of_lt_of_le hb hB.size
  have hc1 := hc.below hB hb
  clear hd hc
  go_wp2_with fail
  refine (l01Sum_any b off c ws w1 hn hc1 hi).mono ?_
  rintro e w' ⟨rfl, rfl⟩
  go_wp2_with fail
  refine (l01Missing_any b off c ws _ both w1 hb1 hc1 HO.out (okW_total HO.out)).mono ?_
  rintro e w2 ⟨v, rfl, ho, hb2⟩
  have hBB := hB.trans (hb2.mono hB.size)
  have hoo := ho.mono hB.size
  go_wp2
  go_ret2
  exact ⟨_, rfl, hoo, hBB⟩
set_option maxRecDepth 100000 in
theorem notWeighed_any (b off c : Nat) (ws : List Int) (both : Bool) (w : World) (hn : ws.length ≤ 1048576) (hb : b < w.heap.size) (hc : At .i16 w b off ws) (hi16 : I16 ws) :
    Calls Try.prog 18 #[.slice (some ⟨b, off, none⟩) ws.length c, .bool both] w fun e w' => ∃ v, e = .returned (.tuple #[v, .int .i64 (codeN ws)]) ∧ OwnV .i64 w.heap.size w' v (nwV ws both) ∧ Below w.heap.size w w' := by
  obtain ⟨i0, hi, hz0, hz1, hz2⟩ := info_parts Try.info_i64t
  have hV := Lib.hid (validWeights_any b off c ws w hn hc hi16)
  unfold codeN nwV
  cases hok : okW ws
  · rw [hok] at hV
    clear hok
    simp only [Bool.false_eq_true, if_false]
    go_enter Try.func18, Try.ntmps18
    go_wp2_with fail
    refine hV.out.mono ?_
    rintro e w' ⟨rfl, hd⟩
    have hB := hd.below
    clear hd
    go_wp2
    go_ret2
    exact ⟨_, rfl, OwnV.nil _ _ _ _ _, hB⟩
  rw [hok] at hV
  have HO := Lib.hid (show OkW ws from of_cb hok)
  clear hok
  simp only [if_true]
  have HI := Lib.hid hi16
  have HK := Lib.hid (okW_bd HO.out)
  have hl16 := HO.out.2.1
  have hst := okW_total HO.out
  have HLN := Lib.hid (missTo_len (plOf both) ws)
  have HST := Lib.hid (show ∀ k, missTo (plOf both) ws (k + 1) = if wayFn (plOf both) ws ws.length ((k : Int) + 1) = 0 then missTo (plOf both) ws k ++ [(k : Int) + 1] else missTo (plOf both) ws k from fun k => rfl)
  have hM0 : missTo (plOf both) ws 0 = [] := rfl
  clear hi16
  go_enter Try.func18, Try.ntmps18
  go_wp2_with fail
  refine hV.out.mono ?_
  rintro e w1 ⟨rfl, hd⟩
  have hB1 := hd.below
  have hb1 := Nat.lt_of_lt_of_le hb hB1.size
  have hc1 := hc.below hB1 hb
  clear hd hc
  go_wp2_with fail
  refine (waysBySum_any b off c ws both w1 hl16 HK.out hb1 hc1).mono ?_
  rintro e w2 ⟨mm, n, D, rfl, hown0, hM, hb2⟩
  have HMM := Lib.hid hM
  have hc2 := hc1.below hb2 hb1
  have hbb2 := Nat.lt_of_lt_of_le hb1 hb2.size
  have HB2 := Lib.hid (hB1.trans (hb2.mono hB1.size))
  clear hM hb2 hB1 hc1
  generalize hW : wayFn (plOf both) ws ws.length = W at *
  generalize hLL : missTo (plOf both) ws = L at *
  generalize hS : sumI ws = S at *
  have HQ := Lib.hid (And.intro hLL hS)
  clear hLL hS hW
  go_wp2_with fail
  go_loopw [7, 8] (fun v mv wr => ∃ k : Nat, mv = .int .i64 ((k : Int) + 1) ∧ (k : Int) ≤ S ∧ wr.ownsRow w2.heap.size 2 1 v (L k).length ((L k).map (Value.int .i64)) ∧ wr.ownsMap Try.prog 2 Elem mm n D ∧ Below w2.heap.size w2 wr) (fun _ mv _ => (S + 1 - intOf mv).toNat)
  case atStart =>
    refine ⟨0, rfl, by omega, ?_, hown0, Below.refl _ _⟩
    rw [hM0]
    exact World.ownsRow_nil _ _ _ _
  case round =>
    obtain ⟨k, rfl, hk, hown, hmap, hB⟩ := hrel
    have hcr := hc2.below hB hbb2
    go_wp2_with fail
    refine (sum_any b off c ws wr hn hcr HI.out).mono ?_
    rintro e w' ⟨rfl, rfl⟩
    rw [HQ.out.2]
    have hml := hown0.lt
    have hll := HLN.out k
    by_cases hlt : (k : Int) + 1 ≤ S
    · have hVV := Lib.hid (HMM.out.2.1 ((k : Int) + 1))
      have HSTk := Lib.hid (HST.out k)
      generalize W ((k : Int) + 1) = V at *
      obtain ⟨wq, rfl⟩ : ∃ wq : World, wq = wr := ⟨_, rfl⟩
      by_cases hv : V = 0
      · have HL1 := Lib.hid (show L (k + 1) = L k ++ [(k : Int) + 1] by rw [HSTk.out, if_pos hv])
        go_wp2_with (first
          | (at_lookup; refine wpList_lookup_own_int _ rfl _ _ 49 rfl 2 2 .i64 keyI Try.underlying49 Try.underlying2 (Try.zeroValue2 _) mm n D rfl hmap _ (ky ((k : Int) + 1)) rfl (keyOf_int_mk Try.underlying2 (lit_wf (by omega))) ?_; intro c2 hat2 _; obtain rfl : c2 = 0 := (dl_inj (hat2.symm.trans hVV.out)).trans hv; clear hat2)
          | (at_builtin; refine wpList_append_own _ rfl _ _ 33 rfl w2.heap.size 2 i0 (.int .i64 0) 1 8 Try.underlying33 hi hz0 hz1 hz2 rfl (by decide) _ _ _ rfl (hown.alloc _) ⟨wq.heap.size, 0, none⟩ 1 1 [.int .i64 ((k : Int) + 1)] rfl rfl ?c1 ?c2 ?c3 ?c4 ?c5 ?_)
          | go_in)
        case c1 =>
          intro j u hj
          match j, hj with
          | 0, hj => simp at hj; subst hj; simp [Addr.add]
        case c2 => intro u hu; simp at hu; subst hu; rfl
        case c3 => unfold maxLen; omega
        case c4 => omega
        case c5 => have := hB.size; simp; omega
        · intro v' w1' hown' hgrow _
          have hB3 : Below w2.heap.size w2 w1' := (hB.alloc hB.size _).grown hgrow (by have := hB.size; simp; omega) (fun j hj => (hown.lt j hj).1)
          have hmap' := (hmap.alloc (.cells #[.int .i64 ((k : Int) + 1)] 2)).kept hgrow (fun e => by have := (hown.lt mm e.symm).1; omega)
          clear hgrow
          go_wp2
          go_roundw
          case rel => exact ⟨k + 1, by go_num, by omega, by rw [HL1.out]; simpa using hown', hmap', hB3⟩
          case measure => simp [intOf]; omega
      · have HL1 := Lib.hid (show L (k + 1) = L k by rw [HSTk.out, if_neg hv])
        have hvb : (V == 0) = false := by simpa using hv
        go_wp2_with (at_lookup; refine wpList_lookup_own_int _ rfl _ _ 49 rfl 2 2 .i64 keyI Try.underlying49 Try.underlying2 (Try.zeroValue2 _) mm n D rfl hmap _ (ky ((k : Int) + 1)) rfl (keyOf_int_mk Try.underlying2 (lit_wf (by omega))) ?_; intro c2 hat2 _; obtain rfl : c2 = V := dl_inj (hat2.symm.trans hVV.out); clear hat2)
        go_roundw
        case rel => exact ⟨k + 1, by go_num, by omega, by rw [HL1.out]; exact hown, hmap, hB⟩
        case measure => simp [intOf]; omega
    · have HE := Lib.hid (show k = S.toNat by omega)
      go_wp2
      go_ret2
      refine ⟨_, rfl, ?_, HB2.out.trans (hB.mono HB2.out.size)⟩
      rw [HQ.out.2, ← HE.out, HQ.out.1]
      exact (OwnV.ofOwns rfl hown).mono HB2.out.size
end Go.Proofs.Ytagnaiajgkhhcaa
