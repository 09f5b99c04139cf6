/-
  The walk of WaysToWeigh in its model.
-/
import Derived.Test.YtagnaiajgkhhcaaWaysFn
import Derived.RegionTactic
import Derived.ChangeAlike
namespace Go.Proofs.Ytagnaiajgkhhcaa
open Go.RowKit Go.Maps

theorem setCell_new (w : World) (c : Array Value) (t : TypeId) (o : Nat) (v : Value) : (w.alloc (.cells c t)).setCell ⟨w.heap.size, o, none⟩ v = w.alloc (.cells (c.setIfInBounds o v) t) := by
  unfold World.setCell World.alloc
  congr 1
  apply Array.ext_getElem?
  intro i
  simp only [Array.getElem?_modify, Array.getElem?_push]
  by_cases h : i = w.heap.size
  · subst h; simp
  · simp [h, Ne.symm h]
def leastOf (both : Bool) : Int := if both then -1 else 0
theorem plOf_getD (both : Bool) (j : Nat) (h : j < (plOf both).length) : (plOf both).getD j 0 = leastOf both + j := by
  cases both
  · match j, h with
    | 0, _ => decide
    | 1, _ => decide
  · match j, h with
    | 0, _ => decide
    | 1, _ => decide
    | 2, _ => decide
theorem plOf_len (both : Bool) : ((plOf both).length : Int) = 2 - leastOf both := by cases both <;> decide
theorem leastOf_bd (both : Bool) : -1 ≤ leastOf both ∧ leastOf both ≤ 0 := by cases both <;> decide
theorem l01Least_any (both : Bool) (w : World) : Calls Try.prog 34 #[.bool both] w fun e w' => e = .returned (.int .i64 (leastOf both)) ∧ w = w' := by
  cases both
  · go_enter Try.func34, Try.ntmps34
    go_wp2
    go_ret
    exact ⟨rfl, rfl⟩
  · go_enter Try.func34, Try.ntmps34
    go_wp2
    go_ret
    exact ⟨rfl, rfl⟩
theorem l01Asked_any (b off c : Nat) (ws : List Int) (m : Int) (w : World) (hn : ws.length ≤ 1048576) (hc : At .i16 w b off ws) (hi : I16 ws) :
    Calls Try.prog 30 #[.slice (some ⟨b, off, none⟩) ws.length c, .int .i64 m] w fun e w' => e = .returned (.int .i64 (askC ws m)) ∧ Dr w w' := by
  have hV := Lib.hid (l01Ok_any b off c ws w hn hc hi)
  unfold askC
  cases hok : okW ws
  · rw [hok] at hV
    clear hok
    simp only [Bool.false_eq_true, if_false]
    go_enter Try.func30, Try.ntmps30
    go_wp2_with fail
    refine hV.out.mono ?_
    rintro e w' ⟨rfl, hd⟩
    go_wp2
    go_ret
    exact ⟨rfl, hd⟩
  rw [hok] at hV
  clear hok
  simp only [if_true]
  by_cases hm : 0 ≤ m ∧ m ≤ 2000
  · rw [cb_t hm]
    simp only [if_true]
    go_enter Try.func30, Try.ntmps30
    go_wp2_with fail
    refine hV.out.mono ?_
    rintro e w1 ⟨rfl, hd⟩
    go_wp2_with fail
    refine (l00In_t _ _ _ _ hm).mono ?_
    rintro e w' ⟨rfl, rfl⟩
    go_wp2
    go_ret
    exact ⟨rfl, hd⟩
  · rw [cb_f hm]
    have H := Lib.hid hm
    clear hm
    simp only [Bool.false_eq_true, if_false]
    go_enter Try.func30, Try.ntmps30
    go_wp2_with fail
    refine hV.out.mono ?_
    rintro e w1 ⟨rfl, hd⟩
    go_wp2_with fail
    refine (l00In_f _ _ _ _ H.out).mono ?_
    rintro e w' ⟨rfl, rfl⟩
    go_wp2
    go_ret
    exact ⟨rfl, hd⟩
theorem Try.info_i64t : (Try.prog.info? 2).map (fun i => (i.zero, i.size, i.bytes)) = some (some (.int .i64 0), 1, 8) := by kernel_rfl
/-- What the first m places have brought to s. -/
def partW (pl : List Int) (f : Int → Int) (wt s : Int) (m : Nat) : Int := ((pl.take m).map (fun x => f (s - x * wt))).sum
theorem partW_step (pl : List Int) (f : Int → Int) (wt s : Int) (m : Nat) (h : m < pl.length) : partW pl f wt s (m + 1) = partW pl f wt s m + f (s - pl.getD m 0 * wt) := by
  unfold partW
  rw [take_getD pl m h, List.map_append, List.sum_append]
  simp
theorem partW_bd (pl : List Int) (f : Int → Int) (wt s M : Int) (m : Nat) (hf : ∀ s, 0 ≤ f s ∧ f s ≤ M) (hl : pl.length ≤ 3) (hM : 0 ≤ M) : 0 ≤ partW pl f wt s m ∧ partW pl f wt s m ≤ 3 * M := by
  have h := sum_bd (pl.take m) (fun x => f (s - x * wt)) M (fun x _ => hf _)
  have h2 : (pl.take m).length ≤ 3 := by rw [List.length_take]; omega
  have h3 : ((pl.take m).length : Int) * M ≤ 3 * M := Int.mul_le_mul_of_nonneg_right (by omega) hM
  unfold partW
  omega
set_option maxRecDepth 100000 in
set_option maxHeartbeats 2000000 in
theorem specWaysToWeigh_in (b off c : Nat) (ws : List Int) (m : Int) (both : Bool) (w : World) (hn : ws.length ≤ 1048576) (hb : b < w.heap.size) (hc : At .i16 w b off ws) (hi : I16 ws) (hO : OkW ws) (hm : 0 ≤ m ∧ m ≤ 2000) (hz : askC ws m = 0) :
    Calls Try.prog 13 #[.slice (some ⟨b, off, none⟩) ws.length c, .int .i64 m, .bool both] w fun e w' => e = .returned (.tuple #[.int .i64 (wayFn (plOf both) ws ws.length m), .int .i64 0]) ∧ Below w.heap.size w w' := by
  have hC := Lib.hid (l01Asked_any b off c ws m w hn hc hi)
  rw [hz] at hC
  have hl16 := hO.2.1
  have HW := Lib.hid (okW_bd hO)
  have HOUT := Lib.hid (fun k (hk : k ≤ ws.length) s (hs : s < -2000 ∨ 2000 < s) => wayFn_out hO both k hk s (by have := okW_sum hO k hk; omega))
  have hmk := run_make_row' (P := Try.prog) 33 2 (.int .i64 0) 8 Try.underlying33 Try.info_i64t rfl .i64 .i64 4001 (by omega) (by omega)
  have hmk' : ∀ w, (Instr.makeSlice 33 (.int .i64 4001) (.int .i64 4001)).run Try.prog w = .ok (.slice (some ⟨w.heap.size, 0, none⟩) 4001 4001) (w.alloc (.cells (madeCells #[.int .i64 0] 4001) 2)) := fun w => hmk w
  have HMK := Lib.hid (fun (w : World) => World.rowIs_made w (.int .i64 0) 4001 2)
  have HWB := Lib.hid (show ∀ k s, 0 ≤ wayFn (plOf both) ws k s ∧ wayFn (plOf both) ws k s ≤ 3 ^ k from fun k s => wayFn_bd both ws k s)
  have HL := Lib.hid (l01Least_any both)
  have HPG := Lib.hid (plOf_getD both)
  have HPL := Lib.hid (plOf_len both)
  have hpl3 := plOf_length both
  have hlb := leastOf_bd both
  clear hmk hO hz
  generalize hpl : plOf both = pl at *
  generalize leastOf both = le at *
  generalize hmc : madeCells #[Value.int .i64 0] 4001 = mc at *
  clear hmc
  go_enter Try.func13, Try.ntmps13
  go_wp2_with fail
  refine hC.out.mono ?_
  rintro e w1 ⟨rfl, hd⟩
  have hB1 := hd.below
  have hb1 := Nat.lt_of_lt_of_le hb hB1.size
  have hc1 := hc.below hB1 hb
  clear hd hc
  have hmc0 : mc[2000]? = some (.int .i64 0) := by
    have := (HMK.out w1).cell (i := 2000) (by omega)
    simpa using this
  have hr0 : ((w1.alloc (.cells mc 2)).setCell ⟨w1.heap.size, 2000, none⟩ (.int .i64 1)).rowIs w1.heap.size 2 4001 (fun j => .int .i64 (wayFn pl ws 0 ((j : Int) - 2000))) := by
    refine ((HMK.out w1).set 2000 _).congr ?_
    intro j hj
    by_cases e : j = 2000
    · subst e; simp [wayFn]
    · have e2 : ¬ (j : Int) - 2000 = 0 := by omega
      simp [e, wayFn, e2]
  have hB2 : Below w1.heap.size w1 ((w1.alloc (.cells mc 2)).setCell ⟨w1.heap.size, 2000, none⟩ (.int .i64 1)) := ((Below.refl _ w1).alloc (Nat.le_refl _) _).setCell (Nat.le_refl _) _
  have hew : (w1.alloc (.cells mc 2)).setCell ⟨w1.heap.size, 2000, none⟩ (.int .i64 1) = w1.alloc (.cells (mc.setIfInBounds 2000 (.int .i64 1)) 2) := setCell_new _ _ _ _ _
  rw [hew] at hr0 hB2
  have HR0 := Lib.hid hr0
  have HB2 := Lib.hid hB2
  clear hr0 hB2 hew
  go_wp2_with fail
  clear hmc0
  go_loopw [10, 11] (fun v iv wr => ∃ (i g : Nat), iv = .int .i64 i ∧ v = .slice (some ⟨g, 0, none⟩) 4001 4001 ∧ i ≤ ws.length ∧ wr.rowIs g 2 4001 (fun j => .int .i64 (wayFn pl ws i ((j : Int) - 2000))) ∧ Below w1.heap.size w1 wr) (fun _ iv _ => ws.length - (intOf iv).toNat)
  case atStart => exact ⟨0, _, rfl, rfl, Nat.zero_le _, HR0.out, HB2.out⟩
  case round =>
    obtain ⟨i, g, rfl, rfl, hi', hrow, hB⟩ := hrel
    have HROW := Lib.hid hrow
    clear hrow
    by_cases hlt : i < ws.length
    · have hwi := HW.out i hlt
      have hcr := (hc1.below hB hb1) i hlt
      have H3 := Lib.hid (pow3_16 i (by omega))
      have HF := Lib.hid (HWB.out i)
      have HFO := Lib.hid (HOUT.out i hi')
      have HST := Lib.hid (show ∀ s, wayFn pl ws (i + 1) s = partW pl (wayFn pl ws i) (ws.getD i 0) s pl.length from fun s => by unfold partW; rw [List.take_length]; rfl)
      have hglt := HROW.out.lt
      have HNR := Lib.hid (HMK.out wr)
      have hsr := hB.size
      generalize hwt : ws.getD i 0 = wt at *
      generalize hf : wayFn pl ws i = f at *
      have hBn : Below wr.heap.size wr (wr.alloc (.cells mc 2)) := (Below.refl _ wr).alloc (Nat.le_refl _) _
      have hbg : b < wr.heap.size := Nat.lt_of_lt_of_le hb1 hsr
      have hne : g ≠ wr.heap.size := by omega
      clear hi' hwt
      go_wp2_with fail
      obtain ⟨wa, hwa⟩ : ∃ wa, wa = wr := ⟨_, rfl⟩
      rw [← hwa] at HROW HNR hB hBn hcr
      have HWA := Lib.hid hwa
      rw [← hwa]
      generalize hg1 : wa.heap.size = g1 at *
      have hgl : g < g1 := by rw [← hg1, hwa]; exact hglt
      have hbl : b < g1 := by rw [← hg1, hwa]; exact hbg
      have hsl : w1.heap.size ≤ g1 := by rw [← hg1, hwa]; exact hsr
      clear hwa hglt hbg hne hsr
      go_loopw [13] (fun kv wi => ∃ kk : Nat, kv = .int .i64 kk ∧ kk ≤ 4001 ∧ wi.rowIs g1 2 4001 (fun j => .int .i64 (if j < kk then partW pl f wt ((j : Int) - 2000) pl.length else 0)) ∧ Below g1 wa wi) (fun kv _ => 4001 - (intOf kv).toNat)
      case atStart => exact ⟨0, rfl, Nat.zero_le _, HNR.out.congr (fun j _ => by simp), hBn⟩
      case round =>
        obtain ⟨kk, rfl, hkk, hrk, hBk⟩ := hrel
        have HRK := Lib.hid hrk
        clear hrk
        by_cases hk4 : kk < 4001
        · go_wp2_with fail
          refine (HL.out _).mono ?_
          rintro e w' ⟨rfl, rfl⟩
          go_wp2_with fail
          go_loopw [14] (fun xv wj => ∃ mm : Nat, xv = .int .i64 (le + mm) ∧ mm ≤ pl.length ∧ wj.rowIs g1 2 4001 (fun j => .int .i64 (if j = kk then partW pl f wt ((kk : Int) - 2000) mm else if j < kk then partW pl f wt ((j : Int) - 2000) pl.length else 0)) ∧ Below g1 wa wj) (fun xv _ => (2 - intOf xv).toNat)
          case atStart =>
            refine ⟨0, by simp, Nat.zero_le _, HRK.out.congr (fun j _ => ?_), hBk⟩
            by_cases e : j = kk
            · subst e; simp [partW]
            · simp [e]
          case round =>
            obtain ⟨mm, rfl, hmm, hrj, hBj⟩ := hrel
            have HRJ := Lib.hid hrj
            clear hrj
            by_cases hlm : mm < pl.length
            · have hxx : le + (mm : Int) ≤ 1 := by have := HPL.out; omega
              have hge : -1 ≤ le + (mm : Int) := by omega
              have hpx := HPG.out mm hlm
              have HPS := Lib.hid (partW_step pl f wt ((kk : Int) - 2000) mm hlm)
              rw [hpx] at HPS
              have hPB := partW_bd pl f wt ((kk : Int) - 2000) (3 ^ i) mm HF.out hpl3 (by have := H3.out; omega)
              have hP2 : 0 ≤ partW pl f wt ((kk : Int) - 2000) mm ∧ partW pl f wt ((kk : Int) - 2000) mm ≤ 129140163 := by have := H3.out; omega
              have hcw : wr.cell? ⟨b, off + i, none⟩ = some (.int .i16 wt) := (hBj.cell (p := ⟨b, off + i, none⟩) hbl).trans hcr
              have hcn : wr.cell? ⟨g1, kk, none⟩ = some (.int .i64 (partW pl f wt ((kk : Int) - 2000) mm)) := by
                have := HRJ.out.cell (i := kk) hk4
                rw [if_pos rfl] at this
                exact this
              have hfz : wr.frozen? ⟨g1, kk, none⟩ = false := HRJ.out.frozen kk
              have HROWj := Lib.hid (show ∀ j, j < 4001 → wr.cell? ⟨g, j, none⟩ = some (.int .i64 (f ((j : Int) - 2000))) from fun j hj => (hBj.cell (p := ⟨g, j, none⟩) hgl).trans (HROW.out.cell hj))
              clear hpx hPB
              obtain ⟨q, hq⟩ : ∃ q, (le + (mm : Int)) * wt = q := ⟨_, rfl⟩
              have hqb : -2000 ≤ q ∧ q ≤ 2000 := by
                have h4 : le + (mm : Int) = -1 ∨ le + (mm : Int) = 0 ∨ le + (mm : Int) = 1 := by omega
                rw [← hq]
                rcases h4 with e | e | e <;> rw [e] <;> omega
              rw [hq] at HPS
              have HPP := Lib.hid (show ∀ v : Int, v = partW pl f wt ((kk : Int) - 2000) (mm + 1) → ∀ wx : World, (∃ nq, wx = wr.drewN nq) → (wx.setCell ⟨g1, kk, none⟩ (.int .i64 v)).rowIs g1 2 4001 (fun j => .int .i64 (if j = kk then partW pl f wt ((kk : Int) - 2000) (mm + 1) else if j < kk then partW pl f wt ((j : Int) - 2000) pl.length else 0)) ∧ Below g1 wa (wx.setCell ⟨g1, kk, none⟩ (.int .i64 v)) from by
                rintro v hv wx ⟨nq, rfl⟩
                refine ⟨(World.rowIs.set (w := wr.drewN nq) (f := fun j => .int .i64 (if j = kk then partW pl f wt ((kk : Int) - 2000) mm else if j < kk then partW pl f wt ((j : Int) - 2000) pl.length else 0)) HRJ.out kk _).congr (fun j _ => ?_), (below_drewN hBj nq).setCell (Nat.le_refl _) _⟩
                by_cases e : j = kk
                · rw [if_pos e, if_pos e, hv]
                · rw [if_neg e, if_neg e, if_neg e])
              generalize partW pl f wt ((kk : Int) - 2000) mm = P at *
              by_cases hin : 0 ≤ (kk : Int) - q ∧ (kk : Int) - q ≤ 4000
              · obtain ⟨fr, hfr⟩ : ∃ fr : Nat, (kk : Int) - q = fr := ⟨((kk : Int) - q).toNat, by omega⟩
                have hfr4 : fr < 4001 := by omega
                have hcv := HROWj.out fr hfr4
                have HV := Lib.hid (show f ((kk : Int) - 2000 - q) = f ((fr : Int) - 2000) by congr 1; omega)
                have hvb : 0 ≤ f ((fr : Int) - 2000) ∧ f ((fr : Int) - 2000) ≤ 43046721 := by have h1 := HF.out ((fr : Int) - 2000); have h2 := H3.out; omega
                generalize f ((fr : Int) - 2000) = V at *
                clear hin
                go_wp2_with fail
                refine (l00In_t _ _ _ _ (by omega)).mono ?_
                rintro e w' ⟨rfl, rfl⟩
                go_wp2
                go_region
                all_goals go_wp2
                have hK := HPP.out (P + V) (by rw [HPS.out, HV.out]) wr ⟨0, rfl⟩
                exact ⟨⟨mm + 1, by go_num, hlm, hK.1.drew, below_drewN hK.2 1⟩, by simp [intOf]; omega⟩
              · have HZ := Lib.hid (show f ((kk : Int) - 2000 - q) = 0 from HFO.out _ (by omega))
                have HIN := Lib.hid hin
                clear hin
                go_wp2_with fail
                refine (l00In_f _ _ _ _ HIN.out).mono ?_
                rintro e w' ⟨rfl, rfl⟩
                go_wp2
                go_roundw
                case rel => exact ⟨mm + 1, by go_num, hlm, HRJ.out.congr (fun j _ => by rw [HPS.out, HZ.out, Int.add_zero]), hBj⟩
                case measure => simp [intOf]; omega
            · have HE := Lib.hid (show mm = pl.length by omega)
              have hgt : ¬ le + (mm : Int) ≤ 1 := by have := HPL.out; have := HE.out; omega
              go_wp2
              go_roundw
              case rel =>
                refine ⟨kk + 1, by go_num, hk4, HRJ.out.congr (fun j _ => ?_), hBj⟩
                by_cases e : j = kk
                · subst e; rw [if_pos rfl, if_pos (Nat.lt_succ_self _), HE.out]
                · by_cases e2 : j < kk
                  · rw [if_neg e, if_pos e2, if_pos (Nat.lt_succ_of_lt e2)]
                  · rw [if_neg e, if_neg e2, if_neg (by omega)]
              case measure => simp [intOf]; omega
        · have HE := Lib.hid (show kk = 4001 by omega)
          go_wp2
          go_roundw
          case rel => exact ⟨i + 1, g1, by go_num, rfl, hlt, HRK.out.congr (fun j hj => by rw [if_pos (by have := HE.out; omega), HST.out]), hB.trans (hBk.mono hsl)⟩
          case measure => simp [intOf]; omega
    · have HK := Lib.hid (show i = ws.length by omega)
      have hce : wr.cell? ⟨g, (2000 + m).toNat, none⟩ = some (.int .i64 (wayFn pl ws i m)) := by
        have := HROW.out.cell (i := (2000 + m).toNat) (by omega)
        rw [this]
        have e : (((2000 + m).toNat : Int) - 2000) = m := by omega
        rw [e]
      go_wp2
      go_ret2
      exact ⟨ret2 (by rw [HK.out]) rfl, hB1.trans (hB.mono hB1.size)⟩
theorem specWaysToWeigh_any (b off c : Nat) (ws : List Int) (m : Int) (both : Bool) (w : World) (hn : ws.length ≤ 1048576) (hb : b < w.heap.size) (hc : At .i16 w b off ws) (hi : I16 ws) :
    Calls Try.prog 13 #[.slice (some ⟨b, off, none⟩) ws.length c, .int .i64 m, .bool both] w fun e w' => e = .returned (.tuple #[.int .i64 (wtwV ws m both), .int .i64 (askC ws m)]) ∧ Below w.heap.size w w' := by
  unfold wtwV
  by_cases h0 : askC ws m = 0
  · rw [if_pos h0]
    have HZ := askC_zero h0
    have H := specWaysToWeigh_in b off c ws m both w hn hb hc hi HZ.1 HZ.2 h0
    rw [h0]
    exact H
  · have hC := Lib.hid (l01Asked_any b off c ws m w hn hc hi)
    rw [if_neg h0]
    have hne : (askC ws m != 0) = true := by simpa using h0
    have hne2 : (askC ws m == 0) = false := by simpa using h0
    have hbd := askC_bd ws m
    clear h0
    generalize askC ws m = cc at *
    go_enter Try.func13, Try.ntmps13
    go_wp2_with fail
    refine hC.out.mono ?_
    rintro e w1 ⟨rfl, hd⟩
    have hb1 := hd.below
    clear hd
    go_wp2
    go_ret2
    exact ⟨rfl, hb1⟩
end Go.Proofs.Ytagnaiajgkhhcaa
