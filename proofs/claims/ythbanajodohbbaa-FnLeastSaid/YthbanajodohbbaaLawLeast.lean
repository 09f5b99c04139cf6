/-
  The walk of the law FnLeast.
-/
import Derived.Test.YthbanajodohbbaaLeastEq
namespace Go.Proofs.Ythbanajodohbbaa
open Go.RowKit

set_option maxRecDepth 100000 in
set_option maxHeartbeats 40000000 in
theorem walk_FnLeast (a0 : Option Addr) (c0 : Nat) (xs0 : List Int) (a1 : Option Addr) (c1 : Nat) (xs1 : List Int) (w : World) (s0 : Sl .u8 w.heap.size w a0 xs0) (f0 : U8 xs0) (s1 : Sl .u8 w.heap.size w a1 xs1) (f1 : U8 xs1) :
    Calls Try.prog 3 #[.slice a0 xs0.length c0, .slice a1 xs1.length c1] w fun e w' => e = .returned (.bool true) ∧ Below w.heap.size w w' := by
  have HL := Lib.hid (a2Long_any a0 a1 xs0.length xs1.length c0 c1 w)
  have F0 := Lib.hid f0
  have F1 := Lib.hid f1
  have S0 := Lib.hid s0
  have S1 := Lib.hid s1
  clear f0 f1 s0 s1
  by_cases hlong : 3000 < xs0.length ∨ 3000 < xs1.length
  · rw [cb_t hlong] at HL
    clear hlong
    go_enter Try.func3, Try.ntmps3
    go_wp2_with fail
    refine HL.out.mono ?_
    rintro e w' ⟨rfl, rfl⟩
    go_wp2
    go_ret
    exact ⟨rfl, Below.refl _ _⟩
  rw [cb_f hlong] at HL
  have n0 : xs0.length ≤ 1048576 := by omega
  have n1 : xs1.length ≤ 1048576 := by omega
  clear hlong
  go_enter Try.func3, Try.ntmps3
  go_wp2_with fail
  refine HL.out.mono ?_
  rintro e w' ⟨rfl, rfl⟩
  go_wp2_with fail
  refine (a2At_any _ a0 c0 xs0 0 120 w F0.out n0 S0.out (by omega) (by omega)).mono ?_
  rintro e w' ⟨rm, rfl, hrm, rfl⟩
  go_wp2_with fail
  refine (a2At_any _ a1 c1 xs1 0 2 w F1.out n1 S1.out (by omega) (by omega)).mono ?_
  rintro e w' ⟨rb, rfl, hrb, rfl⟩
  by_cases hb : rb = 1
  · subst hb
    clear hrb HL
    obtain ⟨hlc, k, D⟩ := due_ok (r := rm) hrm true
    obtain ⟨m, hm⟩ : ∃ m : Int, 1 + rm = m := ⟨_, rfl⟩
    rw [hm] at D hlc
    have hmb : 1 ≤ m ∧ m ≤ 120 := by omega
    have HLC := Lib.hid hlc
    clear hlc
    go_wp2_with fail
    refine (leastWeights_any m true w).mono ?_
    rintro e w1 ⟨v, rfl, hv, b1⟩
    rw [HLC.out]
    have hv1 := hv
    clear hv
    have HV1 := Lib.hid hv1
    clear hv1
    go_wp2_with fail
    refine (specLeastWeights_any m true w1).mono ?_
    rintro e w2 ⟨v2, rfl, ⟨hv2, a2, c2, hc2, hcl⟩, b2⟩
    rw [HLC.out]
    have B2 := b1.trans (b2.mono b1.size)
    have hv' := HV1.out.below b2 (Nat.le_refl _)
    clear HV1 b1 b2 HLC
    generalize lwV m true = ws at *
    have hpos : 0 < ws.length := by have := D.len; omega
    obtain ⟨g1, cc1, rfl, hg1, ha1⟩ := hv'.parts hpos
    obtain ⟨g2, cc2, e2, hg2, ha2⟩ := hv2.parts hpos
    clear hv' hv2
    rw [hc2] at e2
    injection e2 with e3 e4 e5
    subst e3
    subst e5
    subst hc2
    clear e4
    have hl7 : ws.length ≤ 7 := by have := D.len; have := D.k6; omega
    have HD := Lib.hid D
    have HCL := Lib.hid hcl
    clear D hcl
    go_wp2_with fail
    refine (allUpTo_any g2 0 c2 ws true w2 (by omega) hg2 ha2 HD.out.i16).mono ?_
    rintro e w3 ⟨rfl, b3⟩
    rw [HD.out.au, HD.out.cn]
    have B3 := B2.trans (b3.mono B2.size)
    replace ha1 := ha1.below b3 hg1
    replace ha2 := ha2.below b3 hg2
    replace hg1 := Nat.lt_of_lt_of_le hg1 b3.size
    replace hg2 := Nat.lt_of_lt_of_le hg2 b3.size
    clear b3 B2
    go_wp2_with fail
    refine (needlessWeight_any g2 0 c2 ws m true w3 (by omega) hg2 ha2 HD.out.i16 HCL.out).mono ?_
    rintro e w4 ⟨rfl, b4⟩
    rw [HD.out.nl]
    have B4 := B3.trans (b4.mono B3.size)
    replace ha1 := ha1.below b4 hg1
    replace ha2 := ha2.below b4 hg2
    replace hg1 := Nat.lt_of_lt_of_le hg1 b4.size
    replace hg2 := Nat.lt_of_lt_of_le hg2 b4.size
    clear b4 B3
    go_wp2_with fail
    refine (sumOfWeights_any g2 0 c2 ws w4 (by omega) ha2 HD.out.i16).mono ?_
    rintro e w5 ⟨rfl, d5⟩
    rw [HD.out.sum, HD.out.cw]
    have b5 := d5.bel
    have B5 := B4.trans (b5.mono B4.size)
    replace ha1 := ha1.below b5 hg1
    replace ha2 := ha2.below b5 hg2
    clear b5 B4 d5 hg1 hg2
    go_wp2_with fail
    refine (a2SameW_same g1 0 cc1 g2 0 c2 ws w5 (by omega) ha1 ha2).mono ?_
    rintro e w6 ⟨rfl, d6⟩
    have b6 := d6.bel
    have B6 := Lib.hid (B5.trans (b6.mono B5.size))
    clear b6 B5 d6 ha1 ha2 HCL
    go_wp2_with fail
    go_loop [19, 20] (fun p i => ∃ j : Nat, j ≤ ws.length ∧ i = .int .i64 j ∧ p = .int .i64 (3 ^ j)) (fun _ i => ws.length - (intOf i).toNat)
    case atStart => exact ⟨0, Nat.zero_le _, rfl, rfl⟩
    case round =>
      obtain ⟨j, hj, rfl, rfl⟩ := hrel
      have hpw := pow7_3 j (by omega)
      by_cases hlt : j < ws.length
      · have HPS := Lib.hid (Int.pow_succ (3 : Int) j)
        have hji : (j : Int) < (ws.length : Int) := by omega
        generalize (3 : Int) ^ j = p at *
        go_wp2
        go_round
        case rel => exact ⟨j + 1, by omega, by go_num, by rw [HPS.out]⟩
        case measure => simp [intOf]; omega
      · have hje : j = ws.length := by omega
        subst hje
        obtain ⟨q, hq1, hq2, hq3, hq4⟩ := due_pow3 HD.out
        rw [hq1] at hpw
        rw [hq1]
        have HQ1 := Lib.hid hq1
        clear hq1 hj hlt
        have hql : q ≤ 2187 := by omega
        have htd : (3 * q).tdiv 3 = q := Int.mul_tdiv_cancel_left _ (by omega)
        have hdv : decide (3 * q ≤ 2 * m) = false := by simp; omega
        have hdw : decide (2 * m < q) = false := by simp; omega
        have S0' := Lib.hid (S0.out.below B6.out)
        go_wp2_with fail
        refine (a2At_any _ a0 c0 xs0 1 256 w6 F0.out n0 S0'.out (by omega) (by omega)).mono ?_
        rintro e w' ⟨rn, rfl, hrn, rfl⟩
        obtain ⟨l, DG⟩ := dig_ok hrn
        obtain ⟨n, hnn⟩ : ∃ n : Int, 7 * rn - 900 = n := ⟨_, rfl⟩
        rw [hnn] at DG
        have hnb : -900 ≤ n ∧ n ≤ 885 := by omega
        have hnz : ¬ n = 0 := by omega
        have HG := Lib.hid DG
        have hlen := DG.len
        clear DG hq2 hq3 hq4 hql htd hdv hdw hpw HQ1 HD
        go_wp2_with fail
        refine (balancedDigits_any n w6).mono ?_
        rintro e w7 ⟨v7, rfl, hv7, b7⟩
        rw [HG.out.bc]
        rw [HG.out.bd] at hv7
        obtain ⟨gA, cA, rfl, hgA, haA⟩ := hv7.parts8 (by omega)
        have B7 := B6.out.trans (b7.mono B6.out.size)
        clear b7 hv7
        go_wp2_with fail
        refine (specBalancedDigits_any n w7).mono ?_
        rintro e w8 ⟨v8, rfl, hv8, b8⟩
        rw [HG.out.bc]
        rw [HG.out.bd] at hv8
        obtain ⟨gM, cM, rfl, hgM, haM⟩ := hv8.parts8 (by omega)
        have B8 := B7.trans (b8.mono B7.size)
        replace haA := haA.below b8 hgA
        clear b8 hv8 B7 hgA
        go_wp2_with fail
        refine (fromBalanced_any gM 0 cM l w8 (by omega) haM).mono ?_
        rintro e w9 ⟨rfl, rfl⟩
        rw [HG.out.val, HG.out.vc]
        go_wp2_with fail
        refine (a2Placed_same gA 0 cA gM 0 cM l w8 (by omega) haA haM).mono ?_
        rintro e wb ⟨rfl, d9⟩
        have b9 := d9.bel
        have B9 := B8.trans (b9.mono B8.size)
        replace haM := haM.below b9 hgM
        replace hgM := Nat.lt_of_lt_of_le hgM b9.size
        clear b9 B8 d9 haA
        obtain ⟨L, hL⟩ : ∃ L, l.length = L + 1 := ⟨l.length - 1, by omega⟩
        have hlast : ¬ l.getD L 0 = 0 := by
          have := HG.out.last
          rw [hL] at this
          rcases this with h | h
          · omega
          · exact h
        have cl := haM L (by omega)
        rw [Nat.zero_add] at cl
        have HM := Lib.hid haM
        have HGM := Lib.hid hgM
        have HB9 := Lib.hid B9
        clear haM hgM B9
        generalize hy : l.getD L 0 = y at *
        clear hy
        have hy0 : (y == 0) = false := by simpa using hlast
        clear hlast
        have hown0 : (wb.alloc (.cells #[] 39)).ownsRow wb.heap.size 39 1 (.slice (some ⟨wb.heap.size, 0, none⟩) 0 0) 0 (((l.take 0).map (- ·)).map (Value.int .i8)) := World.ownsRow_made wb #[] 0 (Nat.le_refl _) (by unfold maxLen; omega) (by simp)
        have HO0 := Lib.hid hown0
        clear hown0
        obtain ⟨i0, hi, hz0, hz1, hz2⟩ := info_parts Try.info_b8
        have HI := Lib.hid hi
        clear hi
        have hL9 : L ≤ 8 := by omega
        rw [hL]
        have HLL := Lib.hid hL
        clear hlen hL
        go_wp2_with fail
        go_loopw [28, 29] (fun v i wr => ∃ j : Nat, i = .int .i64 j ∧ j ≤ L + 1 ∧ wr.ownsRow wb.heap.size 39 1 v j (((l.take j).map (- ·)).map (Value.int .i8)) ∧ Below wb.heap.size wb wr) (fun _ i _ => L + 1 - (intOf i).toNat)
        case atStart => exact ⟨0, rfl, Nat.zero_le _, HO0.out, (Below.refl _ _).alloc (Nat.le_refl _) _⟩
        case round =>
          obtain ⟨j, rfl, hj, hown, hB⟩ := hrel
          by_cases hlt : j < L + 1
          · have cj := (HM.out.below hB HGM.out) j (by rw [HLL.out]; exact hlt)
            rw [Nat.zero_add] at cj
            have hxb := HG.out.sg j (by rw [HLL.out]; exact hlt)
            have HTN := Lib.hid (take_neg l j (by rw [HLL.out]; exact hlt))
            have hji : (j : Int) < (L : Int) + 1 := by omega
            generalize l.getD j 0 = x at *
            have hsz := hB.size
            have HBr := Lib.hid hB
            clear hB
            go_wp2_with (first
              | (at_builtin; refine wpList_append_own _ rfl _ _ 34 rfl wb.heap.size 39 i0 (.int .i8 0) 1 1 Try.underlying34 HI.out hz0 hz1 hz2 rfl (by decide) _ _ _ rfl (hown.alloc _) ⟨wr.heap.size, 0, none⟩ 1 1 [.int .i8 (-x)] rfl rfl ?c1 ?c2 ?c3 ?c4 ?c5 ?_)
              | go_in)
            case c2 => rfl
            case c3 => unfold maxLen; omega
            case c4 => omega
            case c5 => first | omega | (simp; omega)
            · intro v' w1' hown' hgrow _
              have hBa : Below wb.heap.size wr w1' := ((Below.refl wb.heap.size wr).alloc hsz _).grown hgrow (by simp; omega) (fun q hq => (hown.lt q hq).1)
              have hB1 := Lib.hid (HBr.out.trans hBa)
              have HOW := Lib.hid hown'
              clear hgrow hBa hown' hown
              go_wp2
              go_roundw
              case rel => exact ⟨j + 1, by go_num, by omega, by rw [HTN.out]; simpa using HOW.out, hB1.out⟩
              case measure => simp [intOf]; omega
          · have hjl : j = L + 1 := by omega
            subst hjl
            have hfull : l.take (L + 1) = l := by rw [← HLL.out]; exact List.take_length
            rw [hfull] at hown
            have hOV : OwnV .i8 wb.heap.size wr _ (l.map (- ·)) := OwnV.ofOwns (by rw [List.length_map, HLL.out]) hown
            obtain ⟨gO, cO, rfl, hgO, haO⟩ := hOV.parts8 (by rw [List.length_map, HLL.out]; omega)
            have BR := Lib.hid (HB9.out.trans (hB.mono HB9.out.size))
            clear hOV hown hB hfull hlt
            have HAO := Lib.hid haO
            clear haO
            have hnl : ¬ ((L : Int) + 1 < (L : Int) + 1) := by omega
            go_wp2_with fail
            refine (balancedDigits_any (-n) wr).mono ?_
            rintro e wz ⟨vz, rfl, hvz, bz⟩
            rw [HG.out.nbc]
            rw [HG.out.nbd] at hvz
            obtain ⟨gZ, cZ, rfl, hgZ, haZ⟩ := hvz.parts8 (by rw [List.length_map, HLL.out]; omega)
            have HAO2 := Lib.hid (HAO.out.below bz hgO)
            have BZ := Lib.hid (BR.out.trans (bz.mono BR.out.size))
            have HAZ := Lib.hid haZ
            clear hvz bz haZ hgO hgZ
            have HP := a2Placed_same gZ 0 cZ gO 0 cO (l.map (- ·)) wz (by rw [List.length_map, HLL.out]; omega) HAZ.out HAO2.out
            rw [List.length_map] at HP
            have HPH := Lib.hid HP
            clear HP
            go_wp2_with fail
            refine HPH.out.mono ?_
            rintro e wf ⟨rfl, df⟩
            have bf := Lib.hid (BZ.out.trans (df.bel.mono BZ.out.size))
            clear df
            go_wp2
            go_ret
            exact ⟨rfl, bf.out⟩
  · obtain rfl : rb = 0 := by omega
    clear hrb hb HL
    obtain ⟨hlc, k, D⟩ := due_ok (r := rm) hrm false
    obtain ⟨m, hm⟩ : ∃ m : Int, 1 + rm = m := ⟨_, rfl⟩
    rw [hm] at D hlc
    have hmb : 1 ≤ m ∧ m ≤ 120 := by omega
    have HLC := Lib.hid hlc
    clear hlc
    go_wp2_with fail
    refine (leastWeights_any m false w).mono ?_
    rintro e w1 ⟨v, rfl, hv, b1⟩
    rw [HLC.out]
    have hv1 := hv
    clear hv
    have HV1 := Lib.hid hv1
    clear hv1
    go_wp2_with fail
    refine (specLeastWeights_any m false w1).mono ?_
    rintro e w2 ⟨v2, rfl, ⟨hv2, a2, c2, hc2, hcl⟩, b2⟩
    rw [HLC.out]
    have B2 := b1.trans (b2.mono b1.size)
    have hv' := HV1.out.below b2 (Nat.le_refl _)
    clear HV1 b1 b2 HLC
    generalize lwV m false = ws at *
    have hpos : 0 < ws.length := by have := D.len; omega
    obtain ⟨g1, cc1, rfl, hg1, ha1⟩ := hv'.parts hpos
    obtain ⟨g2, cc2, e2, hg2, ha2⟩ := hv2.parts hpos
    clear hv' hv2
    rw [hc2] at e2
    injection e2 with e3 e4 e5
    subst e3
    subst e5
    subst hc2
    clear e4
    have hl7 : ws.length ≤ 7 := by have := D.len; have := D.k6; omega
    have HD := Lib.hid D
    have HCL := Lib.hid hcl
    clear D hcl
    go_wp2_with fail
    refine (allUpTo_any g2 0 c2 ws false w2 (by omega) hg2 ha2 HD.out.i16).mono ?_
    rintro e w3 ⟨rfl, b3⟩
    rw [HD.out.au, HD.out.cn]
    have B3 := B2.trans (b3.mono B2.size)
    replace ha1 := ha1.below b3 hg1
    replace ha2 := ha2.below b3 hg2
    replace hg1 := Nat.lt_of_lt_of_le hg1 b3.size
    replace hg2 := Nat.lt_of_lt_of_le hg2 b3.size
    clear b3 B2
    go_wp2_with fail
    refine (needlessWeight_any g2 0 c2 ws m false w3 (by omega) hg2 ha2 HD.out.i16 HCL.out).mono ?_
    rintro e w4 ⟨rfl, b4⟩
    rw [HD.out.nl]
    have B4 := B3.trans (b4.mono B3.size)
    replace ha1 := ha1.below b4 hg1
    replace ha2 := ha2.below b4 hg2
    replace hg1 := Nat.lt_of_lt_of_le hg1 b4.size
    replace hg2 := Nat.lt_of_lt_of_le hg2 b4.size
    clear b4 B3
    go_wp2_with fail
    refine (sumOfWeights_any g2 0 c2 ws w4 (by omega) ha2 HD.out.i16).mono ?_
    rintro e w5 ⟨rfl, d5⟩
    rw [HD.out.sum, HD.out.cw]
    have b5 := d5.bel
    have B5 := B4.trans (b5.mono B4.size)
    replace ha1 := ha1.below b5 hg1
    replace ha2 := ha2.below b5 hg2
    clear b5 B4 d5 hg1 hg2
    go_wp2_with fail
    refine (a2SameW_same g1 0 cc1 g2 0 c2 ws w5 (by omega) ha1 ha2).mono ?_
    rintro e w6 ⟨rfl, d6⟩
    have b6 := d6.bel
    have B6 := Lib.hid (B5.trans (b6.mono B5.size))
    clear b6 B5 d6 ha1 ha2 HCL
    go_wp2_with fail
    go_loop [19, 20] (fun p i => ∃ j : Nat, j ≤ ws.length ∧ i = .int .i64 j ∧ p = .int .i64 (2 ^ j)) (fun _ i => ws.length - (intOf i).toNat)
    case atStart => exact ⟨0, Nat.zero_le _, rfl, rfl⟩
    case round =>
      obtain ⟨j, hj, rfl, rfl⟩ := hrel
      have hpw := pow7_2 j (by omega)
      by_cases hlt : j < ws.length
      · have HPS := Lib.hid (Int.pow_succ (2 : Int) j)
        have hji : (j : Int) < (ws.length : Int) := by omega
        generalize (2 : Int) ^ j = p at *
        go_wp2
        go_round
        case rel => exact ⟨j + 1, by omega, by go_num, by rw [HPS.out]⟩
        case measure => simp [intOf]; omega
      · have hje : j = ws.length := by omega
        subst hje
        obtain ⟨q, hq1, hq2, hq3, hq4⟩ := due_pow2 HD.out
        rw [hq1] at hpw
        rw [hq1]
        have HQ1 := Lib.hid hq1
        clear hq1 hj hlt
        have hql : q ≤ 2187 := by omega
        have htd : (2 * q).tdiv 2 = q := Int.mul_tdiv_cancel_left _ (by omega)
        have hdv : decide (2 * q ≤ m) = false := by simp; omega
        have hdw : decide (m < q) = false := by simp; omega
        have S0' := Lib.hid (S0.out.below B6.out)
        go_wp2_with fail
        refine (a2At_any _ a0 c0 xs0 1 256 w6 F0.out n0 S0'.out (by omega) (by omega)).mono ?_
        rintro e w' ⟨rn, rfl, hrn, rfl⟩
        obtain ⟨l, DG⟩ := dig_ok hrn
        obtain ⟨n, hnn⟩ : ∃ n : Int, 7 * rn - 900 = n := ⟨_, rfl⟩
        rw [hnn] at DG
        have hnb : -900 ≤ n ∧ n ≤ 885 := by omega
        have hnz : ¬ n = 0 := by omega
        have HG := Lib.hid DG
        have hlen := DG.len
        clear DG hq2 hq3 hq4 hql htd hdv hdw hpw HQ1 HD
        go_wp2_with fail
        refine (balancedDigits_any n w6).mono ?_
        rintro e w7 ⟨v7, rfl, hv7, b7⟩
        rw [HG.out.bc]
        rw [HG.out.bd] at hv7
        obtain ⟨gA, cA, rfl, hgA, haA⟩ := hv7.parts8 (by omega)
        have B7 := B6.out.trans (b7.mono B6.out.size)
        clear b7 hv7
        go_wp2_with fail
        refine (specBalancedDigits_any n w7).mono ?_
        rintro e w8 ⟨v8, rfl, hv8, b8⟩
        rw [HG.out.bc]
        rw [HG.out.bd] at hv8
        obtain ⟨gM, cM, rfl, hgM, haM⟩ := hv8.parts8 (by omega)
        have B8 := B7.trans (b8.mono B7.size)
        replace haA := haA.below b8 hgA
        clear b8 hv8 B7 hgA
        go_wp2_with fail
        refine (fromBalanced_any gM 0 cM l w8 (by omega) haM).mono ?_
        rintro e w9 ⟨rfl, rfl⟩
        rw [HG.out.val, HG.out.vc]
        go_wp2_with fail
        refine (a2Placed_same gA 0 cA gM 0 cM l w8 (by omega) haA haM).mono ?_
        rintro e wb ⟨rfl, d9⟩
        have b9 := d9.bel
        have B9 := B8.trans (b9.mono B8.size)
        replace haM := haM.below b9 hgM
        replace hgM := Nat.lt_of_lt_of_le hgM b9.size
        clear b9 B8 d9 haA
        obtain ⟨L, hL⟩ : ∃ L, l.length = L + 1 := ⟨l.length - 1, by omega⟩
        have hlast : ¬ l.getD L 0 = 0 := by
          have := HG.out.last
          rw [hL] at this
          rcases this with h | h
          · omega
          · exact h
        have cl := haM L (by omega)
        rw [Nat.zero_add] at cl
        have HM := Lib.hid haM
        have HGM := Lib.hid hgM
        have HB9 := Lib.hid B9
        clear haM hgM B9
        generalize hy : l.getD L 0 = y at *
        clear hy
        have hy0 : (y == 0) = false := by simpa using hlast
        clear hlast
        have hown0 : (wb.alloc (.cells #[] 39)).ownsRow wb.heap.size 39 1 (.slice (some ⟨wb.heap.size, 0, none⟩) 0 0) 0 (((l.take 0).map (- ·)).map (Value.int .i8)) := World.ownsRow_made wb #[] 0 (Nat.le_refl _) (by unfold maxLen; omega) (by simp)
        have HO0 := Lib.hid hown0
        clear hown0
        obtain ⟨i0, hi, hz0, hz1, hz2⟩ := info_parts Try.info_b8
        have HI := Lib.hid hi
        clear hi
        have hL9 : L ≤ 8 := by omega
        rw [hL]
        have HLL := Lib.hid hL
        clear hlen hL
        go_wp2_with fail
        go_loopw [28, 29] (fun v i wr => ∃ j : Nat, i = .int .i64 j ∧ j ≤ L + 1 ∧ wr.ownsRow wb.heap.size 39 1 v j (((l.take j).map (- ·)).map (Value.int .i8)) ∧ Below wb.heap.size wb wr) (fun _ i _ => L + 1 - (intOf i).toNat)
        case atStart => exact ⟨0, rfl, Nat.zero_le _, HO0.out, (Below.refl _ _).alloc (Nat.le_refl _) _⟩
        case round =>
          obtain ⟨j, rfl, hj, hown, hB⟩ := hrel
          by_cases hlt : j < L + 1
          · have cj := (HM.out.below hB HGM.out) j (by rw [HLL.out]; exact hlt)
            rw [Nat.zero_add] at cj
            have hxb := HG.out.sg j (by rw [HLL.out]; exact hlt)
            have HTN := Lib.hid (take_neg l j (by rw [HLL.out]; exact hlt))
            have hji : (j : Int) < (L : Int) + 1 := by omega
            generalize l.getD j 0 = x at *
            have hsz := hB.size
            have HBr := Lib.hid hB
            clear hB
            go_wp2_with (first
              | (at_builtin; refine wpList_append_own _ rfl _ _ 34 rfl wb.heap.size 39 i0 (.int .i8 0) 1 1 Try.underlying34 HI.out hz0 hz1 hz2 rfl (by decide) _ _ _ rfl (hown.alloc _) ⟨wr.heap.size, 0, none⟩ 1 1 [.int .i8 (-x)] rfl rfl ?d1 ?d2 ?d3 ?d4 ?d5 ?_)
              | go_in)
            case d2 => rfl
            case d3 => unfold maxLen; omega
            case d4 => omega
            case d5 => first | omega | (simp; omega)
            · intro v' w1' hown' hgrow _
              have hBa : Below wb.heap.size wr w1' := ((Below.refl wb.heap.size wr).alloc hsz _).grown hgrow (by simp; omega) (fun q hq => (hown.lt q hq).1)
              have hB1 := Lib.hid (HBr.out.trans hBa)
              have HOW := Lib.hid hown'
              clear hgrow hBa hown' hown
              go_wp2
              go_roundw
              case rel => exact ⟨j + 1, by go_num, by omega, by rw [HTN.out]; simpa using HOW.out, hB1.out⟩
              case measure => simp [intOf]; omega
          · have hjl : j = L + 1 := by omega
            subst hjl
            have hfull : l.take (L + 1) = l := by rw [← HLL.out]; exact List.take_length
            rw [hfull] at hown
            have hOV : OwnV .i8 wb.heap.size wr _ (l.map (- ·)) := OwnV.ofOwns (by rw [List.length_map, HLL.out]) hown
            obtain ⟨gO, cO, rfl, hgO, haO⟩ := hOV.parts8 (by rw [List.length_map, HLL.out]; omega)
            have BR := Lib.hid (HB9.out.trans (hB.mono HB9.out.size))
            clear hOV hown hB hfull hlt
            have HAO := Lib.hid haO
            clear haO
            have hnl : ¬ ((L : Int) + 1 < (L : Int) + 1) := by omega
            go_wp2_with fail
            refine (balancedDigits_any (-n) wr).mono ?_
            rintro e wz ⟨vz, rfl, hvz, bz⟩
            rw [HG.out.nbc]
            rw [HG.out.nbd] at hvz
            obtain ⟨gZ, cZ, rfl, hgZ, haZ⟩ := hvz.parts8 (by rw [List.length_map, HLL.out]; omega)
            have HAO2 := Lib.hid (HAO.out.below bz hgO)
            have BZ := Lib.hid (BR.out.trans (bz.mono BR.out.size))
            have HAZ := Lib.hid haZ
            clear hvz bz haZ hgO hgZ
            have HP := a2Placed_same gZ 0 cZ gO 0 cO (l.map (- ·)) wz (by rw [List.length_map, HLL.out]; omega) HAZ.out HAO2.out
            rw [List.length_map] at HP
            have HPH := Lib.hid HP
            clear HP
            go_wp2_with fail
            refine HPH.out.mono ?_
            rintro e wf ⟨rfl, df⟩
            have bf := Lib.hid (BZ.out.trans (df.bel.mono BZ.out.size))
            clear df
            go_wp2
            go_ret
            exact ⟨rfl, bf.out⟩
end Go.Proofs.Ythbanajodohbbaa
