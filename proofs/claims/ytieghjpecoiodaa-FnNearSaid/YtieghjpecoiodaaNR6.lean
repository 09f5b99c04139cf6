/-
  The walk of the law FnNear.
-/
import Derived.Test.YtieghjpecoiodaaNR5
namespace Go.Proofs.Ytieghjpecoiodaa
open Go.RowKit
set_option maxRecDepth 100000
set_option linter.unusedVariables false

theorem okX_of {l k : Int} {ws : List Wf} (h : OkX l k ws) : okX l k ws = true := cb_t h
theorem slU {w W : World} {a : Option Addr} {xs : List Int} (hb : Below w.heap.size w W) (h : Sl .u8 w.heap.size w a xs) : Sl .u8 W.heap.size W a xs := by
  rcases h with h | ⟨b, off, e, h1, h2⟩
  · exact .inl h
  · exact .inr ⟨b, off, e, Nat.lt_of_lt_of_le h1 hb.size, h2.below hb h1⟩
theorem u8_of {xs : List Int} (h : ∀ n ∈ xs, (Lit.int .u8 n).wf = true) : U8 xs := by
  intro j hj
  have := h _ (List.getElem_mem hj)
  have e : xs.getD j 0 = xs[j] := by rw [List.getD_eq_getElem?_getD, List.getElem?_eq_getElem hj]; rfl
  rw [e]
  simp only [Lit.wf, Bool.and_eq_true, decide_eq_true_eq] at this
  exact ⟨this.1, this.2⟩
theorem info_u8 : (Try.prog.info? 5).map (fun i => (i.zero, i.size, i.bytes)) = some (some (.int .u8 0), 1, 1) := by kernel_rfl
set_option maxHeartbeats 16000000 in
theorem walk_FnNear (a0 : Option Addr) (c0 : Nat) (xs0 : List Int) (a1 : Option Addr) (c1 : Nat) (xs1 : List Int) (w : World) (s0 : Sl .u8 w.heap.size w a0 xs0) (f0 : U8 xs0) (s1 : Sl .u8 w.heap.size w a1 xs1) (f1 : U8 xs1) :
    Calls Try.prog 3 #[.slice a0 xs0.length c0, .slice a1 xs1.length c1] w fun e w' => e = .returned (.bool true) ∧ Below w.heap.size w w' := by
  have HB0 := Lib.hid (fun W => f6big_any a0 xs0.length c0 W)
  have HB1 := Lib.hid (fun W => f6big_any a1 xs1.length c1 W)
  have F0 := Lib.hid f0
  have F1 := Lib.hid f1
  have S0 := Lib.hid s0
  have S1 := Lib.hid s1
  clear f0 f1 s0 s1
  by_cases hl0 : (4096 : Int) < (xs0.length : Int)
  · rw [decide_eq_true hl0] at HB0
    clear hl0
    go_enter Try.func3, Try.ntmps3
    go_wp2_with fail
    refine (HB0.out _).mono ?_
    rintro e w' ⟨rfl, rfl⟩
    go_wp2
    go_ret
    exact ⟨rfl, Below.refl _ _⟩
  rw [decide_eq_false hl0] at HB0
  by_cases hl1 : (4096 : Int) < (xs1.length : Int)
  · rw [decide_eq_true hl1] at HB1
    clear hl0 hl1
    go_enter Try.func3, Try.ntmps3
    go_wp2_with fail
    refine (HB0.out _).mono ?_
    rintro e w' ⟨rfl, rfl⟩
    go_wp2_with fail
    refine (HB1.out _).mono ?_
    rintro e w' ⟨rfl, rfl⟩
    go_wp2
    go_ret
    exact ⟨rfl, Below.refl _ _⟩
  rw [decide_eq_false hl1] at HB1
  have n0 : xs0.length ≤ 4096 := by omega
  have n1 : xs1.length ≤ 4096 := by omega
  clear hl0 hl1
  go_enter Try.func3, Try.ntmps3
  go_wp2_with fail
  refine (HB0.out _).mono ?_
  rintro e w' ⟨rfl, rfl⟩
  go_wp2_with fail
  refine (HB1.out _).mono ?_
  rintro e w' ⟨rfl, rfl⟩
  clear HB0 HB1
  go_wp2_with fail
  refine (P6Fixed_any a0 c0 xs0 w F0.out (by omega) S0.out).mono ?_
  rintro e w1 ⟨l, k, ws, g, cp, rfl, hok, h12, hg1, hg2, hat, hb1⟩
  have HX := Lib.hid hok
  have HW := Lib.hid (okX_wall hok)
  have hl4 := hok.1
  have hk2 := hok.2.1
  have hn1 := hok.2.2.1.1
  have hl8 : B8 l := by unfold B8; omega
  have hk8 : B8 k := by unfold B8; omega
  have A1 := (((FR.start w).next hb1).box #[.int .i8 l, .int .i8 k, .slice (some ⟨g, 0, none⟩) ws.length cp] 27).box #[.int .i8 (ws.length : Int), .int .i8 k, .bool true, .bool false] 30
  simp only [World.size_alloc] at A1
  have hAt2 := hat.below (((Below.refl w1.heap.size w1).alloc (Nat.le_refl _) (.cells #[.int .i8 l, .int .i8 k, .slice (some ⟨g, 0, none⟩) ws.length cp] 27)).alloc (by rw [World.size_alloc]; omega) (.cells #[.int .i8 (ws.length : Int), .int .i8 k, .bool true, .bool false] 30)) hg2
  clear hok hat hb1 F0 S0
  obtain ⟨t_0, t_1, t_2, t_3, -⟩ := (A1.blk _ List.mem_cons_self).four
  have hnz : (1 : Int) ≤ (ws.length : Int) ∧ (ws.length : Int) ≤ 12 := by omega
  go_wp2_with fail
  have hg3 : g < ((w1.alloc (.cells #[.int .i8 l, .int .i8 k, .slice (some ⟨g, 0, none⟩) ws.length cp] 27)).alloc (.cells #[.int .i8 (ws.length : Int), .int .i8 k, .bool true, .bool false] 30)).heap.size := by rw [World.size_alloc, World.size_alloc]; omega
  refine (specCasesOf_near ws.length k _ (by omega) hk2).mono ?_
  rintro e w3 ⟨g2, c2, rfl, -, hgc, hcat, hb3⟩
  have A3 := A1.next hb3
  have hAt3 := hAt2.below hb3 hg3
  have hg4 : g < w3.heap.size := Nat.lt_of_lt_of_le hg3 hb3.size
  clear t_0 t_1 t_2 t_3 A1 hAt2 hg3 hb3
  generalize w1.heap.size = fb at *
  obtain ⟨f_0, f_1, f_2, f_3⟩ := (A3.blk _ (List.mem_cons_of_mem _ List.mem_cons_self)).three
  have HOKX := Lib.hid (okX_of HX.out)
  have HL := Lib.hid (ls_t HOKX.out)
  have hLL : 2 ≤ (upC k true ws.length).length ∧ (upC k true ws.length).length ≤ 100 := ⟨upC_two (by omega) hk2, by have := upC_len k true ws.length; omega⟩
  generalize hLe : upC k true ws.length = L at *
  have HLE := Lib.hid hLe
  clear hLe
  have HLD := Lib.hid (fun W (h : Slw W.heap.size W (some ⟨g, 0, none⟩) ws) => leastDistance_any l k (some ⟨g, 0, none⟩) cp ws W h hl8 hk8 (by omega) HW.out)
  have HSD := Lib.hid (fun W (h : Slw W.heap.size W (some ⟨g, 0, none⟩) ws) => specLeastDistance_any l k (some ⟨g, 0, none⟩) cp ws W h hl8 hk8 (by omega) HW.out)
  rw [HL.out.2] at HLD HSD
  obtain ⟨due, hdue⟩ : ∃ d, lsD l k ws = d := ⟨_, rfl⟩
  rw [hdue] at HLD HSD
  have HDUE := Lib.hid (hdue.symm.trans HL.out.1)
  clear hdue HL
  go_wp2_with fail
  refine (HLD.out w3 (.inr ⟨g, 0, rfl, hg4, hAt3⟩)).mono ?_
  rintro e w4 ⟨rfl, hb4⟩
  have A4 := A3.next hb4
  have hAt4 := hAt3.below hb4 hg4
  have hcat4 := hcat.below hb4 hgc
  have hg5 := Nat.lt_of_lt_of_le hg4 hb4.size
  have hgc4 := Nat.lt_of_lt_of_le hgc hb4.size
  clear f_0 f_1 f_2 f_3 A3 hAt3 hcat hg4 hgc hb4 HLD
  obtain ⟨f_0, f_1, f_2, f_3⟩ := (A4.blk _ (List.mem_cons_of_mem _ List.mem_cons_self)).three
  go_wp2_with fail
  refine (HSD.out w4 (.inr ⟨g, 0, rfl, hg5, hAt4⟩)).mono ?_
  rintro e w5 ⟨rfl, hb5⟩
  have A5 := A4.next hb5
  have hAt5 := hAt4.below hb5 hg5
  have hcat5 := hcat4.below hb5 hgc4
  have hg6 := Nat.lt_of_lt_of_le hg5 hb5.size
  have hgc5 := Nat.lt_of_lt_of_le hgc4 hb5.size
  clear f_0 f_1 f_2 f_3 A4 hAt4 hcat4 hg5 hgc4 hb5 HSD
  have hLz : (2 : Int) ≤ (L.length : Int) ∧ (L.length : Int) ≤ 100 := by omega
  go_wp2_with fail
  refine (P6Pick_any (L.length : Int) a1 c1 xs1 w5 (by omega) F1.out (by omega) (slU A5.below S1.out)).mono ?_
  rintro e w6 ⟨r, rfl, hr, hb6⟩
  obtain ⟨rn, rfl⟩ : ∃ rn : Nat, r = (rn : Int) := ⟨r.toNat, by omega⟩
  have hrn : rn < L.length := by omega
  have A6 := A5.next hb6
  have hAt6 := hAt5.below hb6 hg6
  have hg7 := Nat.lt_of_lt_of_le hg6 hb6.size
  obtain ⟨k_0, k_1⟩ := hcat5.below hb6 hgc5 rn hrn
  rw [Nat.zero_add] at k_0 k_1
  have HQ := Lib.hid (getD_mem_cs L rn hrn)
  obtain ⟨q, hq⟩ : ∃ q, L.getD rn (0, false) = q := ⟨_, rfl⟩
  rw [hq] at k_0 k_1 HQ
  clear hq A5 hAt5 hcat5 hg6 hgc5 hb6
  obtain ⟨f_0, f_1, f_2, f_3⟩ := (A6.blk _ (List.mem_cons_of_mem _ List.mem_cons_self)).three
  have hfl6 := (A6.blk _ (List.mem_cons_of_mem _ List.mem_cons_self)).lt
  dsimp only at hfl6
  have HQL := Lib.hid (show q ∈ upC k true ws.length from by rw [HLE.out]; exact HQ.out)
  have HSO := Lib.hid (so_t HOKX.out HQL.out)
  have HSN := Lib.hid (fun W (h : Slw W.heap.size W (some ⟨g, 0, none⟩) ws) => specSeenOf_any l k (some ⟨g, 0, none⟩) cp ws q.1 q.2 W h hl8 hk8 (by omega) HW.out (case_b8 h12 HQL.out))
  rw [HSO.out.1, HSO.out.2] at HSN
  clear HSO
  have HFY := Lib.hid (seen_fit HX.out HQL.out)
  obtain ⟨y, hy⟩ : ∃ y, seenV ws q = y := ⟨_, rfl⟩
  rw [hy] at HSN HFY
  have HY := Lib.hid hy
  clear hy
  have A7 := A6.box #[.int .i8 q.1, .bool q.2] 37
  have hAt7 := hAt6.below ((Below.refl _ _).alloc (Nat.le_refl _) (.cells #[.int .i8 q.1, .bool q.2] 37)) hg7
  have hg8 : g < (w6.alloc (.cells #[.int .i8 q.1, .bool q.2] 37)).heap.size := by rw [World.size_alloc]; omega
  have hcb : fb + 1 < w6.heap.size := (A6.blk _ List.mem_cons_self).lt
  clear A6 hAt6
  go_wp2_with fail
  refine (HSN.out _ (.inr ⟨g, 0, rfl, hg8, hAt7⟩)).mono ?_
  rintro e w8 ⟨rfl, hb8⟩
  have A8 := (A7.next hb8).box (wordC y) 40
  have A9 := A8.box (wordC y) 40
  have hAt8 := hAt7.below hb8 hg8
  have hg9 := Nat.lt_of_lt_of_le hg8 hb8.size
  have hAt9 := hAt8.below (((Below.refl w8.heap.size w8).alloc (Nat.le_refl _) (.cells (wordC y) 40)).alloc (by rw [World.size_alloc]; omega) (.cells (wordC y) 40)) hg9
  have hsb : w6.heap.size < w8.heap.size := by have := hb8.size; rw [World.size_alloc] at this; omega
  rw [World.size_alloc] at A9
  have Q0 : NrQ w l k g cp ws fb w6.heap.size w8.heap.size (w8.heap.size + 1) q y y _ := ⟨A9.blk _ (List.mem_cons_of_mem _ (List.mem_cons_of_mem _ (List.mem_cons_of_mem _ (List.mem_cons_of_mem _ List.mem_cons_self)))), A9.blk _ (List.mem_cons_of_mem _ (List.mem_cons_of_mem _ List.mem_cons_self)), A9.blk _ (List.mem_cons_of_mem _ List.mem_cons_self), A9.blk _ List.mem_cons_self, hAt9, by omega, A9.below⟩
  have HQ0 := Lib.hid Q0
  clear f_0 f_1 f_2 f_3 k_0 k_1 hfl6 A7 A8 A9 Q0 hAt7 hAt8 hAt9 hg7 hg8 hg9 hb8 HSN hrn hr hLz hLL
  go_upto_region 17 with fail
  generalize w6.heap.size = cb at *
  obtain ⟨W9, hW9⟩ : ∃ W9, (w8.alloc (.cells (wordC y) 40)).alloc (.cells (wordC y) 40) = W9 := ⟨_, rfl⟩
  rw [hW9] at HQ0
  have hW9' := hW9
  simp only [wordC] at hW9'
  rw [hW9']
  clear hW9 hW9'
  generalize w8.heap.size = sb at *
  generalize sb + 1 = wb at *
  obtain ⟨i0, hi, hz0, hz1, hz2⟩ := info_parts info_u8
  go_loopw [17, 18] (fun cv iv wr => ∃ (i : Nat) (x : Nat → Int), cv = .int .i64 (dist x y i) ∧ iv = .int .i64 (i : Int) ∧ (i : Int) ≤ l ∧ OkD l x ∧ (∀ j, i ≤ j → j < 4 → x j = y j) ∧ NrQ w l k g cp ws fb cb sb wb q y x wr) (fun _ iv _ => 5 - (intOf iv).toNat)
  case atStart => exact ⟨0, y, rfl, rfl, by omega, HFY.out, (fun j _ _ => rfl), HQ0.out⟩
  case round =>
    clear HQ0
    obtain ⟨i, x, rfl, rfl, hil, hfx, hsm, T⟩ := hrel
    have hdn := dist_nn x y i
    obtain ⟨f_0, f_1, f_2, f_3⟩ := T.F.three
    by_cases h1 : (i : Int) < l
    case neg =>
      have hiL : (i : Int) = l := by omega
      have hdx4 := dist_stop x y i 4 (by omega) (fun j h1 h2 => hsm j h1 h2)
      obtain ⟨dn, hdx⟩ : ∃ dn, dist x y i = dn := ⟨_, rfl⟩
      rw [hdx] at hdn hdx4 ⊢
      have hdn4 : 0 ≤ dn ∧ dn ≤ 4 := by omega
      have HDI := Lib.hid (fun W (h : Slw W.heap.size W (some ⟨g, 0, none⟩) ws) => decodeNear_any l k (some ⟨g, 0, none⟩) cp ws x dn W h hl8 hk8 (by omega) HW.out (okD_w4 hfx))
      have HDS := Lib.hid (fun W (h : Slw W.heap.size W (some ⟨g, 0, none⟩) ws) => specDecodeNear_any l k (some ⟨g, 0, none⟩) cp ws x dn W h hl8 hk8 (by omega) HW.out (okD_w4 hfx))
      have HD0 := Lib.hid (fun W (h : Slw W.heap.size W (some ⟨g, 0, none⟩) ws) => decodeNear_any l k (some ⟨g, 0, none⟩) cp ws y 0 W h hl8 hk8 (by omega) HW.out (okD_w4 HFY.out))
      rw [(dq_in HOKX.out (cb_t hfx) hdn4).1, (dq_in HOKX.out (cb_t hfx) hdn4).2] at HDI HDS
      rw [(dq_in HOKX.out (cb_t HFY.out) (show (0 : Int) ≤ 0 ∧ (0 : Int) ≤ 4 by omega)).1, (dq_in HOKX.out (cb_t HFY.out) (show (0 : Int) ≤ 0 ∧ (0 : Int) ≤ 4 by omega)).2] at HD0
      have HN := near_all (x := x) (wr := dn) (upC_nodup k ws.length) HQL.out (by rw [HY.out]; exact hdx4)
      have HN0 := Lib.hid (near_all (x := y) (wr := 0) (upC_nodup k ws.length) HQL.out (by rw [HY.out]; exact dist_stop y y 0 4 (by omega) (fun _ _ _ => rfl)))
      obtain ⟨x_0, x_1, x_2, x_3, x_4⟩ := T.X.four
      have hE := fun W => eqCs q.1 q.2 q.1 q.2 W
      have hE0 := fun W => eqCs 0 false 0 false W
      clear hsm hdx hdx4 hiL hfx hil hdn
      rcases HN with ⟨eC, eV⟩ | ⟨eC, eV, hd2⟩
      · rw [eC, eV] at HDI HDS
        clear eC eV
        by_cases hdd : 2 * dn < due
        · go_wp2_with fail
          refine (HDI.out wr (.inr ⟨g, 0, rfl, T.gl, T.words⟩)).mono ?_
          rintro e w20 ⟨rfl, hb20⟩
          have T20 := T.next hb20
          clear f_0 f_1 f_2 f_3 x_0 x_1 x_2 x_3 x_4 T hb20
          obtain ⟨f_0, f_1, f_2, f_3⟩ := T20.F.three
          obtain ⟨x_0, x_1, x_2, x_3, x_4⟩ := T20.X.four
          have hfl := T20.F.lt
          have hwl := T20.X.lt
          have T21 := T20.next ((Below.refl _ _).alloc (Nat.le_refl _) (.cells #[.int .i8 q.1, .bool q.2] 37))
          have B21 := blk_new w20 #[.int .i8 q.1, .bool q.2] 37
          go_wp2_with fail
          refine (HDS.out _ (.inr ⟨g, 0, rfl, T21.gl, T21.words⟩)).mono ?_
          rintro e w22 ⟨rfl, hb22⟩
          have B22 := Blk.below B21 hb22 B21.lt
          have T22 := T21.next hb22
          clear f_0 f_1 f_2 f_3 x_0 x_1 x_2 x_3 x_4 T20 T21 B21 hb22 hfl hwl
          generalize w20.heap.size = db at *
          obtain ⟨f_0, f_1, f_2, f_3⟩ := T22.F.three
          obtain ⟨q_0, q_1, q_2⟩ := T22.C.two
          obtain ⟨x_0, x_1, x_2, x_3, x_4⟩ := T22.S.four
          obtain ⟨d_0, d_1, d_2⟩ := B22.two
          have hfl := T22.F.lt
          have hcl := T22.C.lt
          have hsl := T22.S.lt
          have hdl := B22.lt
          have T23 := T22.next ((Below.refl _ _).alloc (Nat.le_refl _) (.cells #[.int .i8 q.1, .bool q.2] 37))
          clear T22 B22
          rcases HN0.out with ⟨eC, eV⟩ | ⟨eC, eV, hd0⟩
          · rw [eC, eV] at HD0
            clear eC eV
            go_wp2_with fail
            refine (HD0.out _ (.inr ⟨g, 0, rfl, T23.gl, T23.words⟩)).mono ?_
            rintro e w24 ⟨rfl, hb24⟩
            have T24 := T23.next hb24
            clear f_0 f_1 f_2 f_3 q_0 q_1 q_2 x_0 x_1 x_2 x_3 x_4 d_0 d_1 d_2 hfl hcl hsl hdl T23 hb24
            obtain ⟨q_0, q_1, q_2⟩ := T24.C.two
            have hcl := T24.C.lt
            have HB := Lib.hid (T24.bel.alloc T24.bel.size (.cells #[.int .i8 q.1, .bool q.2] 37))
            clear T24
            go_wp2
            go_ret
            exact ⟨by simp, HB.out⟩

          · rw [eC, eV] at HD0
            clear eC eV
            have hdz : due = 0 := by have := ldJ_nn ws (upC k true ws.length) 4 (upC k true ws.length).length (by omega); rw [HLE.out] at this hd0; have := HDUE.out; omega
            exact absurd hdd (by omega)

        · go_wp2_with fail
          refine (HDI.out wr (.inr ⟨g, 0, rfl, T.gl, T.words⟩)).mono ?_
          rintro e w20 ⟨rfl, hb20⟩
          have T20 := T.next hb20
          clear f_0 f_1 f_2 f_3 x_0 x_1 x_2 x_3 x_4 T hb20
          obtain ⟨f_0, f_1, f_2, f_3⟩ := T20.F.three
          obtain ⟨x_0, x_1, x_2, x_3, x_4⟩ := T20.X.four
          have hfl := T20.F.lt
          have hwl := T20.X.lt
          have T21 := T20.next ((Below.refl _ _).alloc (Nat.le_refl _) (.cells #[.int .i8 q.1, .bool q.2] 37))
          have B21 := blk_new w20 #[.int .i8 q.1, .bool q.2] 37
          go_wp2_with fail
          refine (HDS.out _ (.inr ⟨g, 0, rfl, T21.gl, T21.words⟩)).mono ?_
          rintro e w22 ⟨rfl, hb22⟩
          have B22 := Blk.below B21 hb22 B21.lt
          have T22 := T21.next hb22
          clear f_0 f_1 f_2 f_3 x_0 x_1 x_2 x_3 x_4 T20 T21 B21 hb22 hfl hwl
          generalize w20.heap.size = db at *
          obtain ⟨f_0, f_1, f_2, f_3⟩ := T22.F.three
          obtain ⟨q_0, q_1, q_2⟩ := T22.C.two
          obtain ⟨x_0, x_1, x_2, x_3, x_4⟩ := T22.S.four
          obtain ⟨d_0, d_1, d_2⟩ := B22.two
          have hfl := T22.F.lt
          have hcl := T22.C.lt
          have hsl := T22.S.lt
          have hdl := B22.lt
          have T23 := T22.next ((Below.refl _ _).alloc (Nat.le_refl _) (.cells #[.int .i8 q.1, .bool q.2] 37))
          clear T22 B22
          rcases HN0.out with ⟨eC, eV⟩ | ⟨eC, eV, hd0⟩
          · rw [eC, eV] at HD0
            clear eC eV
            go_wp2_with fail
            refine (HD0.out _ (.inr ⟨g, 0, rfl, T23.gl, T23.words⟩)).mono ?_
            rintro e w24 ⟨rfl, hb24⟩
            have T24 := T23.next hb24
            clear f_0 f_1 f_2 f_3 q_0 q_1 q_2 x_0 x_1 x_2 x_3 x_4 d_0 d_1 d_2 hfl hcl hsl hdl T23 hb24
            obtain ⟨q_0, q_1, q_2⟩ := T24.C.two
            have hcl := T24.C.lt
            have HB := Lib.hid (T24.bel.alloc T24.bel.size (.cells #[.int .i8 q.1, .bool q.2] 37))
            clear T24
            go_wp2
            go_ret
            exact ⟨by simp, HB.out⟩

          · rw [eC, eV] at HD0
            clear eC eV
            have hdz : due = 0 := by have := ldJ_nn ws (upC k true ws.length) 4 (upC k true ws.length).length (by omega); rw [HLE.out] at this hd0; have := HDUE.out; omega
            subst hdz
            go_wp2_with fail
            refine (HD0.out _ (.inr ⟨g, 0, rfl, T23.gl, T23.words⟩)).mono ?_
            rintro e w24 ⟨rfl, hb24⟩
            have T24 := T23.next hb24
            clear f_0 f_1 f_2 f_3 q_0 q_1 q_2 x_0 x_1 x_2 x_3 x_4 d_0 d_1 d_2 hfl hcl hsl hdl T23 hb24
            obtain ⟨q_0, q_1, q_2⟩ := T24.C.two
            have hcl := T24.C.lt
            have HB := Lib.hid (T24.bel.alloc T24.bel.size (.cells #[.int .i8 0, .bool false] 37))
            clear T24
            go_wp2
            go_ret
            exact ⟨by simp, HB.out⟩

      · rw [eC, eV] at HDI HDS
        have hdd : ¬ 2 * dn < due := by rw [HLE.out] at hd2; have := HDUE.out; omega
        clear eC eV hd2
        go_wp2_with fail
        refine (HDI.out wr (.inr ⟨g, 0, rfl, T.gl, T.words⟩)).mono ?_
        rintro e w20 ⟨rfl, hb20⟩
        have T20 := T.next hb20
        clear f_0 f_1 f_2 f_3 x_0 x_1 x_2 x_3 x_4 T hb20
        obtain ⟨f_0, f_1, f_2, f_3⟩ := T20.F.three
        obtain ⟨x_0, x_1, x_2, x_3, x_4⟩ := T20.X.four
        have hfl := T20.F.lt
        have hwl := T20.X.lt
        have T21 := T20.next ((Below.refl _ _).alloc (Nat.le_refl _) (.cells #[.int .i8 0, .bool false] 37))
        have B21 := blk_new w20 #[.int .i8 0, .bool false] 37
        go_wp2_with fail
        refine (HDS.out _ (.inr ⟨g, 0, rfl, T21.gl, T21.words⟩)).mono ?_
        rintro e w22 ⟨rfl, hb22⟩
        have B22 := Blk.below B21 hb22 B21.lt
        have T22 := T21.next hb22
        clear f_0 f_1 f_2 f_3 x_0 x_1 x_2 x_3 x_4 T20 T21 B21 hb22 hfl hwl
        generalize w20.heap.size = db at *
        obtain ⟨f_0, f_1, f_2, f_3⟩ := T22.F.three
        obtain ⟨q_0, q_1, q_2⟩ := T22.C.two
        obtain ⟨x_0, x_1, x_2, x_3, x_4⟩ := T22.S.four
        obtain ⟨d_0, d_1, d_2⟩ := B22.two
        have hfl := T22.F.lt
        have hcl := T22.C.lt
        have hsl := T22.S.lt
        have hdl := B22.lt

        have HB := Lib.hid (T22.bel.alloc T22.bel.size (.cells #[.int .i8 0, .bool false] 37))
        clear T22 B22
        go_wp2
        go_ret
        exact ⟨rfl, HB.out⟩
    have hi4 : i < 4 := by omega
    have hiz : (i : Int) < 4 := by omega
    have HFX0 := Lib.hid hfx
    have HSM0 := Lib.hid hsm
    obtain ⟨dn, hdx⟩ : ∃ dn, dist x y i = dn := ⟨_, rfl⟩
    rw [hdx] at hdn ⊢
    have HDX0 := Lib.hid hdx
    clear hfx hsm hdx
    have HT := Lib.hid T
    have HSRC := Lib.hid (show ∀ W, Below w.heap.size w W → (xs1 = [] ∨ ∃ b off, a1 = some ⟨b, off, none⟩ ∧ At .u8 W b off xs1) from fun W hb => by
      rcases S1.out with h | ⟨b, off, e, h1, h2⟩
      · exact .inl h
      · exact .inr ⟨b, off, e, h2.below hb h1⟩)
    have HSB := T.bel
    have HU8 := Lib.hid (show ∀ v : Int, 0 ≤ v ∧ v ≤ 255 → U8 (v :: xs1) from fun v hv j hj => by
      cases j with
      | zero => exact hv
      | succ j => exact F1.out j (by simpa using hj))
    clear T
    go_wp2_with (at_builtin; refine wpList_append_bytes rfl _ _ 22 rfl wr.heap.size 5 i0 (by kernel_rfl) hi hz0 hz1 hz2 (.slice (some ⟨wr.heap.size, 0, none⟩) 1 1) (i : Int) rfl (World.ownsRow_lit wr #[.int .u8 (i : Int)] 1 (Nat.le_refl _) (by unfold maxLen; omega) rfl) a1 c1 xs1 rfl (HSRC.out _ (HSB.alloc HSB.size _)) (by omega) (by rw [World.size_alloc]; omega) ?_)
    intro ga ca w10 hsl10 hb10
    have T10 := HT.out.next (((Below.refl _ _).alloc (Nat.le_refl _) _).trans hb10)
    have hSL10 := Lib.hid hsl10
    clear f_0 f_1 f_2 f_3 hsl10 HSB
    go_wp2_with fail
    refine (P6Pick_any 4 (some ⟨ga, 0, none⟩) ca ((i : Int) :: xs1) w10 (by omega) (HU8.out _ (by omega)) (by simp; omega) hSL10.out).mono ?_
    rintro e w11 ⟨r, rfl, hr, hb11⟩
    have T11 := T10.next hb11
    clear T10 hb10 hb11 hSL10
    by_cases hr0 : r = 0
    · subst hr0
      have hi7 : (0 : Int) ≤ (i : Int) + 7 ∧ (i : Int) + 7 ≤ 255 := by omega
      clear hr
      go_wp2_with (at_builtin; refine wpList_append_bytes rfl _ _ 22 rfl w11.heap.size 5 i0 (by kernel_rfl) hi hz0 hz1 hz2 (.slice (some ⟨w11.heap.size, 0, none⟩) 1 1) ((i : Int) + 7) rfl (World.ownsRow_lit w11 #[.int .u8 ((i : Int) + 7)] 1 (Nat.le_refl _) (by unfold maxLen; omega) rfl) a1 c1 xs1 rfl (HSRC.out _ (T11.bel.alloc T11.bel.size _)) (by omega) (by rw [World.size_alloc]; omega) ?_)
      intro ga2 ca2 w12 hsl12 hb12
      have T12 := T11.next (((Below.refl _ _).alloc (Nat.le_refl _) _).trans hb12)
      have hSL12 := Lib.hid hsl12
      clear hsl12 T11
      go_wp2_with fail
      refine (P6Pick_any 3 (some ⟨ga2, 0, none⟩) ca2 (((i : Int) + 7) :: xs1) w12 (by omega) (HU8.out _ hi7) (by simp; omega) hSL12.out).mono ?_
      rintro e w13 ⟨r2, rfl, hr2, hb13⟩
      have T13 := T12.next hb13
      have hr3 : -1 ≤ r2 - 1 ∧ r2 - 1 ≤ 1 := by omega
      have xi13 := Blk.word T13.X i hi4
      obtain ⟨-, -, -, -, xf13⟩ := T13.X.four
      have T14 := T13.put i (r2 - 1) hi4
      have HFX := Lib.hid (putL_fit HFX0.out h1 hr3)
      have HSM := Lib.hid (show ∀ j, i + 1 ≤ j → j < 4 → putL x i (r2 - 1) j = y j from fun j h1 h2 => by rw [putL_other _ _ (by omega)]; exact HSM0.out j (by omega) h2)
      have HDX := Lib.hid (show dist (putL x i (r2 - 1)) y i = dn from by rw [dist_congr (fun j hj => putL_other x _ (by omega))]; exact HDX0.out)
      have HT14 := Lib.hid T14
      clear T12 T13 hb12 hb13 hSL12 hi7 T14
      go_upto_region 21 with fail
      have T14 := HT14.out
      generalize putL x i (r2 - 1) = x' at *
      obtain ⟨W14, hW14⟩ : ∃ W14, w13.setCell ⟨wb, i, none⟩ (.int .i8 (r2 - 1)) = W14 := ⟨_, rfl⟩
      rw [hW14] at T14 ⊢
      clear hW14 HT14 xi13 xf13
      have HE := Lib.hid T14
      obtain ⟨h0, h1, h2, h3, h4⟩ := T14.S.four
      have si := Blk.word T14.S i hi4
      have xi := Blk.word T14.X i hi4
      clear T14
      by_cases he : x' i = y i
      · have hq : (x' i != y i) = false := by simpa using he
        have HD := Lib.hid (show dist x' y (i + 1) = dist x' y i from by show dist x' y i + df x' y i = _; unfold df; rw [if_pos he]; omega)
        clear he h0 h1 h2 h3 h4
        go_wp2_with fail
        go_quiet (fail)
        go_wp2
        go_roundw
        case rel => exact ⟨i + 1, x', by rw [HD.out, HDX.out], by go_num, by omega, HFX.out, (fun j h1 h2 => HSM.out j (by omega) h2), by first | exact HE.out | exact HE.out.next (below_drewN (Below.refl _ _) _)⟩
        case measure => simp [intOf]; omega
      · have hq : (x' i != y i) = true := by simpa using he
        have HD := Lib.hid (show dist x' y (i + 1) = dist x' y i + 1 from by show dist x' y i + df x' y i = _; unfold df; rw [if_neg he])
        clear he h0 h1 h2 h3 h4
        go_wp2_with fail
        go_quiet (fail)
        go_wp2
        go_roundw
        case rel => exact ⟨i + 1, x', by rw [HD.out, HDX.out], by go_num, by omega, HFX.out, (fun j h1 h2 => HSM.out j (by omega) h2), by first | exact HE.out | exact HE.out.next (below_drewN (Below.refl _ _) _)⟩
        case measure => simp [intOf]; omega
    · have hq0 : (r == 0) = false := by simpa using hr0
      clear hr0 hr
      have HFX := HFX0
      have HSM := HSM0
      have HDX := HDX0
      have HE := Lib.hid T11
      obtain ⟨h0, h1, h2, h3, h4⟩ := T11.S.four
      have si := Blk.word T11.S i hi4
      have xi := Blk.word T11.X i hi4
      clear T11
      by_cases he : x i = y i
      · have hq : (x i != y i) = false := by simpa using he
        have HD := Lib.hid (show dist x y (i + 1) = dist x y i from by show dist x y i + df x y i = _; unfold df; rw [if_pos he]; omega)
        clear he h0 h1 h2 h3 h4
        go_wp2_with fail
        go_quiet (fail)
        go_wp2
        go_roundw
        case rel => exact ⟨i + 1, x, by rw [HD.out, HDX.out], by go_num, by omega, HFX.out, (fun j h1 h2 => HSM.out j (by omega) h2), by first | exact HE.out | exact HE.out.next (below_drewN (Below.refl _ _) _)⟩
        case measure => simp [intOf]; omega
      · have hq : (x i != y i) = true := by simpa using he
        have HD := Lib.hid (show dist x y (i + 1) = dist x y i + 1 from by show dist x y i + df x y i = _; unfold df; rw [if_neg he])
        clear he h0 h1 h2 h3 h4
        go_wp2_with fail
        go_quiet (fail)
        go_wp2
        go_roundw
        case rel => exact ⟨i + 1, x, by rw [HD.out, HDX.out], by go_num, by omega, HFX.out, (fun j h1 h2 => HSM.out j (by omega) h2), by first | exact HE.out | exact HE.out.next (below_drewN (Below.refl _ _) _)⟩
        case measure => simp [intOf]; omega

end Go.Proofs.Ytieghjpecoiodaa
