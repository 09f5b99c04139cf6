/-
  The walks of DoMoves, in the program and in its model.
-/
import Derived.Test.YtodbbdfgbkbfbaaMvs2
import Derived.Test.YtodbbdfgbkbfbaaDoMove
import Derived.Deep.DeepCutAuto
import Derived.Deep.RegionHeld3
namespace Go.Proofs.Ytodbbdfgbkbfbaa
open Go.RowKit
set_option maxRecDepth 100000
set_option linter.unusedVariables false

noncomputable def runM (J : List Int) (t : Bool) : List Mv → (Nat → Int) → (Nat → Int) × Int
  | [], y => (y, 0)
  | m :: ms, y => if movC J t y m.1 m.2.1 m.2.2 = 0 then runM J t ms (movX J t y m.1 m.2.1 m.2.2) else (fun _ => 0, movC J t y m.1 m.2.1 m.2.2)
noncomputable def dsR (J : List Int) (x y : Nat → Int) (t : Bool) (ms : List Mv) : (Nat → Int) × Int := if okW2 J x y = true then (if ms.length ≤ 200 then runM J t ms y else (fun _ => 0, 3)) else (fun _ => 0, 1)
theorem movX_ok {J : List Int} {t : Bool} {y : Nat → Int} {k f g : Int} (hJ : OkJ J) (hy : OkX J y) (h : movC J t y k f g = 0) : OkX J (movX J t y k f g) := by
  unfold movX
  rw [if_pos h]
  refine nextX_ok hJ.2.1 hJ.1.2 hy ?_
  by_cases hm : OkM J.length k f g
  · exact hm
  · rw [movC_bad hm] at h; omega
theorem mv_drop {ms : List Mv} {k : Nat} (h : k < ms.length) : ms.drop k = mvI ms k :: ms.drop (k + 1) := by
  rw [List.drop_eq_getElem_cons h]
  simp [mvI, List.getD_eq_getElem?_getD, List.getElem?_eq_getElem h]
theorem movC_bd (J : List Int) (t : Bool) (y : Nat → Int) (k f g : Int) : 0 ≤ movC J t y k f g ∧ movC J t y k f g ≤ 4 := by
  rcases movC_cases J t y k f g with h | h | h <;> omega
/-- What a loop over moves keeps. -/
structure MvL (w : World) (b off c : Nat) (J : List Int) (x yk : Nat → Int) (t : Bool) (wr : World) : Prop where
  b0 : Blk wr w.heap.size #[.slice (some ⟨b, off, none⟩) J.length c, .int .i16 (x 0), .int .i16 (x 1), .int .i16 (x 2), .int .i16 (x 3), .bool t] 35
  b1 : Blk wr (w.heap.size + 1) #[.int .i16 (yk 0), .int .i16 (yk 1), .int .i16 (yk 2), .int .i16 (yk 3)] 31
  b2 : Blk wr (w.heap.size + 1 + 1) #[.int .i16 0, .int .i16 0, .int .i16 0, .int .i16 0] 31
  bel : Below w.heap.size w wr
theorem MvL.below {w : World} {b off c : Nat} {J : List Int} {x yk : Nat → Int} {t : Bool} {w1 w2 : World} (h : MvL w b off c J x yk t w1) (hb : Below w1.heap.size w1 w2) : MvL w b off c J x yk t w2 :=
  ⟨h.b0.below hb h.b0.lt, h.b1.below hb h.b1.lt, h.b2.below hb h.b2.lt, h.bel.trans (hb.mono h.bel.size)⟩
theorem MvL.put {w : World} {b off c : Nat} {J : List Int} {x yk : Nat → Int} {t : Bool} {w1 : World} (h : MvL w b off c J x yk t w1) (E : Nat → Int) : MvL w b off c J x E t ((((w1.setCell ⟨w.heap.size + 1, 0, none⟩ (.int .i16 (E 0))).setCell ⟨w.heap.size + 1, 1, none⟩ (.int .i16 (E 1))).setCell ⟨w.heap.size + 1, 2, none⟩ (.int .i16 (E 2))).setCell ⟨w.heap.size + 1, 3, none⟩ (.int .i16 (E 3))) := by
  have hle : w.heap.size ≤ w.heap.size + 1 := by omega
  refine ⟨?_, ?_, ?_, (((h.bel.setCell hle _).setCell hle _).setCell hle _).setCell hle _⟩
  · exact (((h.b0.setOther (by omega) 0 _).setOther (by omega) 1 _).setOther (by omega) 2 _).setOther (by omega) 3 _
  · exact (((h.b1.set 0 _).set 1 _).set 2 _).set 3 _
  · exact (((h.b2.setOther (by omega) 0 _).setOther (by omega) 1 _).setOther (by omega) 2 _).setOther (by omega) 3 _
theorem doMoves_any (b off c : Nat) (J : List Int) (x y : Nat → Int) (t : Bool) (mb mo mc : Nat) (ms : List Mv) (w : World) (hn : J.length ≤ 1048576) (hb : b < w.heap.size) (hc : At .i16 w b off J) (hi : I16 J) (hmn : ms.length ≤ 1048576) (hmb : mb < w.heap.size) (hmc : MAt w mb mo ms) (hM8 : Mall ms) :
    Calls Try.prog 17 #[puzV (some ⟨b, off, none⟩) J.length c x t, watV y, .slice (some ⟨mb, mo, none⟩) ms.length mc] w fun e w' => e = .returned (.tuple #[watV (dsR J x y t ms).1, .int .i64 (dsR J x y t ms).2]) ∧ Below w.heap.size w w' := by
  have k0 := ((blk_new w #[.slice (some ⟨b, off, none⟩) J.length c, .int .i16 (x 0), .int .i16 (x 1), .int .i16 (x 2), .int .i16 (x 3), .bool t] 35).alloc (.cells #[.int .i16 (y 0), .int .i16 (y 1), .int .i16 (y 2), .int .i16 (y 3)] 31)).alloc (.cells #[.int .i16 0, .int .i16 0, .int .i16 0, .int .i16 0] 31)
  have k1 := (blk_new (w.alloc (.cells #[.slice (some ⟨b, off, none⟩) J.length c, .int .i16 (x 0), .int .i16 (x 1), .int .i16 (x 2), .int .i16 (x 3), .bool t] 35)) #[.int .i16 (y 0), .int .i16 (y 1), .int .i16 (y 2), .int .i16 (y 3)] 31).alloc (.cells #[.int .i16 0, .int .i16 0, .int .i16 0, .int .i16 0] 31)
  have k2 := blk_new ((w.alloc (.cells #[.slice (some ⟨b, off, none⟩) J.length c, .int .i16 (x 0), .int .i16 (x 1), .int .i16 (x 2), .int .i16 (x 3), .bool t] 35)).alloc (.cells #[.int .i16 (y 0), .int .i16 (y 1), .int .i16 (y 2), .int .i16 (y 3)] 31)) #[.int .i16 0, .int .i16 0, .int .i16 0, .int .i16 0] 31
  have hB := (((Below.refl w.heap.size w).alloc (Nat.le_refl _) (.cells #[.slice (some ⟨b, off, none⟩) J.length c, .int .i16 (x 0), .int .i16 (x 1), .int .i16 (x 2), .int .i16 (x 3), .bool t] 35)).alloc (by simp) (.cells #[.int .i16 (y 0), .int .i16 (y 1), .int .i16 (y 2), .int .i16 (y 3)] 31)).alloc (by simp <;> omega) (.cells #[.int .i16 0, .int .i16 0, .int .i16 0, .int .i16 0] 31)
  have hsz : w.heap.size + 3 = (((w.alloc (.cells #[.slice (some ⟨b, off, none⟩) J.length c, .int .i16 (x 0), .int .i16 (x 1), .int .i16 (x 2), .int .i16 (x 3), .bool t] 35)).alloc (.cells #[.int .i16 (y 0), .int .i16 (y 1), .int .i16 (y 2), .int .i16 (y 3)] 31)).alloc (.cells #[.int .i16 0, .int .i16 0, .int .i16 0, .int .i16 0] 31)).heap.size := by simp
  simp only [World.size_alloc] at k1 k2
  have hc1 := hc.below hB hb
  have hb1 := Nat.lt_of_lt_of_le hb hB.size
  have hmc1 := hmc.below hB hmb
  have hL : MvL w b off c J x y t _ := ⟨k0, k1, k2, hB⟩
  have HCJ := Lib.hid hc
  clear hc k0 k1 k2 hB
  have HV := Lib.hid (fun W (h1 : b < W.heap.size) (h2 : At .i16 W b off J) => validWater_any b off c J x y t W hn h1 h2 hi)
  unfold dsR
  cases hok : okW2 J x y
  · rw [hok] at HV
    clear hok
    simp only [Bool.false_eq_true, if_false]
    obtain ⟨c0, c1, c2, c3, c4, c5, -⟩ := hL.b0.six
    obtain ⟨d0, d1, d2, d3, d4⟩ := hL.b1.four
    obtain ⟨z0, z1, z2, z3, z4⟩ := hL.b2.four
    go_enter Try.func17, Try.ntmps17
    go_wp2_with fail
    refine (HV.out _ hb1 hc1).mono ?_
    rintro e w2 ⟨rfl, hb2⟩
    replace hL := hL.below hb2
    clear c0 c1 c2 c3 c4 c5 d0 d1 d2 d3 d4 z0 z1 z2 z3 z4
    obtain ⟨c0, c1, c2, c3, c4, c5, -⟩ := hL.b0.six
    obtain ⟨d0, d1, d2, d3, d4⟩ := hL.b1.four
    obtain ⟨z0, z1, z2, z3, z4⟩ := hL.b2.four
    clear hb2 hb1 hc1
    go_wp2
    have HB9 := Lib.hid hL.bel
    refine bodyPost_ret (v := .tuple #[watV (fun _ => 0), .int .i64 1]) (by simp [results, Try.results17, go_sem, z0, z1, z2, z3]) rfl ⟨rfl, ?_⟩
    have hle : w.heap.size ≤ w.heap.size + 1 + 1 := by omega
    exact ((((HB9.out.setCell hle _).setCell hle _).setCell hle _).setCell hle _)
  rw [hok] at HV
  obtain ⟨hJ, hy⟩ := okW2_ofd hok
  clear hok
  simp only [if_true]
  by_cases hl2 : ms.length ≤ 200
  rotate_left
  · rw [if_neg hl2]
    have hgt : (200 : Int) < (ms.length : Int) := by omega
    clear hl2
    obtain ⟨c0, c1, c2, c3, c4, c5, -⟩ := hL.b0.six
    obtain ⟨d0, d1, d2, d3, d4⟩ := hL.b1.four
    obtain ⟨z0, z1, z2, z3, z4⟩ := hL.b2.four
    go_enter Try.func17, Try.ntmps17
    go_wp2_with fail
    refine (HV.out _ hb1 hc1).mono ?_
    rintro e w2 ⟨rfl, hb2⟩
    replace hL := hL.below hb2
    clear c0 c1 c2 c3 c4 c5 d0 d1 d2 d3 d4 z0 z1 z2 z3 z4
    obtain ⟨c0, c1, c2, c3, c4, c5, -⟩ := hL.b0.six
    obtain ⟨d0, d1, d2, d3, d4⟩ := hL.b1.four
    obtain ⟨z0, z1, z2, z3, z4⟩ := hL.b2.four
    clear hb2 hb1 hc1
    go_wp2
    have HB9 := Lib.hid hL.bel
    refine bodyPost_ret (v := .tuple #[watV (fun _ => 0), .int .i64 3]) (by simp [results, Try.results17, go_sem, z0, z1, z2, z3]) rfl ⟨rfl, ?_⟩
    have hle : w.heap.size ≤ w.heap.size + 1 + 1 := by omega
    exact ((((HB9.out.setCell hle _).setCell hle _).setCell hle _).setCell hle _)
  rw [if_pos hl2]
  have hle2 : (ms.length : Int) ≤ 200 := by omega
  have HJ := Lib.hid hJ
  have HM := Lib.hid (fun yk k W (hy : OkX J yk) (h1 : b < W.heap.size) (h2 : At .i16 W b off J) => moved_any b off c J x yk t (mvI ms k).1 (mvI ms k).2.1 (mvI ms k).2.2 W hJ hy (hM8 k).bf (hM8 k).bg h1 h2)
  have HR := Lib.hid (show runM J t (ms.drop 0) y = runM J t ms y from rfl)
  generalize hRR : runM J t ms y = RR at *
  clear hRR
  have HY := Lib.hid hy
  clear hJ hy hM8
  obtain ⟨c0, c1, c2, c3, c4, c5, -⟩ := hL.b0.six
  obtain ⟨d0, d1, d2, d3, d4⟩ := hL.b1.four
  obtain ⟨z0, z1, z2, z3, z4⟩ := hL.b2.four
  go_enter Try.func17, Try.ntmps17
  go_wp2_with fail
  refine (HV.out _ hb1 hc1).mono ?_
  rintro e w2 ⟨rfl, hb2⟩
  replace hL := hL.below hb2
  have hc2 := hc1.below hb2 hb1
  have hmc2 := hmc1.below hb2 (Nat.lt_of_lt_of_le hmb (by rw [← hsz]; omega))
  have hb3 := Nat.lt_of_lt_of_le hb1 hb2.size
  clear hb2 hb1 hc1 hmc1
  clear c0 c1 c2 c3 c4 c5 d0 d1 d2 d3 d4 z0 z1 z2 z3 z4
  have HL := Lib.hid hL
  obtain ⟨c0, c1, c2, c3, c4, c5, -⟩ := hL.b0.six
  obtain ⟨d0, d1, d2, d3, d4⟩ := hL.b1.four
  obtain ⟨z0, z1, z2, z3, z4⟩ := hL.b2.four
  clear hL
  go_wp2_with fail
  clear c0 c1 c2 c3 c4 c5 d0 d1 d2 d3 d4 z0 z1 z2 z3 z4
  go_loopw [23] (fun i wr => ∃ (k : Nat) (yk : Nat → Int), i = .int .i64 k ∧ k ≤ ms.length ∧ OkX J yk ∧ runM J t (ms.drop k) yk = RR ∧ MvL w b off c J x yk t wr) (fun i _ => ms.length - (intOf i).toNat)
  case atStart => exact ⟨0, y, rfl, Nat.zero_le _, HY.out, HR.out, HL.out⟩
  case round =>
    obtain ⟨k, yk, rfl, hk, hyk, hrun, hL⟩ := hrel
    have HRUN := Lib.hid hrun
    have HYK := Lib.hid hyk
    clear hrun hyk
    obtain ⟨c0, c1, c2, c3, c4, c5, -⟩ := hL.b0.six
    obtain ⟨d0, d1, d2, d3, d4⟩ := hL.b1.four
    obtain ⟨z0, z1, z2, z3, z4⟩ := hL.b2.four
    by_cases hlt : k < ms.length
    · have hcw := HCJ.out.below hL.bel hb
      have hbw := Nat.lt_of_lt_of_le hb hL.bel.size
      obtain ⟨m0, m1, m2⟩ := (hmc.below hL.bel hmb) k hlt
      have hkl : (k : Int) < (ms.length : Int) := by omega
      have hs0 := hL.b0.lt
      have hs1 := hL.b1.lt
      have hs2 := hL.b2.lt
      have HK := Lib.hid (HM.out yk k)
      have HC := Lib.hid (movC_bd J t yk (mvI ms k).1 (mvI ms k).2.1 (mvI ms k).2.2)
      have HS := Lib.hid (show runM J t (ms.drop k) yk = if movC J t yk (mvI ms k).1 (mvI ms k).2.1 (mvI ms k).2.2 = 0 then runM J t (ms.drop (k + 1)) (movX J t yk (mvI ms k).1 (mvI ms k).2.1 (mvI ms k).2.2) else (fun _ => 0, movC J t yk (mvI ms k).1 (mvI ms k).2.1 (mvI ms k).2.2) by rw [mv_drop hlt]; rfl)
      have HO := Lib.hid (fun h => movX_ok (J := J) (t := t) (y := yk) (k := (mvI ms k).1) (f := (mvI ms k).2.1) (g := (mvI ms k).2.2) HJ.out HYK.out h)
      generalize movC J t yk (mvI ms k).1 (mvI ms k).2.1 (mvI ms k).2.2 = C at *
      generalize movX J t yk (mvI ms k).1 (mvI ms k).2.1 (mvI ms k).2.2 = E at *
      have hC := HC.out
      have HCB := Lib.hid (And.intro hbw hcw)
      clear hcw hbw HC
      generalize (mvI ms k).1 = v0 at *
      generalize (mvI ms k).2.1 = v1 at *
      generalize (mvI ms k).2.2 = v2 at *
      go_wp2_with fail
      have hBA := (Below.refl wr.heap.size wr).alloc (Nat.le_refl _) (.cells #[.int .i8 v0, .int .i8 v1, .int .i8 v2] 38)
      refine (HK.out _ HYK.out (Nat.lt_of_lt_of_le HCB.out.1 hBA.size) (HCB.out.2.below hBA HCB.out.1)).mono ?_
      rintro e w4 ⟨rfl, hb4⟩
      have hL4 := hL.below (hBA.trans (hb4.mono hBA.size))
      clear hL hBA hb4 m0 m1 m2 hs0 hs1 hs2
      clear c0 c1 c2 c3 c4 c5 d0 d1 d2 d3 d4 z0 z1 z2 z3 z4
      replace hL := hL4
      have hs0 := hL4.b0.lt
      have hs1 := hL4.b1.lt
      have hs2 := hL4.b2.lt
      obtain ⟨c0, c1, c2, c3, c4, c5, -⟩ := hL.b0.six
      obtain ⟨d0, d1, d2, d3, d4⟩ := hL.b1.four
      obtain ⟨z0, z1, z2, z3, z4⟩ := hL.b2.four
      clear hL4
      by_cases hC0 : C = 0
      · have HRN := Lib.hid (show runM J t (ms.drop (k + 1)) E = RR by rw [← HRUN.out, HS.out, if_pos hC0])
        have HOK := Lib.hid (HO.out hC0)
        have hLA := hL.put E
        have HL2 := Lib.hid (hLA.below ((Below.refl _ _).alloc (Nat.le_refl _) (.cells #[.int .i16 (E 0), .int .i16 (E 1), .int .i16 (E 2), .int .i16 (E 3)] 31)))
        subst hC0
        clear HS HO hL hLA
        go_wp2
        go_roundw
        case rel => exact ⟨k + 1, E, by go_num, by omega, HOK.out, HRN.out, HL2.out⟩
        case measure => simp [intOf]; omega
      · have HRN := Lib.hid (show RR = (fun _ => 0, C) by rw [← HRUN.out, HS.out, if_neg hC0])
        clear HS HO
        go_wp2
        have HB9 := Lib.hid hL.bel
        refine bodyPost_ret (v := .tuple #[watV (fun _ => 0), .int .i64 C]) (by simp [results, Try.results17, go_sem, z0, z1, z2, z3, hs2]) rfl ⟨by rw [HRN.out], ?_⟩
        have hle : w.heap.size ≤ w.heap.size + 1 + 1 := by omega
        exact ((((HB9.out.setCell hle _).setCell hle _).setCell hle _).setCell hle _).alloc (by simp only [World.size_setCell]; exact HB9.out.size) _
    · have hkk : k = ms.length := by omega
      have HRN := Lib.hid (show RR = (yk, 0) by rw [← HRUN.out, hkk, List.drop_length]; rfl)
      clear hkk
      go_wp2
      have HB9 := Lib.hid hL.bel
      refine bodyPost_ret (v := .tuple #[watV (yk), .int .i64 0]) (by simp [results, Try.results17, go_sem, z0, z1, z2, z3]) rfl ⟨by rw [HRN.out], ?_⟩
      have hle : w.heap.size ≤ w.heap.size + 1 + 1 := by omega
      exact ((((HB9.out.setCell hle _).setCell hle _).setCell hle _).setCell hle _)
/-- A store of a whole water into a block behind. -/
theorem MvL.setB {w : World} {b off c : Nat} {J : List Int} {x yk : Nat → Int} {t : Bool} {w1 : World} {B : Nat} {v0 v1 v2 v3 : Value} (h : MvL w b off c J x yk t w1) (hB : w.heap.size + 1 + 1 < B) : MvL w b off c J x yk t ((((w1.setCell ⟨B, 0, none⟩ v0).setCell ⟨B, 1, none⟩ v1).setCell ⟨B, 2, none⟩ v2).setCell ⟨B, 3, none⟩ v3) := by
  have hle : w.heap.size ≤ B := by omega
  refine ⟨?_, ?_, ?_, (((h.bel.setCell hle _).setCell hle _).setCell hle _).setCell hle _⟩
  · exact (((h.b0.setOther (by omega) 0 _).setOther (by omega) 1 _).setOther (by omega) 2 _).setOther (by omega) 3 _
  · exact (((h.b1.setOther (by omega) 0 _).setOther (by omega) 1 _).setOther (by omega) 2 _).setOther (by omega) 3 _
  · exact (((h.b2.setOther (by omega) 0 _).setOther (by omega) 1 _).setOther (by omega) 2 _).setOther (by omega) 3 _
theorem MvL.drew {w : World} {b off c : Nat} {J : List Int} {x yk : Nat → Int} {t : Bool} {w1 : World} (h : MvL w b off c J x yk t w1) : MvL w b off c J x yk t w1.drew := h.below (Below.refl _ _).drew
theorem MvL.alloc {w : World} {b off c : Nat} {J : List Int} {x yk : Nat → Int} {t : Bool} {w1 : World} (h : MvL w b off c J x yk t w1) (o : Obj) : MvL w b off c J x yk t (w1.alloc o) := h.below ((Below.refl _ _).alloc (Nat.le_refl _) o)
set_option maxHeartbeats 4000000 in
theorem specDoMoves_any (b off c : Nat) (J : List Int) (x y : Nat → Int) (t : Bool) (mb mo mc : Nat) (ms : List Mv) (w : World) (hn : J.length ≤ 1048576) (hb : b < w.heap.size) (hc : At .i16 w b off J) (hmn : ms.length ≤ 1048576) (hmb : mb < w.heap.size) (hmc : MAt w mb mo ms) (hM8 : Mall ms) :
    Calls Try.prog 15 #[puzV (some ⟨b, off, none⟩) J.length c x t, watV y, .slice (some ⟨mb, mo, none⟩) ms.length mc] w fun e w' => e = .returned (.tuple #[watV (dsR J x y t ms).1, .int .i64 (dsR J x y t ms).2]) ∧ Below w.heap.size w w' := by
  have k0 := ((blk_new w #[.slice (some ⟨b, off, none⟩) J.length c, .int .i16 (x 0), .int .i16 (x 1), .int .i16 (x 2), .int .i16 (x 3), .bool t] 35).alloc (.cells #[.int .i16 (y 0), .int .i16 (y 1), .int .i16 (y 2), .int .i16 (y 3)] 31)).alloc (.cells #[.int .i16 0, .int .i16 0, .int .i16 0, .int .i16 0] 31)
  have k1 := (blk_new (w.alloc (.cells #[.slice (some ⟨b, off, none⟩) J.length c, .int .i16 (x 0), .int .i16 (x 1), .int .i16 (x 2), .int .i16 (x 3), .bool t] 35)) #[.int .i16 (y 0), .int .i16 (y 1), .int .i16 (y 2), .int .i16 (y 3)] 31).alloc (.cells #[.int .i16 0, .int .i16 0, .int .i16 0, .int .i16 0] 31)
  have k2 := blk_new ((w.alloc (.cells #[.slice (some ⟨b, off, none⟩) J.length c, .int .i16 (x 0), .int .i16 (x 1), .int .i16 (x 2), .int .i16 (x 3), .bool t] 35)).alloc (.cells #[.int .i16 (y 0), .int .i16 (y 1), .int .i16 (y 2), .int .i16 (y 3)] 31)) #[.int .i16 0, .int .i16 0, .int .i16 0, .int .i16 0] 31
  have hB := (((Below.refl w.heap.size w).alloc (Nat.le_refl _) (.cells #[.slice (some ⟨b, off, none⟩) J.length c, .int .i16 (x 0), .int .i16 (x 1), .int .i16 (x 2), .int .i16 (x 3), .bool t] 35)).alloc (by simp) (.cells #[.int .i16 (y 0), .int .i16 (y 1), .int .i16 (y 2), .int .i16 (y 3)] 31)).alloc (by simp <;> omega) (.cells #[.int .i16 0, .int .i16 0, .int .i16 0, .int .i16 0] 31)
  have hsz : w.heap.size + 3 = (((w.alloc (.cells #[.slice (some ⟨b, off, none⟩) J.length c, .int .i16 (x 0), .int .i16 (x 1), .int .i16 (x 2), .int .i16 (x 3), .bool t] 35)).alloc (.cells #[.int .i16 (y 0), .int .i16 (y 1), .int .i16 (y 2), .int .i16 (y 3)] 31)).alloc (.cells #[.int .i16 0, .int .i16 0, .int .i16 0, .int .i16 0] 31)).heap.size := by simp
  simp only [World.size_alloc] at k1 k2
  have hc1 := hc.below hB hb
  have hb1 := Nat.lt_of_lt_of_le hb hB.size
  have hmc1 := hmc.below hB hmb
  have HO := Lib.hid (l02Ok_any w.heap.size b off c J x t _ hn hb1 hc1 k0)
  have hL : MvL w b off c J x y t _ := ⟨k0, k1, k2, hB⟩
  have HCJ := Lib.hid hc
  clear hc k0 k1 k2 hB
  have HW := Lib.hid (fun W (h1 : b < W.heap.size) (h2 : At .i16 W b off J) => l02Water_any b off c J y W h1 h2)
  unfold dsR okW2
  cases hok : okZ J x
  · rw [hok] at HO
    clear hok HW
    simp only [Bool.false_and, Bool.false_eq_true, if_false]
    go_enter Try.func15, Try.ntmps15
    go_wp2_with fail
    refine HO.out.mono ?_
    rintro e w2 ⟨rfl, hb2⟩
    replace hL := hL.below hb2
    obtain ⟨c0, c1, c2, c3, c4, c5, -⟩ := hL.b0.six
    obtain ⟨d0, d1, d2, d3, d4⟩ := hL.b1.four
    obtain ⟨z0, z1, z2, z3, z4⟩ := hL.b2.four
    clear hb2 hb1 hc1 HO
    go_wp2
    have HB9 := Lib.hid hL.bel
    refine bodyPost_ret (v := .tuple #[watV (fun _ => 0), .int .i64 1]) (by simp [results, Try.results15, go_sem, z0, z1, z2, z3]) rfl ⟨rfl, ?_⟩
    have hle : w.heap.size ≤ w.heap.size + 1 + 1 := by omega
    exact ((((HB9.out.setCell hle _).setCell hle _).setCell hle _).setCell hle _)
  rw [hok] at HO
  simp only [Bool.true_and]
  cases hy0 : okX J y
  · rw [hy0] at HW
    clear hok hy0
    simp only [Bool.false_eq_true, if_false]
    go_enter Try.func15, Try.ntmps15
    go_wp2_with fail
    refine HO.out.mono ?_
    rintro e w2 ⟨rfl, hb2⟩
    replace hL := hL.below hb2
    obtain ⟨c0, c1, c2, c3, c4, c5, -⟩ := hL.b0.six
    obtain ⟨d0, d1, d2, d3, d4⟩ := hL.b1.four
    obtain ⟨z0, z1, z2, z3, z4⟩ := hL.b2.four
    have hc2 := hc1.below hb2 hb1
    have hb3 := Nat.lt_of_lt_of_le hb1 hb2.size
    clear hb2 hb1 hc1 HO
    go_wp2_with fail
    refine (HW.out _ hb3 hc2).mono ?_
    rintro e w3 ⟨rfl, hb2⟩
    replace hL := hL.below hb2
    clear c0 c1 c2 c3 c4 c5 d0 d1 d2 d3 d4 z0 z1 z2 z3 z4
    obtain ⟨c0, c1, c2, c3, c4, c5, -⟩ := hL.b0.six
    obtain ⟨d0, d1, d2, d3, d4⟩ := hL.b1.four
    obtain ⟨z0, z1, z2, z3, z4⟩ := hL.b2.four
    clear hb2 hb3 hc2
    go_wp2
    have HB9 := Lib.hid hL.bel
    refine bodyPost_ret (v := .tuple #[watV (fun _ => 0), .int .i64 1]) (by simp [results, Try.results15, go_sem, z0, z1, z2, z3]) rfl ⟨rfl, ?_⟩
    have hle : w.heap.size ≤ w.heap.size + 1 + 1 := by omega
    exact ((((HB9.out.setCell hle _).setCell hle _).setCell hle _).setCell hle _)
  obtain ⟨hJ, hy⟩ := okW2_ofd (show okW2 J x y = true by unfold okW2; rw [hok, hy0]; rfl)
  rw [hy0] at HW
  clear hok hy0
  simp only [if_true]
  by_cases hl2 : ms.length ≤ 200
  rotate_left
  · rw [if_neg hl2]
    have hgt : (200 : Int) < (ms.length : Int) := by omega
    clear hl2
    go_enter Try.func15, Try.ntmps15
    go_wp2_with fail
    refine HO.out.mono ?_
    rintro e w2 ⟨rfl, hb2⟩
    replace hL := hL.below hb2
    obtain ⟨c0, c1, c2, c3, c4, c5, -⟩ := hL.b0.six
    obtain ⟨d0, d1, d2, d3, d4⟩ := hL.b1.four
    obtain ⟨z0, z1, z2, z3, z4⟩ := hL.b2.four
    have hc2 := hc1.below hb2 hb1
    have hb3 := Nat.lt_of_lt_of_le hb1 hb2.size
    clear hb2 hb1 hc1 HO
    go_wp2_with fail
    refine (HW.out _ hb3 hc2).mono ?_
    rintro e w3 ⟨rfl, hb2⟩
    replace hL := hL.below hb2
    clear c0 c1 c2 c3 c4 c5 d0 d1 d2 d3 d4 z0 z1 z2 z3 z4
    obtain ⟨c0, c1, c2, c3, c4, c5, -⟩ := hL.b0.six
    obtain ⟨d0, d1, d2, d3, d4⟩ := hL.b1.four
    obtain ⟨z0, z1, z2, z3, z4⟩ := hL.b2.four
    clear hb2 hb3 hc2
    go_wp2
    have HB9 := Lib.hid hL.bel
    refine bodyPost_ret (v := .tuple #[watV (fun _ => 0), .int .i64 3]) (by simp [results, Try.results15, go_sem, z0, z1, z2, z3]) rfl ⟨rfl, ?_⟩
    have hle : w.heap.size ≤ w.heap.size + 1 + 1 := by omega
    exact ((((HB9.out.setCell hle _).setCell hle _).setCell hle _).setCell hle _)
  rw [if_pos hl2]
  have hle2 : (ms.length : Int) ≤ 200 := by omega
  have HJ := Lib.hid hJ
  have HM := Lib.hid (fun yk k W (hy : OkX J yk) (h1 : MvL w b off c J x yk t W) => show Calls Try.prog 27 #[.pointer (some ⟨w.heap.size, 0, none⟩), watV yk, movV (mvI ms k).1 (mvI ms k).2.1 (mvI ms k).2.2] W fun e w' => e = .returned (.tuple #[watV (movX J t yk (mvI ms k).1 (mvI ms k).2.1 (mvI ms k).2.2), .int .i64 (movC J t yk (mvI ms k).1 (mvI ms k).2.1 (mvI ms k).2.2)]) ∧ MvL w b off c J x yk t w' ∧ Below W.heap.size W w' from
    (l02Move_any w.heap.size b off c J x yk t (mvI ms k).1 (mvI ms k).2.1 (mvI ms k).2.2 W hJ hy (hM8 k).bk (hM8 k).bf (hM8 k).bg (Nat.lt_of_lt_of_le hb h1.bel.size) (HCJ.out.below h1.bel hb) h1.b0).mono (fun e w' h => ⟨h.1, h1.below h.2, h.2⟩))
  have HR := Lib.hid (show runM J t (ms.drop 0) y = runM J t ms y from rfl)
  generalize hRR : runM J t ms y = RR at *
  clear hRR
  have HY := Lib.hid hy
  clear hJ hy hM8
  go_enter Try.func15, Try.ntmps15
  go_wp2_with fail
  refine HO.out.mono ?_
  rintro e w2 ⟨rfl, hb2⟩
  replace hL := hL.below hb2
  obtain ⟨c0, c1, c2, c3, c4, c5, -⟩ := hL.b0.six
  obtain ⟨d0, d1, d2, d3, d4⟩ := hL.b1.four
  obtain ⟨z0, z1, z2, z3, z4⟩ := hL.b2.four
  have hc2 := hc1.below hb2 hb1
  have hb3 := Nat.lt_of_lt_of_le hb1 hb2.size
  clear hb2 hb1 hc1 HO hmc1
  go_wp2_with fail
  refine (HW.out _ hb3 hc2).mono ?_
  rintro e w3 ⟨rfl, hb2⟩
  replace hL := hL.below hb2
  clear c0 c1 c2 c3 c4 c5 d0 d1 d2 d3 d4 z0 z1 z2 z3 z4
  have HL := Lib.hid hL
  obtain ⟨c0, c1, c2, c3, c4, c5, -⟩ := hL.b0.six
  obtain ⟨d0, d1, d2, d3, d4⟩ := hL.b1.four
  obtain ⟨z0, z1, z2, z3, z4⟩ := hL.b2.four
  clear hb2 hb3 hc2 hL
  go_wp2_with fail
  clear c0 c1 c2 c3 c4 c5 d0 d1 d2 d3 d4 z0 z1 z2 z3 z4
  go_loopw [8] (fun i wr => ∃ (k : Nat) (yk : Nat → Int), i = .int .i64 k ∧ k ≤ ms.length ∧ OkX J yk ∧ runM J t (ms.drop k) yk = RR ∧ MvL w b off c J x yk t wr) (fun i _ => ms.length - (intOf i).toNat)
  case atStart => exact ⟨0, y, rfl, Nat.zero_le _, HY.out, HR.out, HL.out⟩
  case round =>
    obtain ⟨k, yk, rfl, hk, hyk, hrun, hL⟩ := hrel
    have HRUN := Lib.hid hrun
    have HYK := Lib.hid hyk
    clear hrun hyk
    by_cases hlt : k < ms.length
    · have HMC := Lib.hid (fun W (h : MvL w b off c J x yk t W) => (hmc.below h.bel hmb) k hlt)
      have hkl : (k : Int) < (ms.length : Int) := by omega
      have hs0 := hL.b0.lt
      have hs1 := hL.b1.lt
      have hs2 := hL.b2.lt
      have HK := Lib.hid (fun W => HM.out yk k W HYK.out)
      have HC := Lib.hid (movC_bd J t yk (mvI ms k).1 (mvI ms k).2.1 (mvI ms k).2.2)
      have HS := Lib.hid (show runM J t (ms.drop k) yk = if movC J t yk (mvI ms k).1 (mvI ms k).2.1 (mvI ms k).2.2 = 0 then runM J t (ms.drop (k + 1)) (movX J t yk (mvI ms k).1 (mvI ms k).2.1 (mvI ms k).2.2) else (fun _ => 0, movC J t yk (mvI ms k).1 (mvI ms k).2.1 (mvI ms k).2.2) by rw [mv_drop hlt]; rfl)
      have HOK := Lib.hid (fun h => movX_ok (J := J) (t := t) (y := yk) (k := (mvI ms k).1) (f := (mvI ms k).2.1) (g := (mvI ms k).2.2) HJ.out HYK.out h)
      generalize movC J t yk (mvI ms k).1 (mvI ms k).2.1 (mvI ms k).2.2 = C at *
      generalize movX J t yk (mvI ms k).1 (mvI ms k).2.1 (mvI ms k).2.2 = E at *
      generalize (mvI ms k).1 = v0 at *
      generalize (mvI ms k).2.1 = v1 at *
      generalize (mvI ms k).2.2 = v2 at *
      go_upto_region 8 with fail
      have keepS : ∀ W', MvL w b off c J x yk t W' → (W'.cell? ⟨w.heap.size + 1, 0, none⟩ = some (.int .i16 (yk 0)) ∧ W'.cell? ⟨w.heap.size + 1, 1, none⟩ = some (.int .i16 (yk 1)) ∧ W'.cell? ⟨w.heap.size + 1, 2, none⟩ = some (.int .i16 (yk 2)) ∧ W'.cell? ⟨w.heap.size + 1, 3, none⟩ = some (.int .i16 (yk 3)) ∧ W'.cell? ⟨mb, mo + k * 3, none⟩ = some (.int .i8 v0) ∧ W'.cell? ⟨mb, mo + k * 3 + 1, none⟩ = some (.int .i8 v1) ∧ W'.cell? ⟨mb, mo + k * 3 + 2, none⟩ = some (.int .i8 v2)) := fun W' h => ⟨h.b1.cell 0, h.b1.cell 1, h.b1.cell 2, h.b1.cell 3, (HMC.out W' h).1, (HMC.out W' h).2.1, (HMC.out W' h).2.2⟩
      go_cut [9, 10] (fun s9 s10 wx => ∃ Bq, s9 = .pointer (some ⟨Bq, 0, none⟩) ∧ s10 = .int .i64 C ∧ w.heap.size + 1 + 1 < Bq ∧ Blk wx Bq #[.int .i16 (E 0), .int .i16 (E 1), .int .i16 (E 2), .int .i16 (E 3)] 31 ∧ MvL w b off c J x yk t wx)
      case first =>
        have hZ0 : Blk (wr.alloc (.cells #[.int .i16 0, .int .i16 0, .int .i16 0, .int .i16 0] 31)).drew wr.heap.size #[.int .i16 0, .int .i16 0, .int .i16 0, .int .i16 0] 31 := blk_new wr #[.int .i16 0, .int .i16 0, .int .i16 0, .int .i16 0] 31
        have HZ0 := Lib.hid hZ0
        clear hZ0
        go_region_held3 (fun W' => W'.cell? ⟨w.heap.size + 1, 0, none⟩ = some (.int .i16 (yk 0)) ∧ W'.cell? ⟨w.heap.size + 1, 1, none⟩ = some (.int .i16 (yk 1)) ∧ W'.cell? ⟨w.heap.size + 1, 2, none⟩ = some (.int .i16 (yk 2)) ∧ W'.cell? ⟨w.heap.size + 1, 3, none⟩ = some (.int .i16 (yk 3)) ∧ W'.cell? ⟨mb, mo + k * 3, none⟩ = some (.int .i8 v0) ∧ W'.cell? ⟨mb, mo + k * 3 + 1, none⟩ = some (.int .i8 v1) ∧ W'.cell? ⟨mb, mo + k * 3 + 2, none⟩ = some (.int .i8 v2))
          (exact keepS _ (by first | assumption | exact MvL.drew (by assumption) | exact MvL.drew (MvL.alloc (by assumption) _) | exact MvL.alloc (by first | assumption | exact MvL.drew (by assumption)) _ | exact MvL.setB (by assumption) hs2 | exact MvL.drew (MvL.setB (by assumption) hs2)))
          (first
            | (go_at_call 27; with_reducible refine (HK.out _ (by first | assumption | exact MvL.drew (by assumption) | exact MvL.drew (MvL.alloc (by assumption) _) | exact MvL.alloc (by first | assumption | exact MvL.drew (by assumption)) _ | exact MvL.setB (by assumption) hs2 | exact MvL.drew (MvL.setB (by assumption) hs2))).mono ?_; rintro e w4 ⟨rfl, hq, hb4⟩; have hq2 := hq.b2.lt; try (have hz1 := HZ0.out.below hb4 HZ0.out.lt; obtain ⟨zz0, zz1, zz2, zz3, zz4⟩ := hz1.four)))
        all_goals (go_wp2_with fail; go_meet; first
          | exact ⟨_, rfl, rfl, hq2, blk_new _ _ _, hq.alloc _⟩
          | exact ⟨_, rfl, rfl, hs2, (((hz1.set 0 _).set 1 _).set 2 _).set 3 _, hq.setB hs2⟩)
      case rest =>
        obtain ⟨Bq, rfl, rfl, hBq, hE, hL2⟩ := hcut
        clear hL keepS HK HMC hs0 hs1 hs2
        have hL := hL2
        clear hL2
        have hC := HC.out
        obtain ⟨c0, c1, c2, c3, c4, c5, -⟩ := hL.b0.six
        obtain ⟨d0, d1, d2, d3, d4⟩ := hL.b1.four
        obtain ⟨z0, z1, z2, z3, z4⟩ := hL.b2.four
        obtain ⟨e0, e1, e2, e3, -⟩ := hE.four
        by_cases hC0 : C = 0
        · have HRN := Lib.hid (show runM J t (ms.drop (k + 1)) E = RR by rw [← HRUN.out, HS.out, if_pos hC0])
          have HOK2 := Lib.hid (HOK.out hC0)
          have HL2 := Lib.hid (hL.put E)
          subst hC0
          clear HS HOK hL hE
          go_wp2
          go_roundw
          case rel => exact ⟨k + 1, E, by go_num, by omega, HOK2.out, HRN.out, HL2.out⟩
          case measure => simp [intOf]; omega
        · have HRN := Lib.hid (show RR = (fun _ => 0, C) by rw [← HRUN.out, HS.out, if_neg hC0])
          clear HS HOK hE
          go_wp2
          have HB9 := Lib.hid hL.bel
          refine bodyPost_ret (v := .tuple #[watV (fun _ => 0), .int .i64 C]) (by simp [results, Try.results15, go_sem, z0, z1, z2, z3]) rfl ⟨by rw [HRN.out], ?_⟩
          have hle : w.heap.size ≤ w.heap.size + 1 + 1 := by omega
          exact ((((HB9.out.setCell hle _).setCell hle _).setCell hle _).setCell hle _)
    · have hkk : k = ms.length := by omega
      have HRN := Lib.hid (show RR = (yk, 0) by rw [← HRUN.out, hkk, List.drop_length]; rfl)
      clear hkk
      obtain ⟨c0, c1, c2, c3, c4, c5, -⟩ := hL.b0.six
      obtain ⟨d0, d1, d2, d3, d4⟩ := hL.b1.four
      obtain ⟨z0, z1, z2, z3, z4⟩ := hL.b2.four
      go_wp2
      have HB9 := Lib.hid hL.bel
      refine bodyPost_ret (v := .tuple #[watV (yk), .int .i64 0]) (by simp [results, Try.results15, go_sem, z0, z1, z2, z3]) rfl ⟨by rw [HRN.out], ?_⟩
      have hle : w.heap.size ≤ w.heap.size + 1 + 1 := by omega
      exact ((((HB9.out.setCell hle _).setCell hle _).setCell hle _).setCell hle _)
end Go.Proofs.Ytodbbdfgbkbfbaa
