/-
  The walk of WayTo's model.
-/
import Derived.Test.YtjmgalmndpjcoaaWW1
import Derived.Test.YtjmgalmndpjcoaaSpecMF
namespace Go.Proofs.Ytjmgalmndpjcoaa
open Go.RowKit
set_option maxRecDepth 100000
set_option linter.unusedVariables false

noncomputable def wtL (J : List Int) (x y : Nat → Int) (t : Bool) : List Mv := if okW2 J x y = true then (if (gsJ J x t).tb.getD (ixN J y) 0 < 0 then [] else wayV J.length (gsJ J x t) (ixN J y)) else []
noncomputable def wtC (J : List Int) (x y : Nat → Int) (t : Bool) : Int := if okW2 J x y = true then (if (gsJ J x t).tb.getD (ixN J y) 0 < 0 then 6 else 0) else 1
set_option maxHeartbeats 4000000 in
theorem specWayTo_any (b off c : Nat) (J : List Int) (x y : Nat → Int) (t : Bool) (w : World) (hn : J.length ≤ 1048576) (hb : b < w.heap.size) (hc : At .i16 w b off J) :
    Calls Try.prog 18 #[puzV (some ⟨b, off, none⟩) J.length c x t, watV y] w fun e w' => ∃ v, e = .returned (.tuple #[v, .int .i64 (wtC J x y t)]) ∧ OwnX w.heap.size w' v (wtL J x y t) ∧ Below w.heap.size w w' := by
  obtain ⟨i0, hinf, hz0, hz1, hz2⟩ := info_parts Try.infoM
  have k0 := (blk_new w #[.slice (some ⟨b, off, none⟩) J.length c, .int .i16 (x 0), .int .i16 (x 1), .int .i16 (x 2), .int .i16 (x 3), .bool t] 32).alloc (.cells #[.int .i16 (y 0), .int .i16 (y 1), .int .i16 (y 2), .int .i16 (y 3)] 30)
  have k1 := blk_new (w.alloc (.cells #[.slice (some ⟨b, off, none⟩) J.length c, .int .i16 (x 0), .int .i16 (x 1), .int .i16 (x 2), .int .i16 (x 3), .bool t] 32)) #[.int .i16 (y 0), .int .i16 (y 1), .int .i16 (y 2), .int .i16 (y 3)] 30
  have hB := ((Below.refl w.heap.size w).alloc (Nat.le_refl _) (.cells #[.slice (some ⟨b, off, none⟩) J.length c, .int .i16 (x 0), .int .i16 (x 1), .int .i16 (x 2), .int .i16 (x 3), .bool t] 32)).alloc (by simp) (.cells #[.int .i16 (y 0), .int .i16 (y 1), .int .i16 (y 2), .int .i16 (y 3)] 30)
  have hsz : w.heap.size + 2 = ((w.alloc (.cells #[.slice (some ⟨b, off, none⟩) J.length c, .int .i16 (x 0), .int .i16 (x 1), .int .i16 (x 2), .int .i16 (x 3), .bool t] 32)).alloc (.cells #[.int .i16 (y 0), .int .i16 (y 1), .int .i16 (y 2), .int .i16 (y 3)] 30)).heap.size := by simp
  simp only [World.size_alloc] at k1
  have hc1 := hc.below hB hb
  have hb1 := Nat.lt_of_lt_of_le hb hB.size
  have HO := Lib.hid (l02Ok_any w.heap.size b off c J x t _ hn hb1 hc1 k0)
  have HCJ := Lib.hid hc
  have HW := Lib.hid (fun W (h1 : b < W.heap.size) (h2 : At .i16 W b off J) => l02Water_any b off c J y W h1 h2)
  unfold wtC wtL okW2
  clear hc
  cases hok : okZ J x
  · rw [hok] at HO
    clear hok HW
    simp only [Bool.false_and, Bool.false_eq_true, if_false]
    go_enter Try.func18, Try.ntmps18
    go_wp2_with fail
    refine HO.out.mono ?_
    rintro e w2 ⟨rfl, hb2⟩
    have HB2 := Lib.hid (hB.trans (hb2.mono hB.size))
    clear hb2 hB hc1 hb1 HO
    go_wp2
    go_ret2
    exact ⟨_, rfl, ⟨_, _, rfl, .inl rfl⟩, HB2.out.alloc HB2.out.size _⟩
  rw [hok] at HO
  simp only [Bool.true_and]
  cases hy0 : okX J y
  · rw [hy0] at HW
    clear hok hy0
    simp only [Bool.false_eq_true, if_false]
    go_enter Try.func18, Try.ntmps18
    go_wp2_with fail
    refine HO.out.mono ?_
    rintro e w2 ⟨rfl, hb2⟩
    have hBB := hB.trans (hb2.mono hB.size)
    replace k0 := k0.below hb2 k0.lt
    replace k1 := k1.below hb2 k1.lt
    replace hc1 := hc1.below hb2 hb1
    replace hb1 := Nat.lt_of_lt_of_le hb1 hb2.size
    clear hb2 hB HO
    obtain ⟨c0, c1, c2, c3, c4, c5, -⟩ := k0.six
    obtain ⟨d0, d1, d2, d3, -⟩ := k1.four
    go_wp2_with fail
    refine (HW.out _ hb1 hc1).mono ?_
    rintro e w3 ⟨rfl, hb3⟩
    have HB3 := Lib.hid (hBB.trans (hb3.mono hBB.size))
    clear hb3 hc1 hb1 hBB k0 k1
    clear c0 c1 c2 c3 c4 c5 d0 d1 d2 d3
    go_wp2
    go_ret2
    exact ⟨_, rfl, ⟨_, _, rfl, .inl rfl⟩, HB3.out.alloc HB3.out.size _⟩
  obtain ⟨hJ, hy⟩ := okW2_ofd (show okW2 J x y = true by unfold okW2; rw [hok, hy0]; rfl)
  rw [hy0] at HW
  have hx := okZ_X hok
  clear hok hy0
  simp only [if_true]
  have hI := gsJ_inv (t := t) hJ hx
  have hN := (nW_eq hJ).2.2
  have HFX := Lib.hid (ixN_eq hJ hy)
  have hfk : ixN J y < nW J := HFX.out.2
  have HFD := Lib.hid (fun W2 (h1 : b < W2.heap.size) (h2 : At .i16 W2 b off J) (h3 : Blk W2 w.heap.size _ _) => (show Calls Try.prog 38 _ W2 fun e w' => ∃ S T Z U v, e = .returned (.pointer (some ⟨S, 0, none⟩)) ∧ JMem J.length (nW J) [] W2 S T Z U v (gsJ J x t) w' from l02Find_any w.heap.size b off c J x t W2 hJ hx h1 h2 h3))
  have HIX := Lib.hid (fun W (h1 : b < W.heap.size) (h2 : At .i16 W b off J) h3 => (l02Index_any w.heap.size b off c J x y t W hJ.1.2 hJ.1.1 hJ.2.1 hy h1 h2 h3))
  generalize gsJ J x t = s at *
  generalize nW J = N at *
  have HI := Lib.hid hI
  have hfar := hI.far _ hfk
  clear hI
  generalize ixN J y = f at *
  obtain ⟨LL, hLL⟩ : ∃ LL : List Mv, LL = (if s.tb.getD f 0 < 0 then ([] : List Mv) else wayV J.length s f) := ⟨_, rfl⟩
  obtain ⟨CC, hCC⟩ : ∃ CC : Int, CC = (if s.tb.getD f 0 < 0 then (6 : Int) else 0) := ⟨_, rfl⟩
  rw [← hLL, ← hCC]
  have HLC := Lib.hid (And.intro hLL hCC)
  clear hLL hCC
  have HJY := Lib.hid (And.intro hJ hy)
  clear hJ hy hx
  go_enter Try.func18, Try.ntmps18
  go_wp2_with fail
  refine HO.out.mono ?_
  rintro e w2 ⟨rfl, hb2⟩
  have hBB := hB.trans (hb2.mono hB.size)
  replace k0 := k0.below hb2 k0.lt
  replace k1 := k1.below hb2 k1.lt
  replace hc1 := hc1.below hb2 hb1
  replace hb1 := Nat.lt_of_lt_of_le hb1 hb2.size
  clear hb2 hB HO
  obtain ⟨c0, c1, c2, c3, c4, c5, -⟩ := k0.six
  obtain ⟨d0, d1, d2, d3, -⟩ := k1.four
  go_wp2_with fail
  refine (HW.out _ hb1 hc1).mono ?_
  rintro e w3 ⟨rfl, hb3⟩
  have hB3 := hBB.trans (hb3.mono hBB.size)
  replace k0 := k0.below hb3 k0.lt
  replace k1 := k1.below hb3 k1.lt
  replace hc1 := hc1.below hb3 hb1
  replace hb1 := Nat.lt_of_lt_of_le hb1 hb3.size
  clear hb3 hBB
  clear c0 c1 c2 c3 c4 c5 d0 d1 d2 d3
  have hb2 := hb1
  have hs3 := hB3.size
  obtain ⟨d0, d1, d2, d3, -⟩ := k1.four
  go_wp2_with fail
  refine (HFD.out _ hb1 hc1 k0).mono ?_
  rintro e w4 ⟨S, T, Z, U, v, rfl, hM⟩
  have hb4 := hM.below
  have hB4 := hB3.trans (hb4.mono hs3)
  replace k0 := k0.below hb4 k0.lt
  replace k1 := k1.below hb4 k1.lt
  replace hc1 := hc1.below hb4 hb1
  replace hb1 := Nat.lt_of_lt_of_le hb1 hb4.size
  have HM := Lib.hid hM
  clear hb4 hB3 hM d0 d1 d2 d3 hs3 hb2
  obtain ⟨d0, d1, d2, d3, -⟩ := k1.four
  have HC := Lib.hid (HIX.out _ hb1 hc1 k0)
  go_wp2_with fail
  refine HC.out.mono ?_
  rintro e w5 ⟨rfl, hb5⟩
  rw [← HFX.out.1]
  have hM5 := HM.out.next hb5
  have HB5 := Lib.hid (hB4.trans (hb5.mono hB4.size))
  clear hb5 hB4 HM HC k0 k1 hc1 hb1 d0 d1 d2 d3 HFD HIX
  obtain ⟨s0, s1, s2, s3, -⟩ := hM5.bS.four
  have t1 : w5.cell? ⟨T, f, none⟩ = some (.int .i16 (s.tb.getD f 0)) := by
    rw [hM5.bT.cell]; exact ncells_get _ _ _ (by rw [HI.out.tb]; exact hfk)
  have hki : (f : Int) < (N : Int) := by omega
  by_cases hneg : s.tb.getD f 0 < 0
  · have HE := Lib.hid (show LL = [] ∧ CC = 6 by have h := HLC.out; rwa [if_pos hneg, if_pos hneg] at h)
    clear hM5 HLC HI
    generalize s.tb.getD f 0 = z at *
    go_wp2
    go_ret2
    rw [HE.out.1, HE.out.2]
    exact ⟨_, rfl, ⟨_, _, rfl, .inl rfl⟩, HB5.out.alloc HB5.out.size _⟩
  · have HE := Lib.hid (show LL = wayV J.length s f ∧ CC = 0 by have h := HLC.out; rwa [if_neg hneg, if_neg hneg] at h)
    clear HLC
    have HWY := Lib.hid (l02Way_any f w5 HI.out hM5 hN hfk (by omega))
    have hneg2 : ¬ s.tb.getD f 0 < (0 : Int) := hneg
    clear hM5 HI
    generalize s.tb.getD f 0 = z at *
    generalize wayV J.length s f = LW at *
    go_wp2_with fail
    refine HWY.out.mono ?_
    rintro e w6 ⟨v6, rfl, ⟨a6, c6, rfl, hX⟩, hb6⟩
    have HX := Lib.hid hX
    have HB6 := Lib.hid (HB5.out.trans (hb6.mono HB5.out.size))
    have hs5 := HB5.out.size
    clear hX hb6 HWY
    go_wp2
    go_ret2
    rw [HE.out.1, HE.out.2]
    refine ⟨_, rfl, ⟨a6, c6, rfl, ?_⟩, HB6.out⟩
    rcases HX.out with h | ⟨g, e, h1, h2, h3, h4⟩
    · exact .inl h
    · exact .inr ⟨g, e, Nat.le_trans hs5 h1, h2, h3, h4⟩
end Go.Proofs.Ytjmgalmndpjcoaa
