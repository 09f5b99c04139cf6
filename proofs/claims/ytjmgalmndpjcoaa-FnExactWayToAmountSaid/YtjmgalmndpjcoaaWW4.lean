/-
  The walk of WayTo.
-/
import Derived.Test.YtjmgalmndpjcoaaWW2
import Derived.Test.YtjmgalmndpjcoaaWW3
namespace Go.Proofs.Ytjmgalmndpjcoaa
open Go.RowKit Go.Maps Go.MapKept Go.ChangeMaps
set_option maxRecDepth 100000
set_option linter.unusedVariables false

theorem of_cb2 {a b : Bool} (h : (a && b) = true) : a = true ∧ b = true := by rwa [Bool.and_eq_true] at h
set_option maxHeartbeats 2000000 in
theorem wayToI_any (b off c : Nat) (J : List Int) (x y : Nat → Int) (t : Bool) (w : World) (hn : J.length ≤ 1048576) (hb : b < w.heap.size) (hc : At .i16 w b off J) (hi : I16 J) :
    Calls Try.prog 20 #[puzV (some ⟨b, off, none⟩) J.length c x t, watV y] w fun e w' => ∃ v, e = .returned (.tuple #[v, .int .i64 (wtC J x y t)]) ∧ OwnX w.heap.size w' v (wtL J x y t) ∧ Below w.heap.size w w' := by
  have k0 := (blk_new w #[.slice (some ⟨b, off, none⟩) J.length c, .int .i16 (x 0), .int .i16 (x 1), .int .i16 (x 2), .int .i16 (x 3), .bool t] 32).alloc (.cells #[.int .i16 (y 0), .int .i16 (y 1), .int .i16 (y 2), .int .i16 (y 3)] 30)
  have k1 := blk_new (w.alloc (.cells #[.slice (some ⟨b, off, none⟩) J.length c, .int .i16 (x 0), .int .i16 (x 1), .int .i16 (x 2), .int .i16 (x 3), .bool t] 32)) #[.int .i16 (y 0), .int .i16 (y 1), .int .i16 (y 2), .int .i16 (y 3)] 30
  have hB := ((Below.refl w.heap.size w).alloc (Nat.le_refl _) (.cells #[.slice (some ⟨b, off, none⟩) J.length c, .int .i16 (x 0), .int .i16 (x 1), .int .i16 (x 2), .int .i16 (x 3), .bool t] 32)).alloc (by simp) (.cells #[.int .i16 (y 0), .int .i16 (y 1), .int .i16 (y 2), .int .i16 (y 3)] 30)
  have hsz : w.heap.size + 2 = ((w.alloc (.cells #[.slice (some ⟨b, off, none⟩) J.length c, .int .i16 (x 0), .int .i16 (x 1), .int .i16 (x 2), .int .i16 (x 3), .bool t] 32)).alloc (.cells #[.int .i16 (y 0), .int .i16 (y 1), .int .i16 (y 2), .int .i16 (y 3)] 30)).heap.size := by simp
  simp only [World.size_alloc] at k1
  have hc1 := hc.below hB hb
  have hb1 := Nat.lt_of_lt_of_le hb hB.size
  have HV := Lib.hid (fun W (h1 : b < W.heap.size) (h2 : At .i16 W b off J) => validWater_any b off c J x y t W hn h1 h2 hi)
  unfold wtC wtL
  clear hc
  cases hok : okW2 J x y
  · rw [hok] at HV
    clear hok
    simp only [Bool.false_eq_true, if_false]
    obtain ⟨c0, c1, c2, c3, c4, c5, -⟩ := k0.six
    obtain ⟨d0, d1, d2, d3, -⟩ := k1.four
    go_enter Try.func20, Try.ntmps20
    go_wp2_with fail
    refine (HV.out _ hb1 hc1).mono ?_
    rintro e w2 ⟨rfl, hb2⟩
    have HB2 := Lib.hid (hB.trans (hb2.mono hB.size))
    clear hb2 hB hc1 hb1
    go_wp2
    go_ret2
    exact ⟨_, rfl, ⟨none, 0, rfl, .inl rfl⟩, HB2.out⟩
  · rw [hok] at HV
    have hx : OkX J x := okZ_X (by unfold okW2 at hok; exact (of_cb2 hok).1)
    obtain ⟨hJ, hy⟩ := okW2_ofd hok
    clear hok
    simp only [if_true]
    have hI := gsJ_inv (t := t) hJ hx
    have hN := (nW_eq hJ).2.2
    have hfk : ixN J y < nW J := (ixN_eq hJ hy).2
    have HWA := Lib.hid (wat_at hJ hy)
    have HFD := Lib.hid (fun W2 (h1 : b < W2.heap.size) (h2 : At .i16 W2 b off J) => (show Calls Try.prog 46 _ W2 fun e w' => ∃ R mb g cap, e = .returned (.agg #[.slice (some ⟨g, 0, none⟩) (gsJ J x t).q.length cap, .map (some mb)]) ∧ PMem J [] W2 R mb (.slice (some ⟨g, 0, none⟩) (gsJ J x t).q.length cap) (gsJ J x t) (gsJ J x t).q w' from search_any b off c J x t W2 hJ hx h1 h2))
    have HJ := Lib.hid hJ
    obtain ⟨kE, hkE⟩ := keyW_mk y (fun i hi => by have h1 := hy i hi; have := hJ.2.1; by_cases hl : i < J.length; (have := hJ.2.1 i hl; omega); (rw [getD_ge (by omega)] at h1; omega))
    have HKE := Lib.hid hkE
    generalize gsJ J x t = s at *
    have HI := Lib.hid hI
    have hfar := hI.far _ hfk
    clear hI hx hy hJ hkE
    generalize ixN J y = f at *
    obtain ⟨LL, hLL⟩ : ∃ LL : List Mv, LL = (if s.tb.getD f 0 < 0 then ([] : List Mv) else wayV J.length s f) := ⟨_, rfl⟩
    obtain ⟨CC, hCC⟩ : ∃ CC : Int, CC = (if s.tb.getD f 0 < 0 then (6 : Int) else 0) := ⟨_, rfl⟩
    rw [← hLL, ← hCC]
    have HLC := Lib.hid (And.intro hLL hCC)
    clear hLL hCC
    obtain ⟨c0, c1, c2, c3, c4, c5, -⟩ := k0.six
    obtain ⟨d0, d1, d2, d3, -⟩ := k1.four
    go_enter Try.func20, Try.ntmps20
    go_wp2_with fail
    refine (HV.out _ hb1 hc1).mono ?_
    rintro e w2 ⟨rfl, hb2⟩
    have hBB := hB.trans (hb2.mono hB.size)
    replace k0 := k0.below hb2 k0.lt
    replace k1 := k1.below hb2 k1.lt
    replace hc1 := hc1.below hb2 hb1
    replace hb1 := Nat.lt_of_lt_of_le hb1 hb2.size
    clear c0 c1 c2 c3 c4 c5 d0 d1 d2 d3 hb2 hB
    obtain ⟨c0, c1, c2, c3, c4, c5, -⟩ := k0.six
    obtain ⟨d0, d1, d2, d3, -⟩ := k1.four
    have hs2 := hBB.size
    go_wp2_with fail
    refine (HFD.out w2 hb1 hc1).mono ?_
    rintro e w3 ⟨R, mb, g, cap, rfl, hP⟩
    have hb3 := hP.below
    have hmb := hP.mlt
    obtain ⟨F, hF, hS⟩ := hP.map
    have AL : Obj := .cells #[.slice (some ⟨g, 0, none⟩) s.q.length cap, .map (some mb)] 74
    have hB4 := Lib.hid ((hBB.trans (hb3.mono hs2)).alloc (Nat.le_trans hs2 hb3.size) (.cells #[.slice (some ⟨g, 0, none⟩) s.q.length cap, .map (some mb)] 74))
    have hR4 := blk_new w3 #[.slice (some ⟨g, 0, none⟩) s.q.length cap, .map (some mb)] 74
    have hF4 := hF.alloc (.cells #[.slice (some ⟨g, 0, none⟩) s.q.length cap, .map (some mb)] 74)
    have k14 := (k1.below hb3 k1.lt).alloc (.cells #[.slice (some ⟨g, 0, none⟩) s.q.length cap, .map (some mb)] 74)
    have hsz4 := hB4.out.size
    clear c0 c1 c2 c3 c4 c5 d0 d1 d2 d3 k0 k1 hc1 hb1 hb3 hBB hP AL hmb hF HFD
    go_upto_region 4 with fail
    generalize w3.alloc (.cells #[.slice (some ⟨g, 0, none⟩) s.q.length cap, .map (some mb)] 74) = w4 at *
    generalize w3.heap.size = br at *
    obtain ⟨d0, d1, d2, d3, -⟩ := k14.four
    obtain ⟨r0, r1, -⟩ := hR4.pair
    have HF4 := Lib.hid hF4
    have hFy : F (watV y) = arO J s f := by rw [HWA.out]; exact hS.1 f hfk
    by_cases hneg : s.tb.getD f 0 < 0
    · have HE := Lib.hid (show LL = [] ∧ CC = 6 by have h := HLC.out; rwa [if_pos hneg, if_pos hneg] at h)
      have HV := Lib.hid (show (F (watV y)).getD (arrV (fun _ => 0) (0, 0, 0) 0) = .agg #[.int .i16 0, .int .i16 0, .int .i16 0, .int .i16 0, .int .i8 0, .int .i8 0, .int .i8 0, .int .i16 0] by rw [hFy]; unfold arO; rw [if_neg (by omega)]; rfl)
      have HSM := Lib.hid (show (F (watV y)).isSome = false by rw [hFy]; unfold arO; rw [if_neg (by omega)]; rfl)
      clear HLC HI hS hF4 hfar hneg hFy hR4 k14
      go_wp2_with (first | (at_lookup; refine wpList_lookH_ok rfl _ _ 72 rfl 80 keyW Try.underlying72 (zeroArr _) rfl HF4.out (watV y) kE rfl HKE.out _ HV.out false HSM.out ?_) | fail)
      go_ret2
      rw [HE.out.1, HE.out.2]
      exact ⟨_, rfl, ⟨none, 0, rfl, .inl rfl⟩, hB4.out.alloc hsz4 _⟩
    · have HE := Lib.hid (show LL = wayV J.length s f ∧ CC = 0 by have h := HLC.out; rwa [if_neg hneg, if_neg hneg] at h)
      have HV := Lib.hid (show (F (watV y)).getD (arrV (fun _ => 0) (0, 0, 0) 0) = .agg #[.int .i16 (atV J (s.fr.getD f 0).toNat 0), .int .i16 (atV J (s.fr.getD f 0).toNat 1), .int .i16 (atV J (s.fr.getD f 0).toNat 2), .int .i16 (atV J (s.fr.getD f 0).toNat 3), .int .i8 (mvI (allM J.length) (s.mv.getD f 0).toNat).1, .int .i8 (mvI (allM J.length) (s.mv.getD f 0).toNat).2.1, .int .i8 (mvI (allM J.length) (s.mv.getD f 0).toNat).2.2, .int .i16 (s.tb.getD f 0)] by rw [hFy]; unfold arO; rw [if_pos (by omega)]; rfl)
      have HSM := Lib.hid (show (F (watV y)).isSome = true by rw [hFy]; unfold arO; rw [if_pos (by omega)]; rfl)
      have HWY := Lib.hid (fun (o : Obj) => (show Calls Try.prog 47 #[.agg #[.slice (some ⟨g, 0, none⟩) s.q.length cap, .map (some mb)], watV y] (w4.alloc o) _ from HWA.out ▸ wayTo_any (g := g) (n := s.q.length) (cap := cap) f (w4.alloc o) HJ.out HI.out ⟨F, hF4.alloc o, hS⟩ hfk (by omega)))
      clear HLC HI hS hF4 hfar hneg hFy
      generalize atV J (s.fr.getD f 0).toNat = A' at *
      generalize mvI (allM J.length) (s.mv.getD f 0).toNat = m' at *
      generalize s.tb.getD f 0 = z at *
      have k15 := k14.alloc (.cells #[.int .i16 (A' 0), .int .i16 (A' 1), .int .i16 (A' 2), .int .i16 (A' 3), .int .i8 m'.1, .int .i8 m'.2.1, .int .i8 m'.2.2, .int .i16 z] 80)
      have hR5 := hR4.alloc (.cells #[.int .i16 (A' 0), .int .i16 (A' 1), .int .i16 (A' 2), .int .i16 (A' 3), .int .i8 m'.1, .int .i8 m'.2.1, .int .i8 m'.2.2, .int .i16 z] 80)
      have HB5 := Lib.hid (hB4.out.alloc hsz4 (.cells #[.int .i16 (A' 0), .int .i16 (A' 1), .int .i16 (A' 2), .int .i16 (A' 3), .int .i8 m'.1, .int .i8 m'.2.1, .int .i8 m'.2.2, .int .i16 z] 80))
      have HWZ := Lib.hid (HWY.out (.cells #[.int .i16 (A' 0), .int .i16 (A' 1), .int .i16 (A' 2), .int .i16 (A' 3), .int .i8 m'.1, .int .i8 m'.2.1, .int .i8 m'.2.2, .int .i16 z] 80))
      clear HWY
      obtain ⟨dd0, dd1, dd2, dd3, -⟩ := k15.four
      obtain ⟨rr0, rr1, -⟩ := hR5.pair
      clear k14 hR4 k15 hR5
      go_wp2_with (first | (at_lookup; refine wpList_lookH_ok rfl _ _ 72 rfl 80 keyW Try.underlying72 (zeroArr _) rfl HF4.out (watV y) kE rfl HKE.out _ HV.out true HSM.out ?_) | fail)
      refine HWZ.out.mono ?_
      rintro e w6 ⟨v6, rfl, ⟨a6, c6, rfl, hX⟩, hb6⟩
      have HX := Lib.hid hX
      have HB6 := Lib.hid (HB5.out.trans (hb6.mono HB5.out.size))
      have hs5 := HB5.out.size
      clear hX hb6 HWZ d0 d1 d2 d3 r0 r1 dd0 dd1 dd2 dd3 rr0 rr1
      go_wp2
      go_ret2
      rw [HE.out.1, HE.out.2]
      refine ⟨_, rfl, ⟨a6, c6, rfl, ?_⟩, HB6.out⟩
      rcases HX.out with h | ⟨g, e, h1, h2, h3, h4⟩
      · exact .inl h
      · exact .inr ⟨g, e, Nat.le_trans hs5 h1, h2, h3, h4⟩
end Go.Proofs.Ytjmgalmndpjcoaa
