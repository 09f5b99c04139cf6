/-
  The walk of the law of PanOf.
-/
import Derived.Test.YtlkkjjbihgiiiaaE10
import Derived.Deep.RegionHeld3
import Derived.Deep.MidRow
namespace Go.Proofs.Ytlkkjjbihgiiiaa
open Go.RowKit
set_option linter.unusedVariables false

set_option maxRecDepth 100000 in
set_option maxHeartbeats 8000000 in
theorem walk_FnExactPanOf (l0 k0 : Int) (a0 : Option Addr) (c0 : Nat) (ws0 : List Wf) (n1 : Int) (w : World) (p0 : B8 l0) (q0 : B8 k0) (m0 : ws0.length ≤ 9223372036854775807) (s0 : Slw w.heap.size w a0 ws0) (r0 : Wall ws0) (p1 : -9223372036854775808 ≤ n1 ∧ n1 ≤ 9223372036854775807) :
    Calls Try.prog 6 #[fixV l0 k0 a0 ws0.length c0, .int .i64 n1] w fun e w' => e = .returned (.bool true) ∧ Below w.heap.size w w' := by
  have F0 := (FR.start w).box #[.int .i8 l0, .int .i8 k0, .slice a0 ws0.length c0] 25
  by_cases z0 : (1048576 : Int) < ws0.length
  · have HZ := szFixed_any l0 k0 a0 ws0.length c0 1048576
    simp only [if_pos z0] at HZ
    obtain ⟨d_0, d_1, d_2, -⟩ := (F0.blk _ (List.mem_cons_self)).three
    go_enter Try.func6, Try.ntmps6
    go_wp2_with fail
    refine (Calls.fr F0 (HZ _ (by omega) m0)).mono ?_
    rintro e w1 ⟨rfl, F1⟩
    clear d_0 d_1 d_2 HZ F0
    have HB := Lib.hid F1.below
    clear F1
    go_wp2
    go_ret
    exact ⟨rfl, HB.out⟩
  have hn0 : ws0.length ≤ 1048576 := by omega
  have hz0 : 0 ≤ 1048576 - (ws0.length : Int) ∧ 1048576 - (ws0.length : Int) ≤ 1048576 := by omega
  have HZ0 := Lib.hid (fun W => szFixed_any l0 k0 a0 ws0.length c0 1048576 W (by omega) m0)
  simp only [if_neg z0] at HZ0
  clear z0
  obtain ⟨left, hleft⟩ : ∃ left, 1048576 - (ws0.length : Int) = left := ⟨_, rfl⟩
  rw [hleft] at hz0 HZ0
  clear hleft
  have HS := Lib.hid (fun (W : World) (a0' : Option Addr) (c0' : Nat) (hs0 : Slw W.heap.size W a0' ws0) => specPanOf_any l0 k0 a0' c0' ws0 n1 W hs0 p0 q0 hn0 r0 p1)
  have HIm := Lib.hid (fun (W : World) (a0' : Option Addr) (c0' : Nat) (hs0 : Slw W.heap.size W a0' ws0) => panOf_any l0 k0 a0' c0' ws0 n1 W hs0 p0 q0 hn0 r0 p1)
  unfold PanS at HS
  unfold PanA at HIm
  have hX : (poL l0 k0 ws0 n1 (-1)).length ≤ 80 := poL_len _ _ _ _ _
  have hY : (poL l0 k0 ws0 n1 1).length ≤ 80 := poL_len _ _ _ _ _
  generalize poL l0 k0 ws0 n1 (-1) = X at *
  generalize poL l0 k0 ws0 n1 1 = Y at *
  generalize poC l0 k0 ws0 n1 = cc at *
  have hX2 : X.length ≤ 1048576 := by omega
  have hY2 : Y.length ≤ 1048576 := by omega
  go_enter Try.func6, Try.ntmps6
  obtain ⟨d0, d1, d2, -⟩ := (F0.blk _ (List.mem_cons_self)).three
  go_wp2_with fail
  refine (Calls.fr F0 (HZ0.out _)).mono ?_
  rintro e w1 ⟨rfl, F1⟩
  clear F0 d0 d1 d2 HZ0
  have G1 : FQ w _ (fun _ => True) w1 := ⟨F1, trivial, fun _ _ _ _ => trivial⟩
  clear F1
  obtain ⟨d0, d1, d2, -⟩ := (G1.fr.blk _ (List.mem_cons_self)).three
  go_wp2_with fail
  refine (toFixed_fq G1 l0 k0 a0 c0 ws0 hn0 s0).mono ?_
  rintro e w2 ⟨g2, rfl, -, -, G2⟩
  clear G1 d0 d1 d2
  go_wp2_with fail
  refine (HS.out w2 _ _ (Slw.own G2.q.1)).mono ?_
  rintro e w3 ⟨⟨b0, e0, b1, e1, rfl, A0, A1⟩, hb3⟩
  have G3 := (G2.next hb3).re (Q' := fun W => IX w2.heap.size w3.heap.size W b0 X ∧ IX w2.heap.size w3.heap.size W b1 Y) ⟨A0, A1⟩ ((stab_ix _ _ _ _).and (stab_ix _ _ _ _))
  clear G2 A0 A1 hb3 HS
  obtain ⟨d0, d1, d2, -⟩ := (G3.fr.blk _ (List.mem_cons_self)).three
  go_wp2_with fail
  refine (toFixed_fq G3 l0 k0 a0 c0 ws0 hn0 s0).mono ?_
  rintro e w4 ⟨z, rfl, hz1, hz2, G4⟩
  have hwz := (G3.fr.blk _ (List.mem_cons_self)).lt
  dsimp only at hwz
  clear G3 d0 d1 d2
  have G5 := G4.box #[.int .i8 l0, .int .i8 k0, .slice (some ⟨z, 0, none⟩) ws0.length ws0.length] 30
  have haF := (G4.fr.blk _ (List.mem_cons_self)).lt
  dsimp only at haF
  clear G4
  go_upto_region 7 with fail
  have hsz5 : (w4.alloc (.cells #[.int .i8 l0, .int .i8 k0, .slice (some ⟨z, 0, none⟩) ws0.length ws0.length] 30)).heap.size = w4.heap.size + 1 := by simp
  generalize hw5 : w4.alloc (.cells #[.int .i8 l0, .int .i8 k0, .slice (some ⟨z, 0, none⟩) ws0.length ws0.length] 30) = w5 at *
  generalize hxb : w4.heap.size = xb at *
  clear hw5 hxb
  obtain ⟨d0, d1, d2, -⟩ := (G5.fr.blk _ (List.mem_cons_self)).three
  go_wp2_with fail
  refine (HIm.out w5 _ _ (Slw.own G5.q.1)).mono ?_
  rintro e w6 ⟨⟨a0', c0', a1', c1', mid, rfl, hm1, hm2, B0, B1⟩, hb6⟩
  have G6 := (G5.next hb6).re (Q' := fun W => Blk W z (wcells ws0) 47 ∧ (IX w2.heap.size w3.heap.size W b0 X ∧ IX w2.heap.size w3.heap.size W b1 Y) ∧ IX w5.heap.size mid W a0' X ∧ IX mid w6.heap.size W a1' Y) ⟨(G5.next hb6).q.1, (G5.next hb6).q.2, B0, B1⟩ ((stab_blk _ _ _).and (((stab_ix _ _ _ _).and (stab_ix _ _ _ _)).and ((stab_ix _ _ _ _).and (stab_ix _ _ _ _))))
  have hz56 : w.heap.size < w3.heap.size ∧ w3.heap.size ≤ z ∧ z < xb ∧ w.heap.size < xb ∧ w5.heap.size = xb + 1 ∧ w5.heap.size ≤ mid ∧ mid ≤ w6.heap.size := ⟨hwz, hz1, hz2, haF, hsz5, hm1, hm2⟩
  have HZS := Lib.hid hz56
  clear G5 d0 d1 d2 hb6 B0 B1 hm1 hm2 hz56 hwz hz1 hz2 haF hsz5
  go_wp2_with fail
  refine (Calls.fq G6 (eqI_x G6.q.2.2.1 G6.q.2.1.1 _ _ hX2)).mono ?_
  rintro e w7 ⟨rfl, G7⟩
  clear G6
  go_wp2_with fail
  refine (Calls.fq G7 (eqI_x G7.q.2.2.2 G7.q.2.1.2 _ _ hY2)).mono ?_
  rintro e w8 ⟨rfl, G8⟩
  clear G7
  go_wp2_with fail
  have G9 := G8.drew
  go_region_held3 (fun w' => w'.cell? ⟨xb, 0, none⟩ = some (.int .i8 l0) ∧ w'.cell? ⟨xb, 1, none⟩ = some (.int .i8 k0) ∧ w'.cell? ⟨xb, 2, none⟩ = some (.slice (some ⟨z, 0, none⟩) ws0.length ws0.length) ∧ w'.cell? ⟨w.heap.size, 0, none⟩ = some (.int .i8 l0) ∧ w'.cell? ⟨w.heap.size, 1, none⟩ = some (.int .i8 k0) ∧ w'.cell? ⟨w.heap.size, 2, none⟩ = some (.slice a0 ws0.length c0))
    (first | exact ⟨(G11.fr.blk _ (List.mem_cons_self)).cell 0, (G11.fr.blk _ (List.mem_cons_self)).cell 1, (G11.fr.blk _ (List.mem_cons_self)).cell 2, (G11.fr.blk _ (List.mem_cons_of_mem _ (List.mem_cons_self))).cell 0, (G11.fr.blk _ (List.mem_cons_of_mem _ (List.mem_cons_self))).cell 1, (G11.fr.blk _ (List.mem_cons_of_mem _ (List.mem_cons_self))).cell 2⟩ | exact ⟨(G10.fr.blk _ (List.mem_cons_self)).cell 0, (G10.fr.blk _ (List.mem_cons_self)).cell 1, (G10.fr.blk _ (List.mem_cons_self)).cell 2, (G10.fr.blk _ (List.mem_cons_of_mem _ (List.mem_cons_self))).cell 0, (G10.fr.blk _ (List.mem_cons_of_mem _ (List.mem_cons_self))).cell 1, (G10.fr.blk _ (List.mem_cons_of_mem _ (List.mem_cons_self))).cell 2⟩ | exact ⟨(G9.fr.blk _ (List.mem_cons_self)).cell 0, (G9.fr.blk _ (List.mem_cons_self)).cell 1, (G9.fr.blk _ (List.mem_cons_self)).cell 2, (G9.fr.blk _ (List.mem_cons_of_mem _ (List.mem_cons_self))).cell 0, (G9.fr.blk _ (List.mem_cons_of_mem _ (List.mem_cons_self))).cell 1, (G9.fr.blk _ (List.mem_cons_of_mem _ (List.mem_cons_self))).cell 2⟩)
    (first
      | (go_at_call 11; with_reducible refine (toFixed_fq G9 l0 k0 a0 c0 ws0 hn0 s0).mono ?_; rintro e w10 ⟨y, rfl, -, -, G10⟩)
      | (go_at_call 13; with_reducible refine (eqFixed_fq G10 G10.q.2.1 G10.q.1 l0 k0 _ _ hn0).mono ?_; rintro e w11 ⟨rfl, G11⟩))
  clear G8
  clear G9
  clear G10
  obtain ⟨d0, d1, d2, -⟩ := (G11.fr.blk _ (List.mem_cons_self)).three
  go_wp2_with fail
  refine (markFixed_fq (Q' := fun W => (IX w2.heap.size w3.heap.size W b0 X ∧ IX w2.heap.size w3.heap.size W b1 Y) ∧ IX w5.heap.size mid W a0' X ∧ IX mid w6.heap.size W a1' Y) G11 G11.q.2.1 l0 k0 _ hn0 (by have := HZS.out; omega) (fun p hp => by
    have := HZS.out
    simp only [List.mem_cons, List.not_mem_nil, or_false] at hp
    rcases hp with rfl | rfl <;> simp only <;> omega) (fun x1 x2 hq ho => by
    have := HZS.out
    exact ⟨⟨hq.2.2.1.1.only ho (.inr (by omega)), hq.2.2.1.2.only ho (.inr (by omega))⟩, hq.2.2.2.1.only ho (.inl (by omega)), hq.2.2.2.2.only ho (.inl (by omega))⟩) (((stab_ix _ _ _ _).and (stab_ix _ _ _ _)).and ((stab_ix _ _ _ _).and (stab_ix _ _ _ _)))).mono ?_
  rintro e w12 ⟨km, rfl, hkm, G12⟩
  clear G11 d0 d1 d2
  go_wp2_with fail
  refine (Calls.fq G12 (eqI_x G12.q.2.1 G12.q.1.1 _ _ hX2)).mono ?_
  rintro e w13 ⟨rfl, G13⟩
  clear G12
  go_wp2_with fail
  refine (Calls.fq G13 (eqI_x G13.q.2.2 G13.q.1.2 _ _ hY2)).mono ?_
  rintro e w14 ⟨rfl, G14⟩
  clear G13
  go_wp2_with fail
  refine (markI_x G14.q.2.1 _ 1 hX2 (by omega)).mono ?_
  rintro e w15 ⟨rfl, M0, ho⟩
  have G15 := G14.only2 (Q' := fun W => (IX w2.heap.size w3.heap.size W b0 X ∧ IX w2.heap.size w3.heap.size W b1 Y) ∧ HI w5.heap.size mid W a0' 1 X.length ∧ IX mid w6.heap.size W a1' Y) ho (by have := HZS.out; omega) (fun p hp => by
    have := HZS.out
    simp only [List.mem_cons, List.not_mem_nil, or_false] at hp
    rcases hp with rfl | rfl <;> simp only <;> omega) (by
    have := HZS.out
    exact ⟨⟨G14.q.1.1.only2 ho (.inl (by omega)), G14.q.1.2.only2 ho (.inl (by omega))⟩, M0, G14.q.2.2.only2 ho (.inr (by omega))⟩) (((stab_ix _ _ _ _).and (stab_ix _ _ _ _)).and ((stab_hi _ _ _ _ _).and (stab_ix _ _ _ _)))
  clear G14 M0 ho
  have hk1 : 0 ≤ 1 + (X.length : Int) ∧ 1 + (X.length : Int) ≤ 10000000 := by omega
  obtain ⟨kx, hkx⟩ : ∃ kx, 1 + (X.length : Int) = kx := ⟨_, rfl⟩
  rw [hkx] at hk1 ⊢
  have HKX := Lib.hid hkx
  clear hkx
  go_wp2_with fail
  refine (markI_x G15.q.2.2 _ kx hY2 hk1).mono ?_
  rintro e w16 ⟨rfl, M1, ho⟩
  have G16 := G15.only2 (Q' := fun W => (IX w2.heap.size w3.heap.size W b0 X ∧ IX w2.heap.size w3.heap.size W b1 Y) ∧ HI w5.heap.size mid W a0' 1 X.length ∧ HI mid w6.heap.size W a1' kx Y.length) ho (by have := HZS.out; omega) (fun p hp => by
    have := HZS.out
    simp only [List.mem_cons, List.not_mem_nil, or_false] at hp
    rcases hp with rfl | rfl <;> simp only <;> omega) (by
    have := HZS.out
    exact ⟨⟨G15.q.1.1.only2 ho (.inl (by omega)), G15.q.1.2.only2 ho (.inl (by omega))⟩, G15.q.2.1.only2 ho (.inl (by omega)), M1⟩) (((stab_ix _ _ _ _).and (stab_ix _ _ _ _)).and ((stab_hi _ _ _ _ _).and (stab_hi _ _ _ _ _)))
  clear G15 M1 ho
  have hk2 : 0 ≤ kx + (Y.length : Int) ∧ kx + (Y.length : Int) ≤ 10000000 := by have := HKX.out; omega
  obtain ⟨ky, hky⟩ : ∃ ky, kx + (Y.length : Int) = ky := ⟨_, rfl⟩
  rw [hky] at hk2 ⊢
  have HKY := Lib.hid hky
  clear hky
  have h0_16 := Lib.hid (show ∀ c W, W = w16 → Calls Try.prog 23 #[.slice a0' X.length c, .int .i64 1] W fun e w' => e = .returned (.int .i64 kx) ∧ W = w' from fun c W e => by subst e; have := heldI_x G16.q.2.1 c hX2 (by omega); rwa [HKX.out] at this)
  have h1_16 := Lib.hid (show ∀ c W, W = w16 → Calls Try.prog 23 #[.slice a1' Y.length c, .int .i64 kx] W fun e w' => e = .returned (.int .i64 ky) ∧ W = w' from fun c W e => by subst e; have := heldI_x G16.q.2.2 c hY2 hk1; rwa [HKY.out] at this)
  go_wp2_with fail
  refine (h0_16.out _ _ rfl).mono ?_
  rintro e wx ⟨rfl, rfl⟩
  go_wp2_with fail
  refine (h1_16.out _ _ rfl).mono ?_
  rintro e wx ⟨rfl, rfl⟩
  obtain ⟨d0, d1, d2, -⟩ := (G16.fr.blk _ (List.mem_cons_of_mem _ (List.mem_cons_self))).three
  go_wp2_with fail
  refine (toFixed_fq G16 l0 k0 a0 c0 ws0 hn0 s0).mono ?_
  rintro e w17 ⟨g17, rfl, -, -, G17⟩
  clear G16 d0 d1 d2 h0_16 h1_16
  go_wp2_with fail
  refine (HIm.out w17 _ _ (Slw.own G17.q.1)).mono ?_
  rintro e w18 ⟨⟨f0, f0', f1, f1', mid2, rfl, -, -, B0, B1⟩, hb18⟩
  have G18 := (G17.next hb18).re (Q' := fun W => ((IX w2.heap.size w3.heap.size W b0 X ∧ IX w2.heap.size w3.heap.size W b1 Y) ∧ HI w5.heap.size mid W a0' 1 X.length ∧ HI mid w6.heap.size W a1' kx Y.length) ∧ IX w17.heap.size mid2 W f0 X ∧ IX mid2 w18.heap.size W f1 Y) ⟨(G17.next hb18).q.2, B0, B1⟩ ((((stab_ix _ _ _ _).and (stab_ix _ _ _ _)).and ((stab_hi _ _ _ _ _).and (stab_hi _ _ _ _ _))).and ((stab_ix _ _ _ _).and (stab_ix _ _ _ _)))
  clear G17 B0 B1 hb18
  go_wp2_with fail
  refine (Calls.fq G18 (eqI_x G18.q.2.1 G18.q.1.1.1 _ _ hX2)).mono ?_
  rintro e w19 ⟨rfl, G19⟩
  clear G18
  go_wp2_with fail
  refine (Calls.fq G19 (eqI_x G19.q.2.2 G19.q.1.1.2 _ _ hY2)).mono ?_
  rintro e w20 ⟨rfl, G20⟩
  clear G19
  have G21 := G20.re G20.q.1 (((stab_ix _ _ _ _).and (stab_ix _ _ _ _)).and ((stab_hi _ _ _ _ _).and (stab_hi _ _ _ _ _)))
  clear G20
  have h0_20 := Lib.hid (show ∀ c W, W = w20 → Calls Try.prog 23 #[.slice a0' X.length c, .int .i64 1] W fun e w' => e = .returned (.int .i64 kx) ∧ W = w' from fun c W e => by subst e; have := heldI_x G21.q.2.1 c hX2 (by omega); rwa [HKX.out] at this)
  have h1_20 := Lib.hid (show ∀ c W, W = w20 → Calls Try.prog 23 #[.slice a1' Y.length c, .int .i64 kx] W fun e w' => e = .returned (.int .i64 ky) ∧ W = w' from fun c W e => by subst e; have := heldI_x G21.q.2.2 c hY2 hk1; rwa [HKY.out] at this)
  go_wp2_with fail
  refine (h0_20.out _ _ rfl).mono ?_
  rintro e wx ⟨rfl, rfl⟩
  go_wp2_with fail
  refine (h1_20.out _ _ rfl).mono ?_
  rintro e wx ⟨rfl, rfl⟩
  have HB := Lib.hid G21.fr.below
  clear G21 h0_20 h1_20
  go_wp2
  go_ret
  exact ⟨rfl, HB.out⟩
end Go.Proofs.Ytlkkjjbihgiiiaa
