/-
  The walk of the law of DropWord.
-/
import Derived.Test.YtimdicpjpgdcbaaFQw
import Derived.Test.YtimdicpjpgdcbaaV6
import Derived.Deep.DeepCutAuto
import Derived.Deep.RegionHeld3
namespace Go.Proofs.Ytimdicpjpgdcbaa
open Go.RowKit
set_option linter.unusedVariables false

set_option maxRecDepth 100000 in
set_option maxHeartbeats 40000000 in
theorem walk_FnExactDropWord (l0 k0 : Int) (a0 : Option Addr) (c0 : Nat) (ws0 : List Wf) (i1 : Int) (w : World) (p0 : B8 l0) (q0 : B8 k0) (m0 : ws0.length ≤ 9223372036854775807) (s0 : Slw w.heap.size w a0 ws0) (r0 : Wall ws0) (p1 : -9223372036854775808 ≤ i1 ∧ i1 ≤ 9223372036854775807) :
    Calls Try.prog 4 #[fixV l0 k0 a0 ws0.length c0, .int .i64 i1] w fun e w' => e = .returned (.bool true) ∧ Below w.heap.size w w' := by
  have F0 := (FW.start w).box #[.int .i8 l0, .int .i8 k0, .slice a0 ws0.length c0] 25
  have HS0 := Lib.hid s0
  clear s0
  have HZ := Lib.hid (szFixed_fq (F0.fq (Q := fun _ => True) trivial stab_true) l0 k0 a0 ws0.length c0 m0)
  obtain ⟨c_0, c_1, c_2, -⟩ := (F0.blk _ List.mem_cons_self).three
  by_cases z0' : (1048576 : Int) < ws0.length
  · simp only [if_pos z0'] at HZ
    clear F0 z0'
    go_enter Try.func4, Try.ntmps4
    go_wp2_with fail
    refine HZ.out.mono ?_
    rintro e w1 ⟨rfl, F1⟩
    go_wp2
    go_ret
    exact ⟨rfl, F1.fr.below⟩
  have hn0 : ws0.length ≤ 1048576 := by omega
  have hz0 : (ws0.length : Int) ≤ 1048576 := by omega
  have HSp := Lib.hid (fun (W : World) (g' : Nat) (h : g' < W.heap.size) (h' : WAt W g' 0 ws0) => specDropWord_any l0 k0 g' ws0 i1 W h h' p0 q0 hn0 r0 p1)
  have HIm := Lib.hid (fun (W : World) (g' : Nat) (h : g' < W.heap.size) (h' : WAt W g' 0 ws0) => dropWord_any l0 k0 g' ws0 i1 W h h' p0 q0 hn0 r0 p1)
  have hmm0 := dwY_len l0 k0 ws0 i1
  have hmm : (dwY l0 k0 ws0 i1).length ≤ 1048576 := by omega
  generalize dwY l0 k0 ws0 i1 = X at *
  generalize dwL l0 k0 ws0 i1 = A at *
  generalize dwK l0 k0 ws0 i1 = B at *
  generalize dwC l0 k0 ws0 i1 = C at *
  simp only [if_neg z0'] at HZ
  clear F0 z0'
  go_enter Try.func4, Try.ntmps4
  go_wp2_with fail
  refine HZ.out.mono ?_
  rintro e w1 ⟨rfl, G1⟩
  clear HZ c_0 c_1 c_2
  obtain ⟨c_0, c_1, c_2, -⟩ := (G1.fr.blk _ List.mem_cons_self).three
  go_wp2_with fail
  refine (toFixed_fq G1 l0 k0 a0 c0 ws0 hn0 HS0.out).mono ?_
  rintro e w1a ⟨r0q, rfl, -, G1a⟩
  clear c_0 c_1 c_2
  go_wp2_with fail
  refine (Calls.frW (p := (w.heap.size, #[.int .i8 l0, .int .i8 k0, .slice a0 ws0.length c0], 25)) G1a List.mem_cons_self List.mem_cons_self (fun h2 h3 => HSp.out _ _ h2 h3)).mono ?_
  rintro e w1b ⟨a6, c6, rfl, Mh6, Fh6⟩
  clear G1 G1a HSp
  obtain ⟨h6, hqh6⟩ : ∃ h6, h6 = w1b.heap.size := ⟨_, rfl⟩
  rw [← hqh6] at Mh6
  have hb6 := (Fh6.fr.blk _ List.mem_cons_self).lt
  have G2 := (Fh6.re (R' := []) (Q' := fun W => IXW (w.heap.size + 1) h6 W a6 X) (fun p hp => by cases hp) Mh6 (stab_ixw _ _ _ _)).box #[.int .i8 A, .int .i8 B, .slice a6 X.length c6] 30
  rw [← hqh6] at G2
  clear Fh6 Mh6
  obtain ⟨c_0, c_1, c_2, -⟩ := (G2.fr.blk _ (List.mem_cons_of_mem _ List.mem_cons_self)).three
  go_wp2_with fail
  rw [← hqh6]
  refine (toFixed_fq G2 l0 k0 a0 c0 ws0 hn0 HS0.out).mono ?_
  rintro e w3 ⟨z0, rfl, hz6, G3⟩
  have hzb := (G3.fr.row _ List.mem_cons_self).lt
  have hz66 : h6 + 1 ≤ z0 := by have h := hz6; rw [World.size_alloc] at h; omega
  have hb1 : w.heap.size < h6 := by rw [hqh6]; exact hb6
  have HZZ := Lib.hid (show w.heap.size < h6 ∧ h6 + 1 ≤ z0 ∧ z0 < w3.heap.size from ⟨hb1, hz66, hzb⟩)
  have G4 := G3.box #[.int .i8 l0, .int .i8 k0, .slice (some ⟨z0, 0, none⟩) ws0.length ws0.length] 30
  replace G4 : FQ w _ [(z0, ws0)] _ _ := G4
  clear c_0 c_1 c_2 G2 G3 hz6 hzb hb1 hz66 hqh6 hb6
  obtain ⟨x_0, x_1, x_2, -⟩ := (G4.fr.blk _ List.mem_cons_self).three
  go_wp2_with fail
  refine (Calls.frW (p := (w3.heap.size, #[.int .i8 l0, .int .i8 k0, .slice (some ⟨z0, 0, none⟩) ws0.length ws0.length], 30)) G4 List.mem_cons_self List.mem_cons_self (fun h2 h3 => HIm.out _ _ h2 h3)).mono ?_
  rintro e w5 ⟨a9, c9, rfl, Mh9, Fh9⟩
  clear x_0 x_1 x_2 G4
  obtain ⟨h9, hqh9⟩ : ∃ h9, h9 = w5.heap.size := ⟨_, rfl⟩
  have hb9 := (Fh9.fr.blk _ List.mem_cons_self).lt
  rw [← hqh9] at Mh9
  have G5 := (Fh9.re (R' := [(z0, ws0)]) (Q' := fun W => IXW (w.heap.size + 1) h6 W a6 X ∧ IXW (w3.heap.size + 1) h9 W a9 X) (fun p hp => hp) ⟨Fh9.q, Mh9⟩ ((stab_ixw _ _ _ _).and (stab_ixw _ _ _ _))).box #[.int .i8 A, .int .i8 B, .slice a9 X.length c9] 30
  rw [← hqh9] at G5
  have HZ9 := Lib.hid (show w3.heap.size < h9 by rw [hqh9]; exact hb9)
  clear Fh9 Mh9 hb9
  obtain ⟨x_0, x_1, x_2, -⟩ := (G5.fr.blk _ List.mem_cons_self).three
  obtain ⟨y_0, y_1, y_2, -⟩ := (G5.fr.blk _ (List.mem_cons_of_mem _ (List.mem_cons_of_mem _ List.mem_cons_self))).three
  go_wp2_with fail
  rw [← hqh9]
  refine (eqFixX_fq G5 G5.q.2 G5.q.1 A B _ _ hmm).mono ?_
  rintro e w6 ⟨rfl, G6⟩
  clear x_0 x_1 x_2 y_0 y_1 y_2 G5 hqh9
  have HL1 := Lib.hid (show ∀ p ∈ ([(h9, #[.int .i8 A, .int .i8 B, .slice a9 X.length c9], 30), (w3.heap.size, #[.int .i8 l0, .int .i8 k0, .slice (some ⟨z0, 0, none⟩) ws0.length ws0.length], 30), (h6, #[.int .i8 A, .int .i8 B, .slice a6 X.length c6], 30), (w.heap.size, #[.int .i8 l0, .int .i8 k0, .slice a0 ws0.length c0], 25)] : List (Nat × Array Value × TypeId)), p.1 ≠ z0 from fun p hp => by
    have := HZZ.out
    have := HZ9.out
    simp only [List.mem_cons, List.not_mem_nil, or_false] at hp
    rcases hp with rfl | rfl | rfl | rfl <;> simp only <;> omega)
  have HL2 := Lib.hid (show ∀ p ∈ ([(h9, #[.int .i8 A, .int .i8 B, .slice a9 X.length c9], 30), (w3.heap.size, #[.int .i8 l0, .int .i8 k0, .slice (some ⟨z0, 0, none⟩) ws0.length ws0.length], 30), (h6, #[.int .i8 A, .int .i8 B, .slice a6 X.length c6], 30), (w.heap.size, #[.int .i8 l0, .int .i8 k0, .slice a0 ws0.length c0], 25)] : List (Nat × Array Value × TypeId)), p.1 < w3.heap.size + 1 ∨ h9 ≤ p.1 from fun p hp => by
    have := HZZ.out
    have := HZ9.out
    simp only [List.mem_cons, List.not_mem_nil, or_false] at hp
    rcases hp with rfl | rfl | rfl | rfl <;> simp only <;> omega)
  have HO := Lib.hid (show w.heap.size ≤ z0 ∧ h6 ≤ z0 ∧ z0 < w3.heap.size + 1 ∧ w.heap.size ≤ w3.heap.size + 1 ∧ h6 ≤ w3.heap.size + 1 from by have := HZZ.out; omega)
  clear HZZ HZ9
  go_wp2_with fail
  have G7 := G6.drew
  go_region_held3 (fun W' => W'.cell? ⟨w3.heap.size, 0, none⟩ = some (.int .i8 l0) ∧ W'.cell? ⟨w3.heap.size, 1, none⟩ = some (.int .i8 k0) ∧ W'.cell? ⟨w3.heap.size, 2, none⟩ = some (.slice (some ⟨z0, 0, none⟩) ws0.length ws0.length) ∧ W'.cell? ⟨w.heap.size, 0, none⟩ = some (.int .i8 l0) ∧ W'.cell? ⟨w.heap.size, 1, none⟩ = some (.int .i8 k0) ∧ W'.cell? ⟨w.heap.size, 2, none⟩ = some (.slice a0 ws0.length c0))
    (first
      | exact ⟨(G9.fr.blk _ (List.mem_cons_of_mem _ List.mem_cons_self)).cell 0, (G9.fr.blk _ (List.mem_cons_of_mem _ List.mem_cons_self)).cell 1, (G9.fr.blk _ (List.mem_cons_of_mem _ List.mem_cons_self)).cell 2, (G9.fr.blk _ (List.mem_cons_of_mem _ (List.mem_cons_of_mem _ (List.mem_cons_of_mem _ List.mem_cons_self)))).cell 0, (G9.fr.blk _ (List.mem_cons_of_mem _ (List.mem_cons_of_mem _ (List.mem_cons_of_mem _ List.mem_cons_self)))).cell 1, (G9.fr.blk _ (List.mem_cons_of_mem _ (List.mem_cons_of_mem _ (List.mem_cons_of_mem _ List.mem_cons_self)))).cell 2⟩
      | exact ⟨(G8.fr.blk _ (List.mem_cons_of_mem _ List.mem_cons_self)).cell 0, (G8.fr.blk _ (List.mem_cons_of_mem _ List.mem_cons_self)).cell 1, (G8.fr.blk _ (List.mem_cons_of_mem _ List.mem_cons_self)).cell 2, (G8.fr.blk _ (List.mem_cons_of_mem _ (List.mem_cons_of_mem _ (List.mem_cons_of_mem _ List.mem_cons_self)))).cell 0, (G8.fr.blk _ (List.mem_cons_of_mem _ (List.mem_cons_of_mem _ (List.mem_cons_of_mem _ List.mem_cons_self)))).cell 1, (G8.fr.blk _ (List.mem_cons_of_mem _ (List.mem_cons_of_mem _ (List.mem_cons_of_mem _ List.mem_cons_self)))).cell 2⟩
      | exact ⟨(G7.fr.blk _ (List.mem_cons_of_mem _ List.mem_cons_self)).cell 0, (G7.fr.blk _ (List.mem_cons_of_mem _ List.mem_cons_self)).cell 1, (G7.fr.blk _ (List.mem_cons_of_mem _ List.mem_cons_self)).cell 2, (G7.fr.blk _ (List.mem_cons_of_mem _ (List.mem_cons_of_mem _ (List.mem_cons_of_mem _ List.mem_cons_self)))).cell 0, (G7.fr.blk _ (List.mem_cons_of_mem _ (List.mem_cons_of_mem _ (List.mem_cons_of_mem _ List.mem_cons_self)))).cell 1, (G7.fr.blk _ (List.mem_cons_of_mem _ (List.mem_cons_of_mem _ (List.mem_cons_of_mem _ List.mem_cons_self)))).cell 2⟩)
    (first
      | (go_at_call 7; with_reducible refine (toFixed_fq G7 l0 k0 a0 c0 ws0 hn0 HS0.out).mono ?_; rintro e w8 ⟨y0, rfl, -, G8⟩)
      | (go_at_call 10; with_reducible refine (eqFixed_fq G8 (List.mem_cons_of_mem _ List.mem_cons_self) List.mem_cons_self _ _ _ _ hn0).mono ?_; rintro e w9 ⟨rfl, G9⟩))
  clear G6
  clear G7
  clear G8
  obtain ⟨x_0, x_1, x_2, -⟩ := (G9.fr.blk _ (List.mem_cons_of_mem _ List.mem_cons_self)).three
  go_wp2_with fail
  refine (markFixedW_fq G9 (List.mem_cons_of_mem _ List.mem_cons_self) l0 k0 _ hn0 HO.out.1 HO.out.2.1 HO.out.2.2.1 HL1.out).mono ?_
  rintro e w10 ⟨rfl, G10⟩
  clear x_0 x_1 x_2 G9 HL1
  obtain ⟨x_0, x_1, x_2, -⟩ := (G10.fr.blk _ List.mem_cons_self).three
  obtain ⟨y_0, y_1, y_2, -⟩ := (G10.fr.blk _ (List.mem_cons_of_mem _ (List.mem_cons_of_mem _ List.mem_cons_self))).three
  go_wp2_with fail
  refine (eqFixX_fq G10 G10.q.2 G10.q.1 A B _ _ hmm).mono ?_
  rintro e w11 ⟨rfl, G11⟩
  clear x_0 x_1 x_2 y_0 y_1 y_2 G10
  obtain ⟨x_0, x_1, x_2, -⟩ := (G11.fr.blk _ List.mem_cons_self).three
  go_wp2_with fail
  refine (markFixX_fq G11 A B _ hmm HO.out.2.2.2.1 HO.out.2.2.2.2 HL2.out).mono ?_
  rintro e w12 ⟨rfl, G12⟩
  clear x_0 x_1 x_2 G11 HL2 HO
  obtain ⟨x_0, x_1, x_2, -⟩ := (G12.fr.blk _ List.mem_cons_self).three
  go_wp2_with fail
  refine (heldFixX_fq G12 G12.q.2 A B _ hmm).mono ?_
  rintro e w13 ⟨rfl, G13⟩
  clear x_0 x_1 x_2 G12
  obtain ⟨c_0, c_1, c_2, -⟩ := (G13.fr.blk _ (List.mem_cons_of_mem _ (List.mem_cons_of_mem _ (List.mem_cons_of_mem _ List.mem_cons_self)))).three
  go_wp2_with fail
  refine (toFixed_fq G13 l0 k0 a0 c0 ws0 hn0 HS0.out).mono ?_
  rintro e w14 ⟨r1q, rfl, -, G14⟩
  clear c_0 c_1 c_2 G13
  go_wp2_with fail
  refine (Calls.frW (p := (h9, #[.int .i8 A, .int .i8 B, .slice a9 X.length c9], 30)) G14 List.mem_cons_self List.mem_cons_self (fun h2 h3 => HIm.out _ _ h2 h3)).mono ?_
  rintro e w14b ⟨a14, c14, rfl, Mh14, Fh14⟩
  clear G14
  have M14 := Mh14.below ((Below.refl _ _).alloc (Nat.le_refl _) (.cells #[.int .i8 A, .int .i8 B, .slice a14 X.length c14] 30))
  have G15 := Fh14.box #[.int .i8 A, .int .i8 B, .slice a14 X.length c14] 30
  clear Fh14 Mh14
  obtain ⟨x_0, x_1, x_2, -⟩ := (G15.fr.blk _ List.mem_cons_self).three
  obtain ⟨y_0, y_1, y_2, -⟩ := (G15.fr.blk _ (List.mem_cons_of_mem _ (List.mem_cons_of_mem _ (List.mem_cons_of_mem _ List.mem_cons_self)))).three
  go_wp2_with fail
  refine (eqFixX_fq G15 M14 G15.q.1 A B _ _ hmm).mono ?_
  rintro e w15 ⟨rfl, G16⟩
  clear x_0 x_1 x_2 y_0 y_1 y_2 G15 M14
  obtain ⟨x_0, x_1, x_2, -⟩ := (G16.fr.blk _ (List.mem_cons_of_mem _ List.mem_cons_self)).three
  go_wp2_with fail
  refine (heldFixX_fq G16 G16.q.2 A B _ hmm).mono ?_
  rintro e w16 ⟨rfl, G17⟩
  have HB := Lib.hid G17.fr.below
  clear x_0 x_1 x_2 G16 G17
  go_wp2
  go_ret
  exact ⟨rfl, HB.out⟩
end Go.Proofs.Ytimdicpjpgdcbaa
