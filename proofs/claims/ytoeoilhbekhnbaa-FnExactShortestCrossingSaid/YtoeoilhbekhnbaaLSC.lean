/-
  The walk of the law of ShortestCrossing.
-/
import Derived.Test.YtoeoilhbekhnbaaFQy
import Derived.Test.YtoeoilhbekhnbaaY37
import Derived.Test.YtoeoilhbekhnbaaY41
import Derived.Deep.DeepCutAuto
namespace Go.Proofs.Ytoeoilhbekhnbaa
open Go.RowKit
set_option linter.unusedVariables false

set_option maxRecDepth 100000 in
set_option maxHeartbeats 40000000 in
theorem walk_FnExactShortestCrossing (l0 k0 : Int) (a0 : Option Addr) (c0 : Nat) (ws0 : List Int) (w : World) (p0 : B8 l0) (q0 : B8 k0) (m0 : ws0.length ≤ 9223372036854775807) (s0 : Sl .u16 w.heap.size w a0 ws0) (r0 : U16 ws0) :
    Calls Try.prog 4 #[ferV l0 k0 a0 ws0.length c0] w fun e w' => e = .returned (.bool true) ∧ Below w.heap.size w w' := by
  have F0 := (FW.start w).box #[.int .i8 l0, .int .i8 k0, .slice a0 ws0.length c0] 25
  have HS0 := Lib.hid s0
  clear s0
  have HZ := Lib.hid (szFerry_fq (F0.fq (Q := fun _ => True) trivial stab_true) l0 k0 a0 ws0.length c0 m0)
  obtain ⟨c_0, c_1, c_2, -⟩ := (F0.blk _ (List.mem_cons_self)).three
  by_cases z0' : (1048576 : Int) < ws0.length
  · simp only [if_pos z0'] at HZ
    clear F0 z0'
    go_enter Try.func4, Try.ntmps4
    go_wp2_with fail
    refine HZ.out.mono ?_
    rintro e w1 ⟨rfl, F1⟩
    go_wp2
    go_ret
    exact ⟨rfl, F1.fr.below⟩
  have hn0 : ws0.length ≤ 1048576 := by omega
  have hz0 : (ws0.length : Int) ≤ 1048576 := by omega
  have hml : (scL l0 k0 ws0).length ≤ 512 := scL_len l0 k0 ws0
  have hmm : (scL l0 k0 ws0).length ≤ 1048576 := by omega
  simp only [if_neg z0'] at HZ
  clear F0 z0'
  go_enter Try.func4, Try.ntmps4
  go_wp2_with fail
  refine HZ.out.mono ?_
  rintro e w1 ⟨rfl, G1⟩
  clear HZ c_0 c_1 c_2
  obtain ⟨c_0, c_1, c_2, -⟩ := (G1.fr.blk _ (List.mem_cons_self)).three
  go_wp2_with fail
  refine (toFerry_fq G1 l0 k0 a0 c0 ws0 hn0 HS0.out).mono ?_
  rintro e w1a ⟨r0q, rfl, -, G1a⟩
  clear c_0 c_1 c_2
  go_wp2_with fail
  refine (Calls.frq (p := (w.heap.size, #[.int .i8 l0, .int .i8 k0, .slice a0 ws0.length c0], 25)) G1a (List.mem_cons_self) List.mem_cons_self (fun h2 => specShortestCrossing_any l0 k0 _ _ ws0 _ h2 p0 q0 hn0 r0)).mono ?_
  rintro e w1b ⟨a6, c6, rfl, Mh6, Fh6'⟩
  obtain ⟨h6, hqh6⟩ : ∃ h6, h6 = w1b.heap.size := ⟨_, rfl⟩
  rw [← hqh6] at Mh6
  have Fh6 := Fh6'.re (R' := []) (Q' := fun _ => True) (fun p hp => by cases hp) trivial stab_true
  clear G1a Fh6'
  clear G1
  have G2 := Fh6.re (R' := []) (Q' := fun W => IX .u16 (w.heap.size + 1) h6 W a6 (scL l0 k0 ws0)) (fun p hp => hp) Mh6 (stab_ix _ _ _ _ _)
  have hb1 := (Fh6.fr.blk _ List.mem_cons_self).lt
  clear Fh6 Mh6
  obtain ⟨y0_0, y0_1, y0_2, -⟩ := (G2.fr.blk _ (List.mem_cons_self)).three
  go_wp2_with fail
  refine (toFerry_fq G2 l0 k0 a0 c0 ws0 hn0 HS0.out).mono ?_
  rintro e w3 ⟨z0, rfl, hz6, G3⟩
  rw [← hqh6] at hz6 hb1
  have hzb := (G3.fr.row _ List.mem_cons_self).lt
  have HZZ := Lib.hid (show w.heap.size < h6 ∧ h6 ≤ z0 ∧ z0 < w3.heap.size from ⟨hb1, hz6, hzb⟩)
  have G4 := G3.box #[.int .i8 l0, .int .i8 k0, .slice (some ⟨z0, 0, none⟩) ws0.length ws0.length] 30
  replace G4 : FQ w _ [(z0, ws0)] _ _ := G4
  clear y0_0 y0_1 y0_2 G2 G3 hz6 hzb hb1 hqh6
  obtain ⟨y0_0, y0_1, y0_2, -⟩ := (G4.fr.blk _ (List.mem_cons_self)).three
  go_wp2_with fail
  refine (Calls.frq (p := (w3.heap.size, #[.int .i8 l0, .int .i8 k0, .slice (some ⟨z0, 0, none⟩) ws0.length ws0.length], 30)) G4 (List.mem_cons_self) List.mem_cons_self (fun h2 => shortestCrossing_any l0 k0 _ _ ws0 _ h2 p0 q0 hn0 r0)).mono ?_
  rintro e w5 ⟨a9, c9, rfl, Mh9, Fh9⟩
  clear y0_0 y0_1 y0_2
  obtain ⟨h9, hqh9⟩ : ∃ h9, h9 = w5.heap.size := ⟨_, rfl⟩
  rw [← hqh9] at Mh9
  clear G4
  have G5 := Fh9.re (R' := [(z0, ws0)]) (Q' := fun W => IX .u16 (w.heap.size + 1) h6 W a6 (scL l0 k0 ws0) ∧ IX .u16 (w3.heap.size + 1) h9 W a9 (scL l0 k0 ws0)) (fun p hp => hp) ⟨Fh9.q, Mh9⟩ ((stab_ix _ _ _ _ _).and (stab_ix _ _ _ _ _))
  clear Fh9 Mh9 hqh9
  have HL1 := Lib.hid (show ∀ p ∈ ([(w3.heap.size, #[.int .i8 l0, .int .i8 k0, .slice (some ⟨z0, 0, none⟩) ws0.length ws0.length], 30), (w.heap.size, #[.int .i8 l0, .int .i8 k0, .slice a0 ws0.length c0], 25)] : List (Nat × Array Value × TypeId)), p.1 ≠ z0 from fun p hp => by
    have := HZZ.out
    simp only [List.mem_cons, List.not_mem_nil, or_false] at hp
    rcases hp with rfl | rfl <;> simp only <;> omega)
  have HL2 := Lib.hid (show ∀ p ∈ ([(w3.heap.size, #[.int .i8 l0, .int .i8 k0, .slice (some ⟨z0, 0, none⟩) ws0.length ws0.length], 30), (w.heap.size, #[.int .i8 l0, .int .i8 k0, .slice a0 ws0.length c0], 25)] : List (Nat × Array Value × TypeId)), p.1 < w3.heap.size + 1 from fun p hp => by
    have := HZZ.out
    simp only [List.mem_cons, List.not_mem_nil, or_false] at hp
    rcases hp with rfl | rfl <;> simp only <;> omega)
  have HO := Lib.hid (show w.heap.size ≤ z0 ∧ h6 ≤ z0 ∧ z0 < w3.heap.size + 1 ∧ w.heap.size ≤ w3.heap.size + 1 ∧ h6 ≤ w3.heap.size + 1 from by have := HZZ.out; omega)
  clear HZZ
  go_wp2_with fail
  refine (eqUint16S_fq G5 G5.q.2 G5.q.1 _ _ hmm).mono ?_
  rintro e w6 ⟨rfl, G6⟩
  clear G5
  go_wp2_with fail
  have G7 := G6.drew
  go_region_held3 (fun W' => W'.cell? ⟨w3.heap.size, 0, none⟩ = some (.int .i8 l0) ∧ W'.cell? ⟨w3.heap.size, 1, none⟩ = some (.int .i8 k0) ∧ W'.cell? ⟨w3.heap.size, 2, none⟩ = some (.slice (some ⟨z0, 0, none⟩) ws0.length ws0.length) ∧ W'.cell? ⟨w.heap.size, 0, none⟩ = some (.int .i8 l0) ∧ W'.cell? ⟨w.heap.size, 1, none⟩ = some (.int .i8 k0) ∧ W'.cell? ⟨w.heap.size, 2, none⟩ = some (.slice a0 ws0.length c0))
    (first | exact ⟨(G9.fr.blk _ (List.mem_cons_self)).cell 0, (G9.fr.blk _ (List.mem_cons_self)).cell 1, (G9.fr.blk _ (List.mem_cons_self)).cell 2, (G9.fr.blk _ (List.mem_cons_of_mem _ (List.mem_cons_self))).cell 0, (G9.fr.blk _ (List.mem_cons_of_mem _ (List.mem_cons_self))).cell 1, (G9.fr.blk _ (List.mem_cons_of_mem _ (List.mem_cons_self))).cell 2⟩ | exact ⟨(G8.fr.blk _ (List.mem_cons_self)).cell 0, (G8.fr.blk _ (List.mem_cons_self)).cell 1, (G8.fr.blk _ (List.mem_cons_self)).cell 2, (G8.fr.blk _ (List.mem_cons_of_mem _ (List.mem_cons_self))).cell 0, (G8.fr.blk _ (List.mem_cons_of_mem _ (List.mem_cons_self))).cell 1, (G8.fr.blk _ (List.mem_cons_of_mem _ (List.mem_cons_self))).cell 2⟩ | exact ⟨(G7.fr.blk _ (List.mem_cons_self)).cell 0, (G7.fr.blk _ (List.mem_cons_self)).cell 1, (G7.fr.blk _ (List.mem_cons_self)).cell 2, (G7.fr.blk _ (List.mem_cons_of_mem _ (List.mem_cons_self))).cell 0, (G7.fr.blk _ (List.mem_cons_of_mem _ (List.mem_cons_self))).cell 1, (G7.fr.blk _ (List.mem_cons_of_mem _ (List.mem_cons_self))).cell 2⟩)
    (first
      | (go_at_call 11; with_reducible refine (toFerry_fq G7 l0 k0 a0 c0 ws0 hn0 HS0.out).mono ?_; rintro e w8 ⟨y0, rfl, -, G8⟩)
      | (go_at_call 14; with_reducible refine (eqFerry_fq G8 (List.mem_cons_of_mem _ (List.mem_cons_self)) (List.mem_cons_self) _ _ _ _ hn0).mono ?_; rintro e w9 ⟨rfl, G9⟩))
  clear G6
  clear G7
  clear G8
  obtain ⟨y0_0, y0_1, y0_2, -⟩ := (G9.fr.blk _ (List.mem_cons_self)).three
  go_wp2_with fail
  refine (markFerry_fq G9 (List.mem_cons_of_mem _ (List.mem_cons_self)) l0 k0 _ hn0 HO.out.1 HO.out.2.1 HO.out.2.2.1 HL1.out).mono ?_
  rintro e w10 ⟨rfl, G10⟩
  clear y0_0 y0_1 y0_2 G9 HL1
  go_wp2_with fail
  refine (eqUint16S_fq G10 G10.q.2 G10.q.1 _ _ hmm).mono ?_
  rintro e w11 ⟨rfl, G11⟩
  clear G10
  go_wp2_with fail
  refine (markUint16S_fq G11 _ hmm HO.out.2.2.2.1 HO.out.2.2.2.2 HL2.out).mono ?_
  rintro e w12 ⟨rfl, G12⟩
  clear G11 HL2 HO
  go_wp2_with fail
  refine (heldUint16S_fq G12 G12.q.2 _ hmm).mono ?_
  rintro e w13 ⟨rfl, G13⟩
  clear G12
  obtain ⟨c_0, c_1, c_2, -⟩ := (G13.fr.blk _ (List.mem_cons_of_mem _ (List.mem_cons_self))).three
  go_wp2_with fail
  refine (toFerry_fq G13 l0 k0 a0 c0 ws0 hn0 HS0.out).mono ?_
  rintro e w14 ⟨r1q, rfl, -, G14⟩
  clear c_0 c_1 c_2
  go_wp2_with fail
  refine (Calls.frq (p := (w3.heap.size, #[.int .i8 l0, .int .i8 k0, .slice (some ⟨z0, 0, none⟩) ws0.length ws0.length], 30)) G14 (List.mem_cons_self) List.mem_cons_self (fun h2 => shortestCrossing_any l0 k0 _ _ ws0 _ h2 p0 q0 hn0 r0)).mono ?_
  rintro e w14b ⟨a14, c14, rfl, Mh14, Fh14⟩
  clear G14
  clear G13
  go_wp2_with fail
  refine (eqUint16S_fq Fh14 Mh14 Fh14.q.1 _ _ hmm).mono ?_
  rintro e w15 ⟨rfl, G15⟩
  clear Fh14 Mh14
  go_wp2_with fail
  refine (heldUint16S_fq G15 G15.q.2 _ hmm).mono ?_
  rintro e w16 ⟨rfl, G16⟩
  clear G15
  go_wp2
  go_ret
  exact ⟨rfl, G16.fr.below⟩
end Go.Proofs.Ytoeoilhbekhnbaa
