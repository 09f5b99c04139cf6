/-
  The walk of the law of StepsTable.
-/
import Derived.Test.YtjmgalmndpjcoaaSFq
import Derived.Deep.DeepCutAuto
namespace Go.Proofs.Ytjmgalmndpjcoaa
open Go.RowKit

set_option maxRecDepth 100000 in
set_option maxHeartbeats 40000000 in
theorem walk_FnExactStepsTable (a0 : Option Addr) (c0 : Nat) (xs0 : List Int) (x0 : Nat → Int) (t0 : Bool) (w : World) (m0 : xs0.length ≤ 9223372036854775807) (s0 : Sl .i16 w.heap.size w a0 xs0) (g0 : I16 xs0)  :
    Calls Try.prog 3 #[puzV a0 xs0.length c0 x0 t0] w fun e w' => e = .returned (.bool true) ∧ Below w.heap.size w w' := by
  have F0 := ((FR.start w).box #[.slice a0 xs0.length c0, .int .i16 (x0 0), .int .i16 (x0 1), .int .i16 (x0 2), .int .i16 (x0 3), .bool t0] 26)
  have HS0 := Lib.hid s0
  clear s0
  by_cases l0 : 1048576 < xs0.length
  · have HZ := Lib.hid (szPuzzle_fr F0 a0 xs0.length c0 x0 t0 m0)
    simp only [if_pos l0] at HZ
    clear F0 l0
    go_enter Try.func3, Try.ntmps3
    go_wp2_with fail
    refine HZ.out.mono ?_
    rintro e w1 ⟨rfl, F1⟩
    go_wp2
    go_ret
    exact ⟨rfl, F1.below⟩
  have hn0 : xs0.length ≤ 1048576 := by omega
  have hz0 : (xs0.length : Int) ≤ 1048576 := by omega
  have hml : (stL xs0 x0 t0).length ≤ 1048576 := stL_len _ _ _
  have HZ := Lib.hid (szPuzzle_fr F0 a0 xs0.length c0 x0 t0 m0)
  simp only [if_neg l0] at HZ
  clear F0 l0
  go_enter Try.func3, Try.ntmps3
  go_wp2_with fail
  refine HZ.out.mono ?_
  rintro e w1 ⟨rfl, F1⟩
  clear HZ
  have G1 := F1.fq (Q := fun _ => True) trivial stab_true
  clear F1
  obtain ⟨y0_0, y0_1, y0_2, y0_3, y0_4, y0_5, -⟩ := (G1.fr.blk _ List.mem_cons_self).six
  go_wp2_with fail
  refine (toPuzzle_fq G1 a0 xs0 c0 x0 t0 hn0 HS0.out).mono ?_
  rintro e wa ⟨ra, rfl, -, Ga⟩
  clear y0_0 y0_1 y0_2 y0_3 y0_4 y0_5 G1
  go_wp2_with fail
  refine (Calls.frqN (p := (w.heap.size, #[.slice a0 xs0.length c0, .int .i16 (x0 0), .int .i16 (x0 1), .int .i16 (x0 2), .int .i16 (x0 3), .bool t0], 26)) Ga List.mem_cons_self List.mem_cons_self (fun h1 h2 => specStepsTable_any _ 0 _ xs0 x0 t0 _ hn0 h1 h2)).mono ?_
  rintro e wb ⟨a6, c6, rfl, Mh6, Fh6⟩
  obtain ⟨h6, hqh6⟩ : ∃ h6, h6 = wb.heap.size := ⟨_, rfl⟩
  rw [← hqh6] at Mh6
  have G2 := Fh6.re (R' := []) (Q' := fun W => IX .i16 (w.heap.size + 1) h6 W a6 (stL xs0 x0 t0)) (fun p hp => by cases hp) Mh6 (stab_ix _ _ _ _ _)
  have hb1 := (Fh6.fr.blk _ List.mem_cons_self).lt
  clear Fh6 Mh6 Ga
  obtain ⟨y0_0, y0_1, y0_2, y0_3, y0_4, y0_5, -⟩ := (G2.fr.blk _ (List.mem_cons_self)).six
  go_wp2_with fail
  refine (toPuzzle_fq G2 a0 xs0 c0 x0 t0 hn0 HS0.out).mono ?_
  rintro e w3 ⟨z0, rfl, hz6, G3⟩
  rw [← hqh6] at hz6 hb1
  have hzb := (G3.fr.row _ List.mem_cons_self).lt
  have HZZ := Lib.hid (show w.heap.size < h6 ∧ h6 ≤ z0 ∧ z0 < w3.heap.size from ⟨hb1, hz6, hzb⟩)
  have G4 := G3.box #[.slice (some ⟨z0, 0, none⟩) xs0.length xs0.length, .int .i16 (x0 0), .int .i16 (x0 1), .int .i16 (x0 2), .int .i16 (x0 3), .bool t0] 32
  replace G4 : FQ w _ [(z0, xs0)] _ _ := G4
  clear y0_0 y0_1 y0_2 y0_3 y0_4 y0_5 G2 G3 hz6 hzb hb1 hqh6
  go_upto_region 7 with fail
  generalize hgg : w3.alloc (.cells #[.slice (some ⟨z0, 0, none⟩) xs0.length xs0.length, .int .i16 (x0 0), .int .i16 (x0 1), .int .i16 (x0 2), .int .i16 (x0 3), .bool t0] 32) = w4 at *
  clear hgg
  obtain ⟨y0_0, y0_1, y0_2, y0_3, y0_4, y0_5, -⟩ := (G4.fr.blk _ (List.mem_cons_self)).six
  go_wp2_with fail
  refine (Calls.frqN (p := (w3.heap.size, #[.slice (some ⟨z0, 0, none⟩) xs0.length xs0.length, .int .i16 (x0 0), .int .i16 (x0 1), .int .i16 (x0 2), .int .i16 (x0 3), .bool t0], 32)) G4 List.mem_cons_self List.mem_cons_self (fun h1 h2 => stepsTableI_any _ 0 _ xs0 x0 t0 _ hn0 h1 h2 g0)).mono ?_
  rintro e wd ⟨a9, c9, rfl, Mh9, Fh9⟩
  clear y0_0 y0_1 y0_2 y0_3 y0_4 y0_5 G4
  obtain ⟨h9, hqh9⟩ : ∃ h9, h9 = wd.heap.size := ⟨_, rfl⟩
  rw [← hqh9] at Mh9
  have G5 := Fh9.re (R' := [(z0, xs0)]) (Q' := fun W => IX .i16 (w.heap.size + 1) h6 W a6 (stL xs0 x0 t0) ∧ IX .i16 (w3.heap.size + 1) h9 W a9 (stL xs0 x0 t0)) (fun p hp => hp) ⟨Fh9.q, Mh9⟩ ((stab_ix _ _ _ _ _).and (stab_ix _ _ _ _ _))
  clear Fh9 Mh9 hqh9
  have HL1 := Lib.hid (show ∀ p ∈ ([(w3.heap.size, #[.slice (some ⟨z0, 0, none⟩) xs0.length xs0.length, .int .i16 (x0 0), .int .i16 (x0 1), .int .i16 (x0 2), .int .i16 (x0 3), .bool t0], 32), (w.heap.size, #[.slice a0 xs0.length c0, .int .i16 (x0 0), .int .i16 (x0 1), .int .i16 (x0 2), .int .i16 (x0 3), .bool t0], 26)] : List (Nat × Array Value × TypeId)), p.1 ≠ z0 from fun p hp => by
    have := HZZ.out
    simp only [List.mem_cons, List.not_mem_nil, or_false] at hp
    rcases hp with rfl | rfl <;> simp only <;> omega)
  have HL2 := Lib.hid (show ∀ p ∈ ([(w3.heap.size, #[.slice (some ⟨z0, 0, none⟩) xs0.length xs0.length, .int .i16 (x0 0), .int .i16 (x0 1), .int .i16 (x0 2), .int .i16 (x0 3), .bool t0], 32), (w.heap.size, #[.slice a0 xs0.length c0, .int .i16 (x0 0), .int .i16 (x0 1), .int .i16 (x0 2), .int .i16 (x0 3), .bool t0], 26)] : List (Nat × Array Value × TypeId)), p.1 < w3.heap.size + 1 from fun p hp => by
    have := HZZ.out
    simp only [List.mem_cons, List.not_mem_nil, or_false] at hp
    rcases hp with rfl | rfl <;> simp only <;> omega)
  have HO := Lib.hid (show w.heap.size ≤ z0 ∧ h6 ≤ z0 ∧ z0 < w3.heap.size + 1 ∧ w.heap.size ≤ w3.heap.size + 1 ∧ h6 ≤ w3.heap.size + 1 from by have := HZZ.out; omega)
  clear HZZ
  go_wp2_with fail
  refine (eqInt16S_fq G5 G5.q.2 G5.q.1 _ _ hml).mono ?_
  rintro e w6 ⟨rfl, G6⟩
  clear G5
  go_wp2_with fail
  have G7 := G6.drew
  go_region_held3 (fun W' => W'.cell? ⟨w3.heap.size, 0, none⟩ = some (.slice (some ⟨z0, 0, none⟩) xs0.length xs0.length) ∧ W'.cell? ⟨w3.heap.size, 1, none⟩ = some (.int .i16 (x0 0)) ∧ W'.cell? ⟨w3.heap.size, 2, none⟩ = some (.int .i16 (x0 1)) ∧ W'.cell? ⟨w3.heap.size, 3, none⟩ = some (.int .i16 (x0 2)) ∧ W'.cell? ⟨w3.heap.size, 4, none⟩ = some (.int .i16 (x0 3)) ∧ W'.cell? ⟨w3.heap.size, 5, none⟩ = some (.bool t0) ∧ W'.cell? ⟨w.heap.size, 0, none⟩ = some (.slice a0 xs0.length c0) ∧ W'.cell? ⟨w.heap.size, 1, none⟩ = some (.int .i16 (x0 0)) ∧ W'.cell? ⟨w.heap.size, 2, none⟩ = some (.int .i16 (x0 1)) ∧ W'.cell? ⟨w.heap.size, 3, none⟩ = some (.int .i16 (x0 2)) ∧ W'.cell? ⟨w.heap.size, 4, none⟩ = some (.int .i16 (x0 3)) ∧ W'.cell? ⟨w.heap.size, 5, none⟩ = some (.bool t0))
    (first | exact ⟨(G9.fr.blk _ (List.mem_cons_self)).cell 0, (G9.fr.blk _ (List.mem_cons_self)).cell 1, (G9.fr.blk _ (List.mem_cons_self)).cell 2, (G9.fr.blk _ (List.mem_cons_self)).cell 3, (G9.fr.blk _ (List.mem_cons_self)).cell 4, (G9.fr.blk _ (List.mem_cons_self)).cell 5, (G9.fr.blk _ (List.mem_cons_of_mem _ (List.mem_cons_self))).cell 0, (G9.fr.blk _ (List.mem_cons_of_mem _ (List.mem_cons_self))).cell 1, (G9.fr.blk _ (List.mem_cons_of_mem _ (List.mem_cons_self))).cell 2, (G9.fr.blk _ (List.mem_cons_of_mem _ (List.mem_cons_self))).cell 3, (G9.fr.blk _ (List.mem_cons_of_mem _ (List.mem_cons_self))).cell 4, (G9.fr.blk _ (List.mem_cons_of_mem _ (List.mem_cons_self))).cell 5⟩ | exact ⟨(G8.fr.blk _ (List.mem_cons_self)).cell 0, (G8.fr.blk _ (List.mem_cons_self)).cell 1, (G8.fr.blk _ (List.mem_cons_self)).cell 2, (G8.fr.blk _ (List.mem_cons_self)).cell 3, (G8.fr.blk _ (List.mem_cons_self)).cell 4, (G8.fr.blk _ (List.mem_cons_self)).cell 5, (G8.fr.blk _ (List.mem_cons_of_mem _ (List.mem_cons_self))).cell 0, (G8.fr.blk _ (List.mem_cons_of_mem _ (List.mem_cons_self))).cell 1, (G8.fr.blk _ (List.mem_cons_of_mem _ (List.mem_cons_self))).cell 2, (G8.fr.blk _ (List.mem_cons_of_mem _ (List.mem_cons_self))).cell 3, (G8.fr.blk _ (List.mem_cons_of_mem _ (List.mem_cons_self))).cell 4, (G8.fr.blk _ (List.mem_cons_of_mem _ (List.mem_cons_self))).cell 5⟩ | exact ⟨(G7.fr.blk _ (List.mem_cons_self)).cell 0, (G7.fr.blk _ (List.mem_cons_self)).cell 1, (G7.fr.blk _ (List.mem_cons_self)).cell 2, (G7.fr.blk _ (List.mem_cons_self)).cell 3, (G7.fr.blk _ (List.mem_cons_self)).cell 4, (G7.fr.blk _ (List.mem_cons_self)).cell 5, (G7.fr.blk _ (List.mem_cons_of_mem _ (List.mem_cons_self))).cell 0, (G7.fr.blk _ (List.mem_cons_of_mem _ (List.mem_cons_self))).cell 1, (G7.fr.blk _ (List.mem_cons_of_mem _ (List.mem_cons_self))).cell 2, (G7.fr.blk _ (List.mem_cons_of_mem _ (List.mem_cons_self))).cell 3, (G7.fr.blk _ (List.mem_cons_of_mem _ (List.mem_cons_self))).cell 4, (G7.fr.blk _ (List.mem_cons_of_mem _ (List.mem_cons_self))).cell 5⟩)
    (first
      | (go_at_call 11; with_reducible refine (toPuzzle_fq G7 a0 xs0 c0 x0 t0 hn0 HS0.out).mono ?_; rintro e w8 ⟨y0, rfl, -, G8⟩)
      | (go_at_call 14; with_reducible refine (eqPuzzle_fq G8 (List.mem_cons_of_mem _ (List.mem_cons_self)) (List.mem_cons_self) _ _ _ _ hn0).mono ?_; rintro e w9 ⟨rfl, G9⟩))
  clear G6
  clear G7
  clear G8
  obtain ⟨y0_0, y0_1, y0_2, y0_3, y0_4, y0_5, -⟩ := (G9.fr.blk _ (List.mem_cons_self)).six
  go_wp2_with fail
  refine (markPuzzleN_fq G9 (List.mem_cons_of_mem _ (List.mem_cons_self)) _ x0 t0 hn0 HO.out.1 HO.out.2.1 HO.out.2.2.1 HL1.out).mono ?_
  rintro e w10 ⟨rfl, G10⟩
  clear y0_0 y0_1 y0_2 y0_3 y0_4 y0_5 G9 HL1
  go_wp2_with fail
  refine (eqInt16S_fq G10 G10.q.2 G10.q.1 _ _ hml).mono ?_
  rintro e w11 ⟨rfl, G11⟩
  clear G10
  go_wp2_with fail
  refine (markInt16S_fq G11 _ hml HO.out.2.2.2.1 HO.out.2.2.2.2 HL2.out).mono ?_
  rintro e w12 ⟨rfl, G12⟩
  clear G11 HL2 HO
  go_wp2_with fail
  refine (heldInt16S_fq G12 G12.q.2 _ hml).mono ?_
  rintro e w13 ⟨rfl, G13⟩
  clear G12
  obtain ⟨y0_0, y0_1, y0_2, y0_3, y0_4, y0_5, -⟩ := (G13.fr.blk _ (List.mem_cons_of_mem _ (List.mem_cons_self))).six
  go_wp2_with fail
  refine (toPuzzle_fq G13 a0 xs0 c0 x0 t0 hn0 HS0.out).mono ?_
  rintro e we ⟨re, rfl, -, Ge⟩
  clear y0_0 y0_1 y0_2 y0_3 y0_4 y0_5 G13
  go_wp2_with fail
  refine (Calls.frqN (p := (w3.heap.size, #[.slice (some ⟨z0, 0, none⟩) xs0.length xs0.length, .int .i16 (x0 0), .int .i16 (x0 1), .int .i16 (x0 2), .int .i16 (x0 3), .bool t0], 32)) Ge List.mem_cons_self List.mem_cons_self (fun h1 h2 => stepsTableI_any _ 0 _ xs0 x0 t0 _ hn0 h1 h2 g0)).mono ?_
  rintro e wf ⟨a14, c14, rfl, Mh14, Fh14⟩
  clear Ge
  go_wp2_with fail
  refine (eqInt16S_fq Fh14 Mh14 Fh14.q.1 _ _ hml).mono ?_
  rintro e w15 ⟨rfl, G15⟩
  clear Fh14 Mh14
  go_wp2_with fail
  refine (heldInt16S_fq G15 G15.q.2 _ hml).mono ?_
  rintro e w16 ⟨rfl, G16⟩
  clear G15
  go_wp2
  go_ret
  exact ⟨rfl, G16.fr.below⟩
end Go.Proofs.Ytjmgalmndpjcoaa
