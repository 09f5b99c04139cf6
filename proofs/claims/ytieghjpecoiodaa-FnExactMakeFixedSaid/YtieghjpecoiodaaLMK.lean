/-
  The walk of the law of MakeFixed.
-/
import Derived.Test.YtieghjpecoiodaaFQw
import Derived.Test.YtieghjpecoiodaaMK8
import Derived.Deep.DeepCutAuto
import Derived.Deep.RegionHeld3
namespace Go.Proofs.Ytieghjpecoiodaa
open Go.RowKit
set_option linter.unusedVariables false

theorem ixw_of_owns {t : TypeId} {B c : Nat} {w : World} {a : Option Addr} {xs : List Wf} (h : w.ownsRow B t 4 (.slice a xs.length c) xs.length (wls xs)) : IXW B w.heap.size w a xs := by
  rcases h.2 with ⟨hv, hx⟩ | ⟨g, cap, cur, hv, hB, hg, hnc, _, hs, htake⟩
  · exact .inl (List.eq_nil_of_length_eq_zero hx)
  · injection hv with e1 e2 e3
    have hlt : g < w.heap.size := by
      obtain ⟨hlt, _⟩ := Array.getElem?_eq_some_iff.1 hg; exact hlt
    have hc : ∀ i u, (wls xs)[i]? = some u → w.cell? ⟨g, i, none⟩ = some u := fun i u hu => by
      have hl := (List.getElem?_eq_some_iff.1 hu).1
      rw [wls_len] at hl
      rw [← htake, List.getElem?_take_of_lt hl] at hu
      have h2 : cur[i]? = some u := by simpa using hu
      simp [World.cell?, hg, h2]
    refine .inr ⟨g, e1, hB, hlt, Nat.le_refl _, fun j hj i hi => ?_, fun j => by simp [World.frozen?, hg]⟩
    rw [Nat.zero_add]
    exact hc _ _ (wls_get xs j hj i hi)
set_option maxRecDepth 100000 in
set_option maxHeartbeats 40000000 in
theorem walk_FnExactMakeFixed (n0 : Int) (n1 : Int) (n2 : Int) (w : World) (p0 : -9223372036854775808 ≤ n0 ∧ n0 ≤ 9223372036854775807) (p1 : -9223372036854775808 ≤ n1 ∧ n1 ≤ 9223372036854775807) (p2 : -9223372036854775808 ≤ n2 ∧ n2 ≤ 9223372036854775807) :
    Calls Try.prog 4 #[.int .i64 n0, .int .i64 n1, .int .i64 n2] w fun e w' => e = .returned (.bool true) ∧ Below w.heap.size w w' := by
  have F0 := (FW.start w).fq (Q := fun _ => True) trivial stab_true
  have HSp := Lib.hid (fun (W : World) => specMakeFixed_any n0 n1 n2 W p0 p1 p2)
  have HIm := Lib.hid (fun (W : World) => makeFixed_any n0 n1 n2 W)
  have hmm0 := mfW_len n0 n1 n2
  have hmm : (mfW n0 n1 n2).length ≤ 1048576 := by omega
  generalize mfW n0 n1 n2 = X at *
  generalize mfL n0 n1 n2 = A at *
  generalize mfK n0 n1 n2 = B at *
  generalize mfC n0 n1 n2 = C at *
  go_enter Try.func4, Try.ntmps4
  go_wp2_with fail
  refine (HSp.out w).mono ?_
  rintro e w1 ⟨a6, c6, rfl, own6, hb6⟩
  have M6 := ixw_of_owns own6
  obtain ⟨h6, hqh6⟩ : ∃ h6, h6 = w1.heap.size := ⟨_, rfl⟩
  have hz6 : w.heap.size ≤ h6 := by rw [hqh6]; exact hb6.size
  have G1 := ((F0.next hb6).re (R' := []) (Q' := fun W => IXW (w.heap.size + 2) h6 W a6 X) (fun p hp => by cases hp) (by rw [hqh6]; exact M6) (stab_ixw _ _ _ _)).box #[.int .i8 A, .int .i8 B, .slice a6 X.length c6] 27
  rw [← hqh6] at G1
  clear own6 M6 hb6 F0 HSp
  obtain ⟨c_0, c_1, c_2, -⟩ := (G1.fr.blk _ List.mem_cons_self).three
  go_wp2_with fail
  rw [← hqh6]
  refine (HIm.out _).mono ?_
  rintro e w3 ⟨a9, c9, rfl, own9, hb9⟩
  have M9 := ixw_of_owns own9
  obtain ⟨h9, hqh9⟩ : ∃ h9, h9 = w3.heap.size := ⟨_, rfl⟩
  have hz9 : h6 + 1 ≤ h9 := by rw [hqh9, hqh6]; have := hb9.size; rw [World.size_alloc] at this; exact this
  have hlo : (w1.alloc (.cells #[.int .i8 A, .int .i8 B, .slice a6 X.length c6] 27)).heap.size + 1 = h6 + 2 := by rw [World.size_alloc, hqh6]
  rw [hlo] at M9
  have G2 := G1.next hb9
  have G3 := (G2.re (R' := []) (Q' := fun W => IXW (w.heap.size + 2) h6 W a6 X ∧ IXW (h6 + 2) h9 W a9 X) (fun p hp => by cases hp) ⟨G2.q, by rw [hqh9]; exact M9⟩ ((stab_ixw _ _ _ _).and (stab_ixw _ _ _ _))).box #[.int .i8 A, .int .i8 B, .slice a9 X.length c9] 27
  rw [← hqh9] at G3
  clear own9 M9 hb9 G1 G2 c_0 c_1 c_2 hqh6 hlo
  obtain ⟨x_0, x_1, x_2, -⟩ := (G3.fr.blk _ List.mem_cons_self).three
  obtain ⟨y_0, y_1, y_2, -⟩ := (G3.fr.blk _ (List.mem_cons_of_mem _ List.mem_cons_self)).three
  have HL2 := Lib.hid (show ∀ p ∈ ([(h9, #[.int .i8 A, .int .i8 B, .slice a9 X.length c9], 27), (h6, #[.int .i8 A, .int .i8 B, .slice a6 X.length c6], 27)] : List (Nat × Array Value × TypeId)), p.1 < h6 + 2 ∨ h9 ≤ p.1 from fun p hp => by
    simp only [List.mem_cons, List.not_mem_nil, or_false] at hp
    rcases hp with rfl | rfl <;> simp only <;> omega)
  have HO := Lib.hid (show w.heap.size ≤ h6 + 2 ∧ h6 ≤ h6 + 2 by omega)
  clear hz6 hz9
  go_wp2_with fail
  rw [← hqh9]
  refine (eqFixX_fq G3 G3.q.2 G3.q.1 A B _ _ hmm).mono ?_
  rintro e w6 ⟨rfl, G6⟩
  clear x_0 x_1 x_2 y_0 y_1 y_2 G3 hqh9
  obtain ⟨x_0, x_1, x_2, -⟩ := (G6.fr.blk _ List.mem_cons_self).three
  go_wp2_with fail
  refine (markFixX_fq G6 A B _ hmm HO.out.1 HO.out.2 HL2.out).mono ?_
  rintro e w12 ⟨rfl, G12⟩
  clear x_0 x_1 x_2 G6 HL2 HO
  obtain ⟨x_0, x_1, x_2, -⟩ := (G12.fr.blk _ List.mem_cons_self).three
  go_wp2_with fail
  refine (heldFixX_fq G12 G12.q.2 A B _ hmm).mono ?_
  rintro e w13 ⟨rfl, G13⟩
  clear x_0 x_1 x_2 G12
  go_wp2_with fail
  refine (HIm.out _).mono ?_
  rintro e w14 ⟨a14, c14, rfl, own14, hb14⟩
  have M14 := (ixw_of_owns own14).below ((Below.refl _ _).alloc (Nat.le_refl _) (.cells #[.int .i8 A, .int .i8 B, .slice a14 X.length c14] 27))
  have G15 := (G13.next hb14).box #[.int .i8 A, .int .i8 B, .slice a14 X.length c14] 27
  clear G13 own14 hb14
  obtain ⟨x_0, x_1, x_2, -⟩ := (G15.fr.blk _ List.mem_cons_self).three
  obtain ⟨y_0, y_1, y_2, -⟩ := (G15.fr.blk _ (List.mem_cons_of_mem _ (List.mem_cons_of_mem _ List.mem_cons_self))).three
  go_wp2_with fail
  refine (eqFixX_fq G15 M14 G15.q.1 A B _ _ hmm).mono ?_
  rintro e w15 ⟨rfl, G16⟩
  clear x_0 x_1 x_2 y_0 y_1 y_2 G15 M14
  obtain ⟨x_0, x_1, x_2, -⟩ := (G16.fr.blk _ (List.mem_cons_of_mem _ List.mem_cons_self)).three
  go_wp2_with fail
  refine (heldFixX_fq G16 G16.q.2 A B _ hmm).mono ?_
  rintro e w16 ⟨rfl, G17⟩
  have HB := Lib.hid G17.fr.below
  clear x_0 x_1 x_2 G16 G17
  go_wp2
  go_ret
  exact ⟨rfl, HB.out⟩
end Go.Proofs.Ytieghjpecoiodaa
