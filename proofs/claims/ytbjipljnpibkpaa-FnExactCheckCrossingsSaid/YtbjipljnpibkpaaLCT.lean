/-
  The walks of the laws over a ferry and a table.
-/
import Derived.Test.YtbjipljnpibkpaaY28
import Derived.Deep.RegionHeld3
import Derived.Deep.MidRow
namespace Go.Proofs.Ytbjipljnpibkpaa
open Go.RowKit
set_option linter.unusedVariables false

/-- The cells of a table. -/
def icells (xs : List Int) : Array Value := Array.ofFn (n := xs.length) (fun i => .int .i16 (xs.getD i 0))
theorem icells_get (xs : List Int) (i : Nat) (h : i < xs.length) : (icells xs)[i]? = some (.int .i16 (xs.getD i 0)) := by
  unfold icells
  rw [Array.getElem?_ofFn, dif_pos h]
theorem Blk.i16 {w : World} {b : Nat} {t : TypeId} {xs : List Int} (h : Blk w b (icells xs) t) : At .i16 w b 0 xs := fun j hj => by
  rw [h.cell, Nat.zero_add, icells_get _ _ hj]
theorem blk_of_rowi {w : World} {b : Nat} {t : TypeId} {xs : List Int} (h : RowOf .i16 t w b xs) : Blk w b (icells xs) t := by
  obtain ⟨c, hc, hs, hf⟩ := h
  have e : c = icells xs := by
    apply Array.ext
    · rw [hs]; simp [icells]
    · intro i h1 h2
      have := hf i (by omega)
      have h3 := icells_get xs i (by omega)
      rw [Array.getElem?_eq_getElem h1] at this
      rw [Array.getElem?_eq_getElem h2] at h3
      exact Option.some.inj (this.trans h3.symm)
  subst e
  exact hc
theorem Sl.ownI {w : World} {b : Nat} {xs : List Int} {t : TypeId} (h : Blk w b (icells xs) t) : Sl .i16 w.heap.size w (some ⟨b, 0, none⟩) xs := .inr ⟨b, 0, rfl, h.lt, h.i16⟩
theorem toInt16S_fr {w0 W : World} {L : List (Nat × Array Value × TypeId)} (h : FR w0 L W) (a : Option Addr) (c : Nat) (ws : List Int) (hn : ws.length ≤ 1048576) (hs : Sl .i16 w0.heap.size w0 a ws) :
    Calls Try.prog 28 #[.slice a ws.length c] W fun e w' => ∃ g, e = .returned (.slice (some ⟨g, 0, none⟩) ws.length ws.length) ∧ FR w0 ((g, icells ws, 58) :: L) w' := by
  have h0 := h.size
  rcases hs.below h.below with rfl | ⟨b, off, rfl, hb, hc⟩
  · refine (toInt16S_nil a c W).mono ?_
    rintro e w' ⟨rfl, h1, h2⟩
    exact ⟨_, rfl, h.add h2 (Nat.le_refl _) (blk_of_rowi h1)⟩
  · refine (toInt16S_some b off c ws W hn (by omega) hc).mono ?_
    rintro e w' ⟨rfl, h1, h2⟩
    exact ⟨_, rfl, h.add h2 (Nat.le_refl _) (blk_of_rowi h1)⟩
theorem eqInt16S_fr {w0 W : World} {L : List (Nat × Array Value × TypeId)} {g g2 : Nat} {ws : List Int} (h : FR w0 L W) (h1 : (g, icells ws, 58) ∈ L) (h2 : (g2, icells ws, 58) ∈ L) (c c2 : Nat) (hn : ws.length ≤ 1048576) :
    Calls Try.prog 13 #[.slice (some ⟨g, 0, none⟩) ws.length c, .slice (some ⟨g2, 0, none⟩) ws.length c2] W fun e w' => e = .returned (.bool true) ∧ FR w0 L w' :=
  Calls.fr h (Calls.drb (eqInt16S_same g 0 c g2 0 c2 ws W hn (h.blk _ h1).i16 (h.blk _ h2).i16))
set_option maxRecDepth 100000 in
set_option maxHeartbeats 4000000 in
theorem walk_FnExactCheckCrossings (l0 k0 : Int) (a0 : Option Addr) (c0 : Nat) (ws0 : List Int) (a1 : Option Addr) (c1 : Nat) (us1 : List Int) (w : World) (p0 : B8 l0) (q0 : B8 k0) (m0 : ws0.length ≤ 9223372036854775807) (s0 : Sl .u16 w.heap.size w a0 ws0) (r0 : U16 ws0) (m1 : us1.length ≤ 9223372036854775807) (s1 : Sl .i16 w.heap.size w a1 us1) (g1 : I16 us1) :
    Calls Try.prog 7 #[ferV l0 k0 a0 ws0.length c0, .slice a1 us1.length c1] w fun e w' => e = .returned (.bool true) ∧ Below w.heap.size w w' := by
  have F0 := (FR.start w).box #[.int .i8 l0, .int .i8 k0, .slice a0 ws0.length c0] 25
  by_cases z1 : (1048576 : Int) < us1.length
  · have HB := Lib.hid F0.below
    clear F0 s0 s1 r0 g1
    generalize ws0.length = m at *
    generalize us1.length = q at *
    go_enter Try.func7, Try.ntmps7
    go_wp2
    go_ret
    exact ⟨rfl, HB.out⟩
  have hn1 : us1.length ≤ 1048576 := by omega
  have hz1 : (us1.length : Int) ≤ 1048576 := by omega
  clear z1
  by_cases z0 : (1048576 : Int) < ws0.length
  · have HZ := szFerry_any l0 k0 a0 ws0.length c0 1048576
    simp only [if_pos z0] at HZ
    obtain ⟨d_0, d_1, d_2, -⟩ := (F0.blk _ (List.mem_cons_self)).three
    go_enter Try.func7, Try.ntmps7
    go_wp2_with fail
    refine (Calls.fr F0 (HZ _ (by omega) m0)).mono ?_
    rintro e w1 ⟨rfl, F1⟩
    clear d_0 d_1 d_2 HZ F0
    have HB := Lib.hid F1.below
    clear F1
    go_wp2
    go_ret
    exact ⟨rfl, HB.out⟩
  have hn0 : ws0.length ≤ 1048576 := by omega
  have hz0 : 0 ≤ 1048576 - (ws0.length : Int) ∧ 1048576 - (ws0.length : Int) ≤ 1048576 := by omega
  have HZ0 := Lib.hid (fun W => szFerry_any l0 k0 a0 ws0.length c0 1048576 W (by omega) m0)
  simp only [if_neg z0] at HZ0
  clear z0
  obtain ⟨left, hleft⟩ : ∃ left, 1048576 - (ws0.length : Int) = left := ⟨_, rfl⟩
  rw [hleft] at hz0 HZ0
  clear hleft
  have HS := Lib.hid (fun (W : World) (a0' : Option Addr) (c0' : Nat) (hs0 : Sl .u16 W.heap.size W a0' ws0) (a1' : Option Addr) (c1' : Nat) (hs1 : Sl .i16 W.heap.size W a1' us1) => specCheckCrossings_any l0 k0 a0' c0' ws0 a1' c1' us1 W hs0 hs1 p0 q0 hn0 r0 hn1 g1)
  have HI := Lib.hid (fun (W : World) (a0' : Option Addr) (c0' : Nat) (hs0 : Sl .u16 W.heap.size W a0' ws0) (a1' : Option Addr) (c1' : Nat) (hs1 : Sl .i16 W.heap.size W a1' us1) => checkCrossings_any l0 k0 a0' c0' ws0 a1' c1' us1 W hs0 hs1 p0 q0 hn0 r0 hn1 g1)
  generalize ccV l0 k0 ws0 us1 = T1 at *
  generalize tabC l0 k0 ws0 us1 = T2 at *
  have HS1 := Lib.hid s1
  clear s1
  go_enter Try.func7, Try.ntmps7
  obtain ⟨d1_0, d1_1, d1_2, d1_f⟩ := (F0.blk _ (List.mem_cons_self)).three
  go_wp2_with fail
  refine (Calls.fr F0 (HZ0.out _)).mono ?_
  rintro e w1 ⟨rfl, F1⟩
  clear F0 d1_0 d1_1 d1_2 d1_f
  clear HZ0
  obtain ⟨d2_0, d2_1, d2_2, d2_f⟩ := (F1.blk _ (List.mem_cons_self)).three
  go_wp2_with fail
  refine (toFerry_fr F1 l0 k0 a0 c0 ws0 hn0 s0).mono ?_
  rintro e w2 ⟨g2, rfl, F2⟩
  clear F1 d2_0 d2_1 d2_2 d2_f
  go_wp2_with fail
  refine (toInt16S_fr F2 a1 c1 us1 hn1 HS1.out).mono ?_
  rintro e w3 ⟨g3, rfl, F3⟩
  clear F2 
  go_wp2_with fail
  refine (Calls.fr F3 (HS.out _ _ _ (Sl.own (F3.blk _ (List.mem_cons_of_mem _ (List.mem_cons_self)))) _ _ (Sl.ownI (F3.blk _ (List.mem_cons_self))))).mono ?_
  rintro e w4 ⟨rfl, F4⟩
  clear F3 
  obtain ⟨d3_0, d3_1, d3_2, d3_f⟩ := (F4.blk _ (List.mem_cons_of_mem _ (List.mem_cons_of_mem _ (List.mem_cons_self)))).three
  go_wp2_with fail
  refine (toFerry_fr F4 l0 k0 a0 c0 ws0 hn0 s0).mono ?_
  rintro e w5 ⟨g4, rfl, F5⟩
  clear F4 d3_0 d3_1 d3_2 d3_f
  have F6 := F5.box #[.int .i8 l0, .int .i8 k0, .slice (some ⟨g4, 0, none⟩) ws0.length ws0.length] 30
  clear F5
  go_wp2_with fail
  refine (toInt16S_fr F6 a1 c1 us1 hn1 HS1.out).mono ?_
  rintro e w7 ⟨g5, rfl, F7⟩
  clear F6 
  obtain ⟨d4_0, d4_1, d4_2, d4_f⟩ := (F7.blk _ (List.mem_cons_of_mem _ (List.mem_cons_self))).three
  go_wp2_with fail
  refine (Calls.fr F7 (HI.out _ _ _ (Sl.own (F7.blk _ (List.mem_cons_of_mem _ (List.mem_cons_of_mem _ (List.mem_cons_self))))) _ _ (Sl.ownI (F7.blk _ (List.mem_cons_self))))).mono ?_
  rintro e w8 ⟨rfl, F8⟩
  clear F7 d4_0 d4_1 d4_2 d4_f
  go_wp2_with fail
  have F9 := F8.drew
  go_region_held3 (fun w' => w'.cell? ⟨w5.heap.size, 0, none⟩ = some (.int .i8 l0) ∧ w'.cell? ⟨w5.heap.size, 1, none⟩ = some (.int .i8 k0) ∧ w'.cell? ⟨w5.heap.size, 2, none⟩ = some (.slice (some ⟨g4, 0, none⟩) ws0.length ws0.length) ∧ w'.cell? ⟨w.heap.size, 0, none⟩ = some (.int .i8 l0) ∧ w'.cell? ⟨w.heap.size, 1, none⟩ = some (.int .i8 k0) ∧ w'.cell? ⟨w.heap.size, 2, none⟩ = some (.slice a0 ws0.length c0))
    (first | exact ⟨(F11.blk _ (List.mem_cons_of_mem _ (List.mem_cons_of_mem _ (List.mem_cons_self)))).cell 0, (F11.blk _ (List.mem_cons_of_mem _ (List.mem_cons_of_mem _ (List.mem_cons_self)))).cell 1, (F11.blk _ (List.mem_cons_of_mem _ (List.mem_cons_of_mem _ (List.mem_cons_self)))).cell 2, (F11.blk _ (List.mem_cons_of_mem _ (List.mem_cons_of_mem _ (List.mem_cons_of_mem _ (List.mem_cons_of_mem _ (List.mem_cons_of_mem _ (List.mem_cons_of_mem _ (List.mem_cons_self)))))))).cell 0, (F11.blk _ (List.mem_cons_of_mem _ (List.mem_cons_of_mem _ (List.mem_cons_of_mem _ (List.mem_cons_of_mem _ (List.mem_cons_of_mem _ (List.mem_cons_of_mem _ (List.mem_cons_self)))))))).cell 1, (F11.blk _ (List.mem_cons_of_mem _ (List.mem_cons_of_mem _ (List.mem_cons_of_mem _ (List.mem_cons_of_mem _ (List.mem_cons_of_mem _ (List.mem_cons_of_mem _ (List.mem_cons_self)))))))).cell 2⟩ | exact ⟨(F10.blk _ (List.mem_cons_of_mem _ (List.mem_cons_of_mem _ (List.mem_cons_self)))).cell 0, (F10.blk _ (List.mem_cons_of_mem _ (List.mem_cons_of_mem _ (List.mem_cons_self)))).cell 1, (F10.blk _ (List.mem_cons_of_mem _ (List.mem_cons_of_mem _ (List.mem_cons_self)))).cell 2, (F10.blk _ (List.mem_cons_of_mem _ (List.mem_cons_of_mem _ (List.mem_cons_of_mem _ (List.mem_cons_of_mem _ (List.mem_cons_of_mem _ (List.mem_cons_of_mem _ (List.mem_cons_self)))))))).cell 0, (F10.blk _ (List.mem_cons_of_mem _ (List.mem_cons_of_mem _ (List.mem_cons_of_mem _ (List.mem_cons_of_mem _ (List.mem_cons_of_mem _ (List.mem_cons_of_mem _ (List.mem_cons_self)))))))).cell 1, (F10.blk _ (List.mem_cons_of_mem _ (List.mem_cons_of_mem _ (List.mem_cons_of_mem _ (List.mem_cons_of_mem _ (List.mem_cons_of_mem _ (List.mem_cons_of_mem _ (List.mem_cons_self)))))))).cell 2⟩ | exact ⟨(F9.blk _ (List.mem_cons_of_mem _ (List.mem_cons_self))).cell 0, (F9.blk _ (List.mem_cons_of_mem _ (List.mem_cons_self))).cell 1, (F9.blk _ (List.mem_cons_of_mem _ (List.mem_cons_self))).cell 2, (F9.blk _ (List.mem_cons_of_mem _ (List.mem_cons_of_mem _ (List.mem_cons_of_mem _ (List.mem_cons_of_mem _ (List.mem_cons_of_mem _ (List.mem_cons_self))))))).cell 0, (F9.blk _ (List.mem_cons_of_mem _ (List.mem_cons_of_mem _ (List.mem_cons_of_mem _ (List.mem_cons_of_mem _ (List.mem_cons_of_mem _ (List.mem_cons_self))))))).cell 1, (F9.blk _ (List.mem_cons_of_mem _ (List.mem_cons_of_mem _ (List.mem_cons_of_mem _ (List.mem_cons_of_mem _ (List.mem_cons_of_mem _ (List.mem_cons_self))))))).cell 2⟩)
    (first
      | (go_at_call 11; with_reducible refine (toFerry_fr F9 l0 k0 a0 c0 ws0 hn0 s0).mono ?_; rintro e w10 ⟨g6, rfl, F10⟩)
      | (go_at_call 14; with_reducible refine (eqFerry_fr F10 (List.mem_cons_of_mem _ (List.mem_cons_of_mem _ (List.mem_cons_of_mem _ (List.mem_cons_self)))) (List.mem_cons_self) l0 k0 _ _ hn0).mono ?_; rintro e w11 ⟨rfl, F11⟩))
  clear F9
  clear F10
  go_wp2_with fail
  refine (toInt16S_fr F11 a1 c1 us1 hn1 HS1.out).mono ?_
  rintro e w12 ⟨g7, rfl, F12⟩
  clear F11 
  go_wp2_with fail
  refine (eqInt16S_fr F12 (List.mem_cons_of_mem _ (List.mem_cons_of_mem _ (List.mem_cons_self))) (List.mem_cons_self) _ _ hn1).mono ?_
  rintro e w13 ⟨rfl, F13⟩
  clear F12 
  have HB := Lib.hid F13.below
  clear F13
  go_wp2
  go_ret
  exact ⟨rfl, HB.out⟩
set_option maxRecDepth 100000 in
set_option maxHeartbeats 4000000 in
theorem walk_FnExactLeastCrossings (l0 k0 : Int) (a0 : Option Addr) (c0 : Nat) (ws0 : List Int) (a1 : Option Addr) (c1 : Nat) (us1 : List Int) (w : World) (p0 : B8 l0) (q0 : B8 k0) (m0 : ws0.length ≤ 9223372036854775807) (s0 : Sl .u16 w.heap.size w a0 ws0) (r0 : U16 ws0) (m1 : us1.length ≤ 9223372036854775807) (s1 : Sl .i16 w.heap.size w a1 us1) (g1 : I16 us1) :
    Calls Try.prog 8 #[ferV l0 k0 a0 ws0.length c0, .slice a1 us1.length c1] w fun e w' => e = .returned (.bool true) ∧ Below w.heap.size w w' := by
  have F0 := (FR.start w).box #[.int .i8 l0, .int .i8 k0, .slice a0 ws0.length c0] 25
  by_cases z1 : (1048576 : Int) < us1.length
  · have HB := Lib.hid F0.below
    clear F0 s0 s1 r0 g1
    generalize ws0.length = m at *
    generalize us1.length = q at *
    go_enter Try.func8, Try.ntmps8
    go_wp2
    go_ret
    exact ⟨rfl, HB.out⟩
  have hn1 : us1.length ≤ 1048576 := by omega
  have hz1 : (us1.length : Int) ≤ 1048576 := by omega
  clear z1
  by_cases z0 : (1048576 : Int) < ws0.length
  · have HZ := szFerry_any l0 k0 a0 ws0.length c0 1048576
    simp only [if_pos z0] at HZ
    obtain ⟨d_0, d_1, d_2, -⟩ := (F0.blk _ (List.mem_cons_self)).three
    go_enter Try.func8, Try.ntmps8
    go_wp2_with fail
    refine (Calls.fr F0 (HZ _ (by omega) m0)).mono ?_
    rintro e w1 ⟨rfl, F1⟩
    clear d_0 d_1 d_2 HZ F0
    have HB := Lib.hid F1.below
    clear F1
    go_wp2
    go_ret
    exact ⟨rfl, HB.out⟩
  have hn0 : ws0.length ≤ 1048576 := by omega
  have hz0 : 0 ≤ 1048576 - (ws0.length : Int) ∧ 1048576 - (ws0.length : Int) ≤ 1048576 := by omega
  have HZ0 := Lib.hid (fun W => szFerry_any l0 k0 a0 ws0.length c0 1048576 W (by omega) m0)
  simp only [if_neg z0] at HZ0
  clear z0
  obtain ⟨left, hleft⟩ : ∃ left, 1048576 - (ws0.length : Int) = left := ⟨_, rfl⟩
  rw [hleft] at hz0 HZ0
  clear hleft
  have HS := Lib.hid (fun (W : World) (a0' : Option Addr) (c0' : Nat) (hs0 : Sl .u16 W.heap.size W a0' ws0) (a1' : Option Addr) (c1' : Nat) (hs1 : Sl .i16 W.heap.size W a1' us1) => specLeastCrossings_any l0 k0 a0' c0' ws0 a1' c1' us1 W hs0 hs1 p0 q0 hn0 r0 hn1 g1)
  have HI := Lib.hid (fun (W : World) (a0' : Option Addr) (c0' : Nat) (hs0 : Sl .u16 W.heap.size W a0' ws0) (a1' : Option Addr) (c1' : Nat) (hs1 : Sl .i16 W.heap.size W a1' us1) => leastCrossings_any l0 k0 a0' c0' ws0 a1' c1' us1 W hs0 hs1 p0 q0 hn0 r0 hn1 g1)
  generalize lcW l0 k0 ws0 us1 = T1 at *
  generalize lcE l0 k0 ws0 us1 = T2 at *
  have HS1 := Lib.hid s1
  clear s1
  go_enter Try.func8, Try.ntmps8
  obtain ⟨d1_0, d1_1, d1_2, d1_f⟩ := (F0.blk _ (List.mem_cons_self)).three
  go_wp2_with fail
  refine (Calls.fr F0 (HZ0.out _)).mono ?_
  rintro e w1 ⟨rfl, F1⟩
  clear F0 d1_0 d1_1 d1_2 d1_f
  clear HZ0
  obtain ⟨d2_0, d2_1, d2_2, d2_f⟩ := (F1.blk _ (List.mem_cons_self)).three
  go_wp2_with fail
  refine (toFerry_fr F1 l0 k0 a0 c0 ws0 hn0 s0).mono ?_
  rintro e w2 ⟨g2, rfl, F2⟩
  clear F1 d2_0 d2_1 d2_2 d2_f
  go_wp2_with fail
  refine (toInt16S_fr F2 a1 c1 us1 hn1 HS1.out).mono ?_
  rintro e w3 ⟨g3, rfl, F3⟩
  clear F2 
  go_wp2_with fail
  refine (Calls.fr F3 (HS.out _ _ _ (Sl.own (F3.blk _ (List.mem_cons_of_mem _ (List.mem_cons_self)))) _ _ (Sl.ownI (F3.blk _ (List.mem_cons_self))))).mono ?_
  rintro e w4 ⟨rfl, F4⟩
  clear F3 
  obtain ⟨d3_0, d3_1, d3_2, d3_f⟩ := (F4.blk _ (List.mem_cons_of_mem _ (List.mem_cons_of_mem _ (List.mem_cons_self)))).three
  go_wp2_with fail
  refine (toFerry_fr F4 l0 k0 a0 c0 ws0 hn0 s0).mono ?_
  rintro e w5 ⟨g4, rfl, F5⟩
  clear F4 d3_0 d3_1 d3_2 d3_f
  have F6 := F5.box #[.int .i8 l0, .int .i8 k0, .slice (some ⟨g4, 0, none⟩) ws0.length ws0.length] 30
  clear F5
  go_wp2_with fail
  refine (toInt16S_fr F6 a1 c1 us1 hn1 HS1.out).mono ?_
  rintro e w7 ⟨g5, rfl, F7⟩
  clear F6 
  obtain ⟨d4_0, d4_1, d4_2, d4_f⟩ := (F7.blk _ (List.mem_cons_of_mem _ (List.mem_cons_self))).three
  go_wp2_with fail
  refine (Calls.fr F7 (HI.out _ _ _ (Sl.own (F7.blk _ (List.mem_cons_of_mem _ (List.mem_cons_of_mem _ (List.mem_cons_self))))) _ _ (Sl.ownI (F7.blk _ (List.mem_cons_self))))).mono ?_
  rintro e w8 ⟨rfl, F8⟩
  clear F7 d4_0 d4_1 d4_2 d4_f
  go_wp2_with fail
  have F9 := F8.drew
  go_region_held3 (fun w' => w'.cell? ⟨w5.heap.size, 0, none⟩ = some (.int .i8 l0) ∧ w'.cell? ⟨w5.heap.size, 1, none⟩ = some (.int .i8 k0) ∧ w'.cell? ⟨w5.heap.size, 2, none⟩ = some (.slice (some ⟨g4, 0, none⟩) ws0.length ws0.length) ∧ w'.cell? ⟨w.heap.size, 0, none⟩ = some (.int .i8 l0) ∧ w'.cell? ⟨w.heap.size, 1, none⟩ = some (.int .i8 k0) ∧ w'.cell? ⟨w.heap.size, 2, none⟩ = some (.slice a0 ws0.length c0))
    (first | exact ⟨(F11.blk _ (List.mem_cons_of_mem _ (List.mem_cons_of_mem _ (List.mem_cons_self)))).cell 0, (F11.blk _ (List.mem_cons_of_mem _ (List.mem_cons_of_mem _ (List.mem_cons_self)))).cell 1, (F11.blk _ (List.mem_cons_of_mem _ (List.mem_cons_of_mem _ (List.mem_cons_self)))).cell 2, (F11.blk _ (List.mem_cons_of_mem _ (List.mem_cons_of_mem _ (List.mem_cons_of_mem _ (List.mem_cons_of_mem _ (List.mem_cons_of_mem _ (List.mem_cons_of_mem _ (List.mem_cons_self)))))))).cell 0, (F11.blk _ (List.mem_cons_of_mem _ (List.mem_cons_of_mem _ (List.mem_cons_of_mem _ (List.mem_cons_of_mem _ (List.mem_cons_of_mem _ (List.mem_cons_of_mem _ (List.mem_cons_self)))))))).cell 1, (F11.blk _ (List.mem_cons_of_mem _ (List.mem_cons_of_mem _ (List.mem_cons_of_mem _ (List.mem_cons_of_mem _ (List.mem_cons_of_mem _ (List.mem_cons_of_mem _ (List.mem_cons_self)))))))).cell 2⟩ | exact ⟨(F10.blk _ (List.mem_cons_of_mem _ (List.mem_cons_of_mem _ (List.mem_cons_self)))).cell 0, (F10.blk _ (List.mem_cons_of_mem _ (List.mem_cons_of_mem _ (List.mem_cons_self)))).cell 1, (F10.blk _ (List.mem_cons_of_mem _ (List.mem_cons_of_mem _ (List.mem_cons_self)))).cell 2, (F10.blk _ (List.mem_cons_of_mem _ (List.mem_cons_of_mem _ (List.mem_cons_of_mem _ (List.mem_cons_of_mem _ (List.mem_cons_of_mem _ (List.mem_cons_of_mem _ (List.mem_cons_self)))))))).cell 0, (F10.blk _ (List.mem_cons_of_mem _ (List.mem_cons_of_mem _ (List.mem_cons_of_mem _ (List.mem_cons_of_mem _ (List.mem_cons_of_mem _ (List.mem_cons_of_mem _ (List.mem_cons_self)))))))).cell 1, (F10.blk _ (List.mem_cons_of_mem _ (List.mem_cons_of_mem _ (List.mem_cons_of_mem _ (List.mem_cons_of_mem _ (List.mem_cons_of_mem _ (List.mem_cons_of_mem _ (List.mem_cons_self)))))))).cell 2⟩ | exact ⟨(F9.blk _ (List.mem_cons_of_mem _ (List.mem_cons_self))).cell 0, (F9.blk _ (List.mem_cons_of_mem _ (List.mem_cons_self))).cell 1, (F9.blk _ (List.mem_cons_of_mem _ (List.mem_cons_self))).cell 2, (F9.blk _ (List.mem_cons_of_mem _ (List.mem_cons_of_mem _ (List.mem_cons_of_mem _ (List.mem_cons_of_mem _ (List.mem_cons_of_mem _ (List.mem_cons_self))))))).cell 0, (F9.blk _ (List.mem_cons_of_mem _ (List.mem_cons_of_mem _ (List.mem_cons_of_mem _ (List.mem_cons_of_mem _ (List.mem_cons_of_mem _ (List.mem_cons_self))))))).cell 1, (F9.blk _ (List.mem_cons_of_mem _ (List.mem_cons_of_mem _ (List.mem_cons_of_mem _ (List.mem_cons_of_mem _ (List.mem_cons_of_mem _ (List.mem_cons_self))))))).cell 2⟩)
    (first
      | (go_at_call 11; with_reducible refine (toFerry_fr F9 l0 k0 a0 c0 ws0 hn0 s0).mono ?_; rintro e w10 ⟨g6, rfl, F10⟩)
      | (go_at_call 14; with_reducible refine (eqFerry_fr F10 (List.mem_cons_of_mem _ (List.mem_cons_of_mem _ (List.mem_cons_of_mem _ (List.mem_cons_self)))) (List.mem_cons_self) l0 k0 _ _ hn0).mono ?_; rintro e w11 ⟨rfl, F11⟩))
  clear F9
  clear F10
  go_wp2_with fail
  refine (toInt16S_fr F11 a1 c1 us1 hn1 HS1.out).mono ?_
  rintro e w12 ⟨g7, rfl, F12⟩
  clear F11 
  go_wp2_with fail
  refine (eqInt16S_fr F12 (List.mem_cons_of_mem _ (List.mem_cons_of_mem _ (List.mem_cons_self))) (List.mem_cons_self) _ _ hn1).mono ?_
  rintro e w13 ⟨rfl, F13⟩
  clear F12 
  have HB := Lib.hid F13.below
  clear F13
  go_wp2
  go_ret
  exact ⟨rfl, HB.out⟩
end Go.Proofs.Ytbjipljnpibkpaa
