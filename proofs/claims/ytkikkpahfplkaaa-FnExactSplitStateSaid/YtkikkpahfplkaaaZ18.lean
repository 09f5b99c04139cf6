/-
  The program's split of a state.
-/
import Derived.Test.YtkikkpahfplkaaaZ17
import Derived.Deep.RegionHeld3
namespace Go.Proofs.Ytkikkpahfplkaaa
open Go.RowKit
set_option maxRecDepth 100000
set_option linter.unusedVariables false

theorem behind_yes (l : Nat) (x a : Nat → Int) (w : World) (hx : Sm x) (ha : InS x a) (hl : l ≤ 3) :
    Calls Try.prog 18 #[staV x, .int .i64 l, staV a, yesV] w fun e w' => e = .returned (staV (stepX l x a)) ∧ Below w.heap.size w w' :=
  behind_of yesV _ _ rfl l x a a w hx ha hl (fun W => rightFor_yes x a W)
theorem InS.rest {x a : Nat → Int} (hx : Sm x) (ha : InS x a) : InS x (fun j => x j - a j) := fun i hi => by
  have h1 := hx i hi
  have h2 := ha i hi
  show 0 ≤ x i - a i ∧ x i - a i ≤ x i
  omega
theorem behind_no (l : Nat) (x a : Nat → Int) (w : World) (hx : Sm x) (ha : InS x a) (hl : l ≤ 3) :
    Calls Try.prog 18 #[staV x, .int .i64 l, staV a, noV] w fun e w' => e = .returned (staV (stepX l x (fun j => x j - a j))) ∧ Below w.heap.size w w' :=
  behind_of noV _ _ rfl l x a _ w hx (ha.rest hx) hl (fun W => rightFor_no x a W hx ha)
theorem Blk.setAllOther {w : World} {g b : Nat} {cs : Array Value} {t : TypeId} (h : Blk w g cs t) (hg : g ≠ b) (u0 u1 u2 u3 : Value) :
    Blk ((((w.setCell ⟨b, 0, none⟩ u0).setCell ⟨b, 1, none⟩ u1).setCell ⟨b, 2, none⟩ u2).setCell ⟨b, 3, none⟩ u3) g cs t := (((h.setOther hg 0 u0).setOther hg 1 u1).setOther hg 2 u2).setOther hg 3 u3
theorem spl8 {W : World} {b0 b1 : Nat} {x a : Nat → Int} {t : TypeId} (k0 : Blk W b0 (staC x) t) (k1 : Blk W b1 (staC a) t) :
    W.cell? ⟨b0, 0, none⟩ = some (.int .i64 (x 0)) ∧ W.cell? ⟨b0, 1, none⟩ = some (.int .i64 (x 1)) ∧ W.cell? ⟨b0, 2, none⟩ = some (.int .i64 (x 2)) ∧ W.cell? ⟨b0, 3, none⟩ = some (.int .i64 (x 3)) ∧ W.cell? ⟨b1, 0, none⟩ = some (.int .i64 (a 0)) ∧ W.cell? ⟨b1, 1, none⟩ = some (.int .i64 (a 1)) ∧ W.cell? ⟨b1, 2, none⟩ = some (.int .i64 (a 2)) ∧ W.cell? ⟨b1, 3, none⟩ = some (.int .i64 (a 3)) :=
  ⟨k0.cell 0, k0.cell 1, k0.cell 2, k0.cell 3, k1.cell 0, k1.cell 1, k1.cell 2, k1.cell 3⟩
theorem res_split {W : World} {b c : Nat} {v0 v1 v2 v3 u0 u1 u2 u3 : Value} (K : Blk W b #[v0, v1, v2, v3] 23) (K2 : Blk W c #[u0, u1, u2, u3] 23) (tmps : Array Value) (h6 : tmps.getD 6 undef = .pointer (some ⟨b, 0, none⟩)) (h7 : tmps.getD 7 undef = .pointer (some ⟨c, 0, none⟩)) : (results Try.f13 tmps).run Try.prog W = .ok (.tuple #[.agg #[v0, v1, v2, v3], .agg #[u0, u1, u2, u3]]) W := by
  have h6' : tmps[6]?.getD undef = .pointer (some ⟨b, 0, none⟩) := by simpa using h6
  have h7' : tmps[7]?.getD undef = .pointer (some ⟨c, 0, none⟩) := by simpa using h7
  obtain ⟨e0, e1, e2, e3, -⟩ := K.four
  obtain ⟨d0, d1, d2, d3, -⟩ := K2.four
  simp [results, Try.results13, go_sem, e0, e1, e2, e3, d0, d1, d2, d3, h6', h7']
theorem FR.s0 {w W : World} {b0 : Nat} {c0 : Array Value} {t0 : TypeId} {p q r : Nat × Array Value × TypeId} {L : List (Nat × Array Value × TypeId)} (h : FR w (p :: q :: r :: (b0, c0, t0) :: L) W) : Blk W b0 c0 t0 := h.blk (b0, c0, t0) (by simp)
theorem FR.s1 {w W : World} {b0 : Nat} {c0 : Array Value} {t0 : TypeId} {p q : Nat × Array Value × TypeId} {L : List (Nat × Array Value × TypeId)} (h : FR w (p :: q :: (b0, c0, t0) :: L) W) : Blk W b0 c0 t0 := h.blk (b0, c0, t0) (by simp)
set_option maxHeartbeats 4000000 in
theorem split_any (l : Nat) (x a : Nat → Int) (w : World) (hx : Sm x) (ha : InS x a) (hl : l ≤ 3) :
    Calls Try.prog 13 #[staV x, .int .i64 l, staV a] w fun e w' => e = .returned (.tuple #[staV (stepX l x a), staV (stepX l x (fun j => x j - a j))]) ∧ Below w.heap.size w w' := by
  have F0 := ((((FR.start w).box (staC x) 23).box (staC a) 23).box (staC (fun _ => 0)) 23).box (staC (fun _ => 0)) 23
  simp only [World.size_alloc] at F0
  have HY := Lib.hid (fun W => behind_yes l x a W hx ha hl)
  have HN := Lib.hid (fun W => behind_no l x a W hx ha hl)
  generalize stepX l x a = y at *
  generalize stepX l x (fun j => x j - a j) = n at *
  have F1 := F0.drew
  have n0 : w.heap.size ≠ w.heap.size + 1 + 1 := by omega
  have n1 : w.heap.size + 1 ≠ w.heap.size + 1 + 1 := by omega
  have n2 : w.heap.size ≠ w.heap.size + 1 + 1 + 1 := by omega
  have n3 : w.heap.size + 1 ≠ w.heap.size + 1 + 1 + 1 := by omega
  clear hx ha F0
  go_enter Try.func13, Try.ntmps13
  go_wp2_with fail
  go_region_held3 (fun w' => w'.cell? ⟨w.heap.size, 0, none⟩ = some (.int .i64 (x 0)) ∧ w'.cell? ⟨w.heap.size, 1, none⟩ = some (.int .i64 (x 1)) ∧ w'.cell? ⟨w.heap.size, 2, none⟩ = some (.int .i64 (x 2)) ∧ w'.cell? ⟨w.heap.size, 3, none⟩ = some (.int .i64 (x 3)) ∧ w'.cell? ⟨w.heap.size + 1, 0, none⟩ = some (.int .i64 (a 0)) ∧ w'.cell? ⟨w.heap.size + 1, 1, none⟩ = some (.int .i64 (a 1)) ∧ w'.cell? ⟨w.heap.size + 1, 2, none⟩ = some (.int .i64 (a 2)) ∧ w'.cell? ⟨w.heap.size + 1, 3, none⟩ = some (.int .i64 (a 3)))
    (first
      | with_reducible exact spl8 k30 k31
      | with_reducible exact spl8 F2.s0 F2.s1
      | with_reducible exact spl8 F1.s0 F1.s1
      | with_reducible exact spl8 (k30.setAllOther n0 _ _ _ _) (k31.setAllOther n1 _ _ _ _)
      | with_reducible exact spl8 ((k30.setAllOther n0 _ _ _ _).setAllOther n2 _ _ _ _) ((k31.setAllOther n1 _ _ _ _).setAllOther n3 _ _ _ _))
    (first
      | (go_at_call 18; with_reducible refine (Calls.fr F1 (HY.out _)).mono ?_; rintro e w2 ⟨rfl, F2⟩)
      | (go_at_call 18; with_reducible refine (Calls.fr F2 (HN.out _)).mono ?_; rintro e w3 ⟨rfl, F3⟩; have k30 := F3.s0; have k31 := F3.s1; obtain ⟨g0, g1, g2, g3, g4⟩ := (F3.blk _ List.mem_cons_self).four; obtain ⟨s0, s1, s2, s3, s4⟩ := (F3.blk _ (List.mem_cons_of_mem _ List.mem_cons_self)).four))
  have e2 := (F3.blk _ (List.mem_cons_of_mem _ List.mem_cons_self)).setAll (.int .i64 (y 0)) (.int .i64 (y 1)) (.int .i64 (y 2)) (.int .i64 (y 3))
  have e3 := (F3.blk _ List.mem_cons_self).setAllOther (show w.heap.size + 1 + 1 + 1 ≠ w.heap.size + 1 + 1 by omega) (.int .i64 (y 0)) (.int .i64 (y 1)) (.int .i64 (y 2)) (.int .i64 (y 3))
  have H2 := Lib.hid (e2.setAllOther (show w.heap.size + 1 + 1 ≠ w.heap.size + 1 + 1 + 1 by omega) (.int .i64 (n 0)) (.int .i64 (n 1)) (.int .i64 (n 2)) (.int .i64 (n 3)))
  have H3 := Lib.hid (e3.setAll (.int .i64 (n 0)) (.int .i64 (n 1)) (.int .i64 (n 2)) (.int .i64 (n 3)))
  have HB := Lib.hid (below_setAll (below_setAll F3.below (show w.heap.size ≤ w.heap.size + 1 + 1 by omega) (.int .i64 (y 0)) (.int .i64 (y 1)) (.int .i64 (y 2)) (.int .i64 (y 3))) (show w.heap.size ≤ w.heap.size + 1 + 1 + 1 by omega) (.int .i64 (n 0)) (.int .i64 (n 1)) (.int .i64 (n 2)) (.int .i64 (n 3)))
  clear F1 F2 F3 k30 k31 e2 e3 g0 g1 g2 g3 g4 s0 s1 s2 s3 s4
  go_wp2
  exact bodyPost_ret (res_split H2.out H3.out _ rfl rfl) rfl ⟨rfl, HB.out⟩
end Go.Proofs.Ytkikkpahfplkaaa
