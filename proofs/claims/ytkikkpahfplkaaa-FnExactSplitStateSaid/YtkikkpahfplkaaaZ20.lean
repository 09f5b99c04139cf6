/-
  The model's split of a state: the walk.
-/
import Derived.Test.YtkikkpahfplkaaaZ19
import Derived.Deep.RegionHeld3
namespace Go.Proofs.Ytkikkpahfplkaaa
open Go.RowKit
set_option maxRecDepth 100000
set_option linter.unusedVariables false

abbrev restX (x a : Nat → Int) : Nat → Int := fun j => x j - a j
/-- The six blocks of the model's split. -/
def Spl (w : World) (l : Nat) (x a : Nat → Int) (i : Nat) (wr : World) : Prop :=
  FR w [(w.heap.size + 1 + 1 + 1 + 1 + 1, staC (yP l x (restX x a) i), 23), (w.heap.size + 1 + 1 + 1 + 1, staC (yP l x a i), 23), (w.heap.size + 1 + 1 + 1, staC (fun _ => 0), 23), (w.heap.size + 1 + 1, staC (fun _ => 0), 23), (w.heap.size + 1, staC a, 23), (w.heap.size, staC x, 23)] wr
/-- A store into the second newest block. -/
theorem FR.setSnd {w0 w : World} {b c : Nat} {ds cs : Array Value} {t s : TypeId} {L : List (Nat × Array Value × TypeId)} (h : FR w0 ((b, ds, s) :: (c, cs, t) :: L) w) (hbc : c < b) (i : Nat) (v : Value) (hL : ∀ q ∈ L, q.1 < c) (h0 : w0.heap.size ≤ c) :
    FR w0 ((b, ds, s) :: (c, cs.setIfInBounds i v, t) :: L) (w.setCell ⟨c, i, none⟩ v) := by
  have hb : Below c w (w.setCell ⟨c, i, none⟩ v) := (Below.refl c w).setCell (show c ≤ (⟨c, i, none⟩ : Addr).block from Nat.le_refl _) v
  refine ⟨h.below.trans (hb.mono h0), fun p hp => ?_, fun p L' e => ?_⟩
  · rcases List.mem_cons.1 hp with rfl | hp
    · exact (h.blk (b, ds, s) List.mem_cons_self).setOther (Nat.ne_of_gt hbc) i v
    rcases List.mem_cons.1 hp with rfl | hp
    · exact (h.blk (c, cs, t) (List.mem_cons_of_mem _ List.mem_cons_self)).set i v
    · exact (h.blk p (List.mem_cons_of_mem _ (List.mem_cons_of_mem _ hp))).below hb (hL p hp)
  · cases e
    refine ⟨Nat.le_trans h0 (Nat.le_of_lt hbc), fun q hq => ?_⟩
    rcases List.mem_cons.1 hq with rfl | hq
    · exact hbc
    · exact Nat.lt_trans (hL q hq) hbc
theorem Spl.drew {w : World} {l : Nat} {x a : Nat → Int} {i : Nat} {wr : World} (h : Spl w l x a i wr) : Spl w l x a i wr.drew := FR.drew h
theorem res_l06Split {W : World} {b c : Nat} {v0 v1 v2 v3 u0 u1 u2 u3 : Value} (K : Blk W b #[v0, v1, v2, v3] 23) (K2 : Blk W c #[u0, u1, u2, u3] 23) (tmps : Array Value) (h6 : tmps.getD 6 undef = .pointer (some ⟨b, 0, none⟩)) (h7 : tmps.getD 7 undef = .pointer (some ⟨c, 0, none⟩)) : (results Try.f10 tmps).run Try.prog W = .ok (.tuple #[.agg #[v0, v1, v2, v3], .agg #[u0, u1, u2, u3]]) W := by
  have h6' : tmps[6]?.getD undef = .pointer (some ⟨b, 0, none⟩) := by simpa using h6
  have h7' : tmps[7]?.getD undef = .pointer (some ⟨c, 0, none⟩) := by simpa using h7
  obtain ⟨e0, e1, e2, e3, -⟩ := K.four
  obtain ⟨d0, d1, d2, d3, -⟩ := K2.four
  simp [results, Try.results10, go_sem, e0, e1, e2, e3, d0, d1, d2, d3, h6', h7']
set_option maxHeartbeats 4000000 in
theorem l06Split_any (l : Nat) (x a : Nat → Int) (w : World) (hx : Sm x) (ha : InS x a) (hl : l ≤ 3) (hz : ∀ j, j < 4 → l < j → x j = 0) :
    Calls Try.prog 10 #[.int .i64 l, staV x, staV a] w fun e w' => e = .returned (.tuple #[staV (stepX l x a), staV (stepX l x (restX x a))]) ∧ Below w.heap.size w w' := by
  have F0 := ((((((FR.start w).box (staC x) 23).box (staC a) 23).box (staC (fun _ => 0)) 23).box (staC (fun _ => 0)) 23).box (staC (fun _ => 0)) 23).box (staC (fun _ => 0)) 23
  simp only [World.size_alloc] at F0
  have HS := Lib.hid (show Spl w l x a 0 _ from by unfold Spl; rw [yP_zero, yP_zero]; exact F0)
  clear F0
  go_enter Try.func10, Try.ntmps10
  go_wp2
  generalize (((((w.alloc (Obj.cells (staC x) 23)).alloc (Obj.cells (staC a) 23)).alloc (Obj.cells (staC (fun _ => 0)) 23)).alloc (Obj.cells (staC (fun _ => 0)) 23)).alloc (Obj.cells (staC (fun _ => 0)) 23)).alloc (Obj.cells (staC (fun _ => 0)) 23) = w1 at *
  go_loopw [10] (fun iv wr => ∃ i : Nat, iv = .int .i64 (i : Int) ∧ i ≤ l + 1 ∧ Spl w l x a i wr) (fun iv _ => 5 - (intOf iv).toNat)
  case atStart => exact ⟨0, rfl, by omega, HS.out⟩
  case round =>
    obtain ⟨i, rfl, hi, hF⟩ := hrel
    unfold Spl at hF
    by_cases hil : i ≤ l
    case neg =>
      have hi1 : i = l + 1 := by omega
      have hd : decide ((i : Int) ≤ (l : Int)) = false := by simpa using hil
      rw [hi1] at hF
      rw [yP_end l x a (fun j hj h => by have := ha j hj; have := hz j hj h; omega), yP_end l x (restX x a) (fun j hj h => by have := ha j hj; have := hz j hj h; show x j - a j = 0; omega)] at hF
      obtain ⟨y, hgy⟩ : ∃ y, stepX l x a = y := ⟨_, rfl⟩
      obtain ⟨n, hgn⟩ : ∃ n, stepX l x (restX x a) = n := ⟨_, rfl⟩
      rw [hgy, hgn] at hF
      have HEY := Lib.hid hgy
      have HEN := Lib.hid hgn
      clear hgy hgn
      have hD := hF
      have k2 := hD.blk (w.heap.size + 1 + 1, staC (fun _ => 0), 23) (by simp)
      have k3 := hD.blk (w.heap.size + 1 + 1 + 1, staC (fun _ => 0), 23) (by simp)
      have k4 := hD.blk _ (List.mem_cons_of_mem _ List.mem_cons_self)
      have k5 := hD.blk _ List.mem_cons_self
      have e2 := k2.setAll (.int .i64 (y 0)) (.int .i64 (y 1)) (.int .i64 (y 2)) (.int .i64 (y 3))
      have e3 := k3.setAllOther (show w.heap.size + 1 + 1 + 1 ≠ w.heap.size + 1 + 1 by omega) (.int .i64 (y 0)) (.int .i64 (y 1)) (.int .i64 (y 2)) (.int .i64 (y 3))
      have H2 := Lib.hid (e2.setAllOther (show w.heap.size + 1 + 1 ≠ w.heap.size + 1 + 1 + 1 by omega) (.int .i64 (n 0)) (.int .i64 (n 1)) (.int .i64 (n 2)) (.int .i64 (n 3)))
      have H3 := Lib.hid (e3.setAll (.int .i64 (n 0)) (.int .i64 (n 1)) (.int .i64 (n 2)) (.int .i64 (n 3)))
      have HB := Lib.hid (below_setAll (below_setAll hD.below (show w.heap.size ≤ w.heap.size + 1 + 1 by omega) (.int .i64 (y 0)) (.int .i64 (y 1)) (.int .i64 (y 2)) (.int .i64 (y 3))) (show w.heap.size ≤ w.heap.size + 1 + 1 + 1 by omega) (.int .i64 (n 0)) (.int .i64 (n 1)) (.int .i64 (n 2)) (.int .i64 (n 3)))
      obtain ⟨g0, g1, g2, g3, g4⟩ := k2.four
      obtain ⟨s0, s1, s2, s3, s4⟩ := k3.four
      dsimp only at g0 g1 g2 g3 g4 s0 s1 s2 s3 s4 k4 k5
      have n4 : w.heap.size + 1 + 1 + 1 + 1 ≠ w.heap.size + 1 + 1 := by omega
      have n5 : w.heap.size + 1 + 1 + 1 + 1 + 1 ≠ w.heap.size + 1 + 1 := by omega
      have n6 : w.heap.size + 1 + 1 + 1 + 1 ≠ w.heap.size + 1 + 1 + 1 := by omega
      have n7 : w.heap.size + 1 + 1 + 1 + 1 + 1 ≠ w.heap.size + 1 + 1 + 1 := by omega
      clear hF e2 e3 hD k2 k3 hz hx ha hi1 hi
      have K4 := Lib.hid k4
      have K5 := Lib.hid k5
      clear k4 k5
      go_wp2_with fail
      have k4 := K4.out
      have k5 := K5.out
      go_region_held3 (fun w' => w'.cell? ⟨w.heap.size + 1 + 1 + 1 + 1, 0, none⟩ = some (.int .i64 (y 0)) ∧ w'.cell? ⟨w.heap.size + 1 + 1 + 1 + 1, 1, none⟩ = some (.int .i64 (y 1)) ∧ w'.cell? ⟨w.heap.size + 1 + 1 + 1 + 1, 2, none⟩ = some (.int .i64 (y 2)) ∧ w'.cell? ⟨w.heap.size + 1 + 1 + 1 + 1, 3, none⟩ = some (.int .i64 (y 3)) ∧ w'.cell? ⟨w.heap.size + 1 + 1 + 1 + 1 + 1, 0, none⟩ = some (.int .i64 (n 0)) ∧ w'.cell? ⟨w.heap.size + 1 + 1 + 1 + 1 + 1, 1, none⟩ = some (.int .i64 (n 1)) ∧ w'.cell? ⟨w.heap.size + 1 + 1 + 1 + 1 + 1, 2, none⟩ = some (.int .i64 (n 2)) ∧ w'.cell? ⟨w.heap.size + 1 + 1 + 1 + 1 + 1, 3, none⟩ = some (.int .i64 (n 3)))
        (first
          | with_reducible exact spl8 k4.drew k5.drew
          | with_reducible exact spl8 (k4.setAllOther n4 _ _ _ _).drew (k5.setAllOther n5 _ _ _ _).drew
          | with_reducible exact spl8 ((k4.setAllOther n4 _ _ _ _).setAllOther n6 _ _ _ _).drew ((k5.setAllOther n5 _ _ _ _).setAllOther n7 _ _ _ _).drew)
        (first | fail)
      clear k4 k5 g0 g1 g2 g3 g4 s0 s1 s2 s3 s4
      go_wp2
      exact bodyPost_ret (res_l06Split H2.out.drew H3.out.drew _ rfl rfl) rfl ⟨by rw [HEY.out, HEN.out], HB.out.drew⟩
    have hd : decide ((i : Int) ≤ (l : Int)) = true := by simpa using hil
    have HFF := Lib.hid hF
    have y0 := Blk.sta (x := yP l x a i) (hF.blk _ (List.mem_cons_of_mem _ List.mem_cons_self)) i (by omega)
    have n0 := Blk.sta (x := yP l x (restX x a) i) (hF.blk _ List.mem_cons_self) i (by omega)
    have x0 := Blk.sta (x := x) (hF.blk (w.heap.size, staC x, 23) (by simp)) i (by omega)
    have a0 := Blk.sta (x := a) (hF.blk _ (List.mem_cons_of_mem _ (List.mem_cons_of_mem _ (List.mem_cons_of_mem _ (List.mem_cons_of_mem _ List.mem_cons_self))))) i (by omega)
    have f0 := (hF.blk _ (List.mem_cons_of_mem _ List.mem_cons_self)).free i
    have f1 := (hF.blk _ List.mem_cons_self).free i
    have q0 := hx i (by omega)
    have q1 := ha i (by omega)
    have q2 := yP_bd l x a hx ha i i (by omega)
    have q3 := yP_bd l x (restX x a) hx (ha.rest hx) i i (by omega)
    dsimp only at y0 n0 x0 a0 f0 f1
    by_cases hil2 : i < l
    · have hd2 : decide ((i : Int) < (l : Int)) = true := by simpa using hil2
      have y1 := Blk.sta (x := yP l x a i) (hF.blk _ (List.mem_cons_of_mem _ List.mem_cons_self)) (i + 1) (by omega)
      have n1 := Blk.sta (x := yP l x (restX x a) i) (hF.blk _ List.mem_cons_self) (i + 1) (by omega)
      rw [yP_at] at y1 n1
      have f2 := (hF.blk _ (List.mem_cons_of_mem _ List.mem_cons_self)).free (i + 1)
      have f3 := (hF.blk _ List.mem_cons_self).free (i + 1)
      dsimp only at y1 n1 f2 f3
      have g1 := hF.setSnd (by omega) i (.int .i64 (yP l x a i i + a i)) (by simp; omega) (by omega)
      have g2 := g1.setTop i (.int .i64 (yP l x (restX x a) i i + (x i - a i)))
      have g3 := g2.setSnd (by omega) (i + 1) (.int .i64 (x i - a i)) (by simp; omega) (by omega)
      have g4 := g3.setTop (i + 1) (.int .i64 (a i))
      have ey := yP_next l x a i hl hil2
      have en := yP_next l x (restX x a) i hl hil2
      rw [Int.zero_add] at ey en
      rw [show x i - restX x a i = a i from by show x i - (x i - a i) = a i; omega] at en
      rw [ey, en] at g4
      have HN := Lib.hid (show Spl w l x a (i + 1) _ from g4)
      clear g1 g2 g3 g4 ey en HFF
      generalize yP l x a i i = yi at *
      generalize yP l x (restX x a) i i = ni at *
      generalize x i = xi at *
      generalize a i = ai at *
      have hz4 : (i : Int) < 3 := by omega
      clear hF
      go_wp2
      go_region
      go_wp2
      go_region
      go_wp2
      go_region
      go_wp2
      go_region
      go_wp2
      go_roundw
      case rel => exact ⟨i + 1, by go_num, by omega, HN.out.drew.drew.drew.drew⟩
      case measure => simp [intOf]; omega
    · have hd2 : decide ((i : Int) < (l : Int)) = false := by simpa using hil2
      have g1 := hF.setSnd (by omega) i (.int .i64 (yP l x a i i + a i)) (by simp; omega) (by omega)
      have g2 := g1.setTop i (.int .i64 (yP l x (restX x a) i i + (x i - a i)))
      have ey := yP_mid l x a i hil hl hil2
      have en := yP_mid l x (restX x a) i hil hl hil2
      rw [ey] at g2
      rw [show (staC (yP l x (restX x a) i)).setIfInBounds i (.int .i64 (yP l x (restX x a) i i + (x i - a i))) = staC (yP l x (restX x a) (i + 1)) from en] at g2
      have HN := Lib.hid (show Spl w l x a (i + 1) _ from g2)
      clear g1 g2 ey en HFF
      generalize yP l x a i i = yi at *
      generalize yP l x (restX x a) i i = ni at *
      generalize x i = xi at *
      generalize a i = ai at *
      have hz4 : (i : Int) < 4 := by omega
      clear hF
      go_wp2
      go_region
      go_wp2
      go_region
      go_wp2
      go_roundw
      case rel => exact ⟨i + 1, by go_num, by omega, HN.out.drew.drew⟩
      case measure => simp [intOf]; omega
end Go.Proofs.Ytkikkpahfplkaaa
