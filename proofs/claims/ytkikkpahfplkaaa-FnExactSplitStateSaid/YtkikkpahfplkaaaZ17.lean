/-
  The program's split of a state: what is behind an answer.
-/
import Derived.Test.YtkikkpahfplkaaaZ16
namespace Go.Proofs.Ytkikkpahfplkaaa
open Go.RowKit
set_option maxRecDepth 100000
set_option linter.unusedVariables false

/-- Those of the sorts behind k have been moved on. -/
def bP (l : Nat) (x y : Nat → Int) (k i : Nat) : Int := if k < i ∧ i ≤ l then y i + (x (i - 1) - y (i - 1)) else y i
def stepX (l : Nat) (x y : Nat → Int) : Nat → Int := bP l x y 0
theorem bP_top (l : Nat) (x y : Nat → Int) : staC (bP l x y l) = staC y := by
  have : ∀ i, bP l x y l i = y i := fun i => by unfold bP; rw [if_neg (by omega)]
  simp [this]
theorem bP_next (l : Nat) (x y : Nat → Int) (m : Nat) (hm : m + 1 ≤ l) (hl : l ≤ 3) : (staC (bP l x y (m + 1))).setIfInBounds (m + 1) (.int .i64 (y (m + 1) + (x m - y m))) = staC (bP l x y m) := by
  have e : y (m + 1) + (x m - y m) = bP l x y m (m + 1) := by unfold bP; rw [if_pos (by omega)]; rfl
  rw [e]
  refine sta_set _ _ (m + 1) (by omega) (fun j hj => ?_)
  by_cases h : j = m + 1
  · subst h; rw [if_pos rfl]
  · rw [if_neg h]; unfold bP
    by_cases h2 : m + 1 < j ∧ j ≤ l
    · rw [if_pos h2, if_pos (by omega)]
    · rw [if_neg h2, if_neg (by omega)]
theorem res_behind {W : World} {b : Nat} {v0 v1 v2 v3 : Value} (K : Blk W b #[v0, v1, v2, v3] 23) (tmps : Array Value) (h2 : tmps.getD 8 undef = .pointer (some ⟨b, 0, none⟩)) : (results Try.f18 tmps).run Try.prog W = .ok (.agg #[v0, v1, v2, v3]) W := by
  have h2' : tmps[8]?.getD undef = .pointer (some ⟨b, 0, none⟩) := by simpa using h2
  obtain ⟨e0, e1, e2, e3, -⟩ := K.four
  simp [results, Try.results18, go_sem, e0, e1, e2, e3, h2']
set_option maxHeartbeats 2000000 in
theorem behind_of (V : Value) (T : TypeId) (u : Value) (hV : V = .iface T u) (l : Nat) (x a y : Nat → Int) (w : World) (hx : Sm x) (hy : InS x y) (hl : l ≤ 3)
    (HRR : ∀ W, Calls Try.prog 19 #[V, staV x, staV a] W fun e w' => e = .returned (staV y) ∧ Below W.heap.size W w') :
    Calls Try.prog 18 #[staV x, .int .i64 l, staV a, V] w fun e w' => e = .returned (staV (stepX l x y)) ∧ Below w.heap.size w w' := by
  subst hV
  have HR := Lib.hid HRR
  have F0 := (((FR.start w).box (staC x) 23).box (staC a) 23).box (staC (fun _ => 0)) 23
  simp only [World.size_alloc] at F0
  have k0 := F0.blk _ (List.mem_cons_of_mem _ (List.mem_cons_of_mem _ List.mem_cons_self))
  have k1 := F0.blk _ (List.mem_cons_of_mem _ List.mem_cons_self)
  obtain ⟨c0, c1, c2, c3, -⟩ := k0.four
  obtain ⟨d0, d1, d2, d3, -⟩ := k1.four
  clear HRR k0 k1
  go_enter Try.func18, Try.ntmps18
  go_wp2_with fail
  refine (HR.out _).mono ?_
  rintro e w2 ⟨rfl, hb⟩
  have F1 := (F0.next hb).box (staC y) 23
  clear hb F0 c0 c1 c2 c3 d0 d1 d2 d3 HR
  have F2 : FR w [(w2.heap.size, staC (bP l x y l), 23), (w.heap.size + 1 + 1, staC (fun _ => 0), 23), (w.heap.size + 1, staC a, 23), (w.heap.size, staC x, 23)] (w2.alloc (.cells (staC y) 23)) := by rw [bP_top]; exact F1
  have hg := (F1.top _ _ rfl).2 _ List.mem_cons_self
  dsimp only at hg
  clear F1
  go_wp2
  generalize w2.alloc (.cells (staC y) 23) = w3 at *
  generalize w2.heap.size = g at *
  go_loopw [10] (fun iv wr => ∃ k : Nat, iv = .int .i64 (k : Int) ∧ k ≤ l ∧ FR w [(g, staC (bP l x y k), 23), (w.heap.size + 1 + 1, staC (fun _ => 0), 23), (w.heap.size + 1, staC a, 23), (w.heap.size, staC x, 23)] wr) (fun iv _ => (intOf iv).toNat)
  case atStart => exact ⟨l, rfl, Nat.le_refl _, F2⟩
  case round =>
    obtain ⟨k, rfl, hk, hF⟩ := hrel
    cases k with
    | zero =>
      have k0 := hF.blk _ List.mem_cons_self
      have k1 := hF.blk _ (List.mem_cons_of_mem _ List.mem_cons_self)
      have HE := Lib.hid (show stepX l x y = bP l x y 0 from rfl)
      have HB0 := Lib.hid hF.below
      generalize bP l x y 0 = z at *
      have HR := Lib.hid (Blk.setAll k1 (.int .i64 (z 0)) (.int .i64 (z 1)) (.int .i64 (z 2)) (.int .i64 (z 3)))
      have HB := Lib.hid (below_setAll HB0.out (show w.heap.size ≤ w.heap.size + 1 + 1 by omega) (.int .i64 (z 0)) (.int .i64 (z 1)) (.int .i64 (z 2)) (.int .i64 (z 3)))
      obtain ⟨c0, c1, c2, c3, -⟩ := k0.four
      obtain ⟨d0, d1, d2, d3, d4⟩ := k1.four
      clear hF k0 k1 F2
      go_wp2
      exact bodyPost_ret (res_behind HR.out _ rfl) rfl ⟨by rw [HE.out], HB.out⟩
    | succ m =>
      have k0 := hF.blk _ List.mem_cons_self
      have c0 := Blk.sta (x := bP l x y (m + 1)) k0 (m + 1) (by omega)
      have c1 := Blk.sta (x := bP l x y (m + 1)) k0 m (by omega)
      have f0 := k0.free (m + 1)
      have d0 := Blk.sta (x := x) (hF.blk _ (List.mem_cons_of_mem _ (List.mem_cons_of_mem _ (List.mem_cons_of_mem _ List.mem_cons_self)))) m (by omega)
      rw [show bP l x y (m + 1) (m + 1) = y (m + 1) from by unfold bP; rw [if_neg (by omega)]] at c0
      rw [show bP l x y (m + 1) m = y m from by unfold bP; rw [if_neg (by omega)]] at c1
      have h3 := hF.setTop (m + 1) (.int .i64 (y (m + 1) + (x m - y m)))
      rw [bP_next l x y m (by omega) hl] at h3
      have HN := Lib.hid h3
      have q0 := hx m (by omega)
      have q1 := hy m (by omega)
      have q2 := hy (m + 1) (by omega)
      have q3 := hx (m + 1) (by omega)
      dsimp only at c0 c1 f0 d0
      have hm : m < 3 := by omega
      generalize x m = xm at *
      generalize y m = ym at *
      generalize y (m + 1) = yn at *
      clear hF k0 F2 h3
      go_wp2
      go_region
      go_wp2
      go_roundw
      case rel => exact ⟨m, rfl, by omega, HN.out.drew⟩
      case measure => simp [intOf]
end Go.Proofs.Ytkikkpahfplkaaa
