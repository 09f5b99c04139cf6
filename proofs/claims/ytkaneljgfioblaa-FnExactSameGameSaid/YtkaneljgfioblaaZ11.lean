/-
  The walks of SameGame and its model.
-/
import Derived.Test.YtkaneljgfioblaaZ10
import Derived.Laws.StructEq
namespace Go.Proofs.Ytkaneljgfioblaa
open Go.RowKit
set_option maxRecDepth 100000
set_option linter.unusedVariables false

theorem ne_beqA {x y : Ak} (h : ¬ x = y) : (x.1 == y.1 && x.2 == y.2) = false := by
  by_cases h1 : x.1 = y.1 <;> by_cases h2 : x.2 = y.2 <;> simp [h1, h2]
  exact h (Prod.ext h1 h2)
theorem eqAk (a : Int) (b : Bool) (a' : Int) (b' : Bool) (w : World) : (Op.equalIn 10000 54 (.agg #[.int .u64 a, .bool b]) (.agg #[.int .u64 a', .bool b'])).run Try.prog w = .ok (a == a' && b == b') w := by
  have u3 := Try.underlying38
  have a3 := Try.isAgg38
  have z3 := Try.sizeOf38
  have u4 := Try.underlying4
  have a4 := Try.isAgg4
  have z4 := Try.sizeOf4
  have hS : Try.prog.underlying 54 = some (.struct (Try.prog.fieldsOf 54)) := by kernel_rfl
  have hp : Try.prog.stoodInHeld 54 = false := by kernel_rfl
  rw [show (10000 : Nat) = 9999 + 1 from rfl, run_equalIn_agg w 9999 54 _ _ hS hp]
  simp only [Program.fieldsOf, Try.underlying54]
  go_simp
  by_cases h1 : a = a' <;> by_cases h2 : b = b' <;> simp [h1, h2]
theorem eqAk_t (a : Int) (b : Bool) (w : World) : (Op.equalIn 10000 54 (.agg #[.int .u64 a, .bool b]) (.agg #[.int .u64 a, .bool b])).run Try.prog w = .ok true w := by rw [eqAk]; simp
theorem eqAk_f {x y : Ak} (h : ¬ x = y) (w : World) : (Op.equalIn 10000 54 (.agg #[.int .u64 x.1, .bool x.2]) (.agg #[.int .u64 y.1, .bool y.2])).run Try.prog w = .ok false w := by rw [eqAk, ne_beqA h]
def SameTo (ws us : List Ak) (k : Nat) : Prop := ∀ j, j < k → akI ws j = akI us j
theorem SameTo.succ {ws us : List Ak} {k : Nat} (h : SameTo ws us k) (h2 : akI ws k = akI us k) : SameTo ws us (k + 1) := fun j hj => by
  by_cases e : j = k
  · subst e; exact h2
  · exact h j (by omega)
def SameW (ws us : List Ak) : Prop := ws.length = us.length ∧ SameTo ws us ws.length
noncomputable def sameW (ws us : List Ak) : Bool := cb (SameW ws us)
def SameX (l k : Int) (ws : List Ak) (l' k' : Int) (us : List Ak) : Prop := l = l' ∧ k = k' ∧ SameW ws us
noncomputable def sameX (l k : Int) (ws : List Ak) (l' k' : Int) (us : List Ak) : Bool := cb (SameX l k ws l' k' us)
set_option maxHeartbeats 2000000 in
theorem equalW_some (b off c b2 off2 c2 : Nat) (ws us : List Ak) (w : World) (hn : ws.length ≤ 1048576) (he : ws.length = us.length) (hc : AAt w b off ws) (hc2 : AAt w b2 off2 us) :
    Calls Try.prog 36 #[.slice (some ⟨b, off, none⟩) ws.length c, .slice (some ⟨b2, off2, none⟩) ws.length c2] w fun e w' => e = .returned (.bool (sameW ws us)) ∧ Dr w w' := by
  go_enter Try.func36, Try.ntmps36
  go_wp2
  go_loopw [13] (fun i wr => ∃ k : Nat, i = .int .i64 k ∧ k ≤ ws.length ∧ SameTo ws us k ∧ ∃ q, wr = w.drewN q) (fun i _ => ws.length - (intOf i).toNat)
  case atStart => exact ⟨0, rfl, Nat.zero_le _, fun j h => absurd h (by omega), 0, rfl⟩
  case round =>
    obtain ⟨k, rfl, hk, hs, q, rfl⟩ := hrel
    by_cases hlt : k < ws.length
    case neg =>
      have HR := Lib.hid (show sameW ws us = true from cb_t ⟨he, fun j hj => hs j (by omega)⟩)
      clear hs
      go_wp2
      go_ret
      exact ⟨retb HR.out.symm, Dr.of _ _⟩
    obtain ⟨p0, p1⟩ := hc k hlt
    obtain ⟨q0, q1⟩ := hc2 k (by omega)
    have hkl : (k : Int) < (ws.length : Int) := by omega
    have HF := Lib.hid (fun (h : ¬ akI ws k = akI us k) => (show sameW ws us = false from cb_f (fun h' => h (h'.2 k hlt))))
    have HN := Lib.hid (fun h => hs.succ (k := k) h)
    clear hs hc hc2
    generalize akI ws k = x at *
    generalize akI us k = y at *
    by_cases hq : x = y
    · have HNN := Lib.hid (HN.out hq)
      subst hq
      have hqq := fun W => eqAk_t x.1 x.2 W
      clear HF HN
      go_wp2_with fail
      go_quiet (fail)
      go_wp2
      go_roundw
      case rel => exact ⟨k + 1, by go_num, by omega, HNN.out, _, rfl⟩
      case measure => simp [intOf]; omega
    · have HR := Lib.hid (HF.out hq)
      have hqq := fun W => eqAk_f hq W
      clear hq HF HN
      go_wp2_with fail
      go_quiet (fail)
      go_wp2
      go_ret
      exact ⟨retb HR.out.symm, (Dr.of _ _).trans (Dr.of _ _)⟩
theorem equalW_diff (a a2 : Option Addr) (c c2 : Nat) (ws us : List Ak) (w : World) (hn : ws.length ≤ 1048576) (hn2 : us.length ≤ 1048576) (he : ws.length ≠ us.length) :
    Calls Try.prog 36 #[.slice a ws.length c, .slice a2 us.length c2] w fun e w' => e = .returned (.bool (sameW ws us)) ∧ Dr w w' := by
  have HR := Lib.hid (show sameW ws us = false from cb_f (fun h => he h.1))
  have hne : ((ws.length : Int) != (us.length : Int)) = true := by simp; omega
  clear he
  go_enter Try.func36, Try.ntmps36
  go_wp2
  go_ret
  exact ⟨retb HR.out.symm, Dr.refl _⟩
theorem equalW_nil (a a2 : Option Addr) (c c2 : Nat) (w : World) :
    Calls Try.prog 36 #[.slice a 0 c, .slice a2 0 c2] w fun e w' => e = .returned (.bool true) ∧ Dr w w' := by
  go_enter Try.func36, Try.ntmps36
  go_wp2
  refine wp_loop_rounds 1 ?_
  rw [rounds_succ]
  go_wp2
  go_ret
  exact ⟨rfl, Dr.refl _⟩
theorem equalW_any (B B2 : Nat) (a a2 : Option Addr) (c c2 : Nat) (ws us : List Ak) (w : World) (hn : ws.length ≤ 1048576) (hn2 : us.length ≤ 1048576) (h : Sla B w a ws) (h2 : Sla B2 w a2 us) :
    Calls Try.prog 36 #[.slice a ws.length c, .slice a2 us.length c2] w fun e w' => e = .returned (.bool (sameW ws us)) ∧ Dr w w' := by
  by_cases he : ws.length = us.length
  · by_cases h0 : ws = []
    · subst h0
      have : us = [] := List.eq_nil_of_length_eq_zero he.symm
      subst this
      rw [show sameW [] [] = true from cb_t ⟨rfl, fun j hj => absurd hj (by simp)⟩]
      exact equalW_nil a a2 c c2 w
    · rcases h with h | ⟨b, off, rfl, _, hc⟩
      · exact absurd h h0
      rcases h2 with h2 | ⟨b2, off2, rfl, _, hc2⟩
      · subst h2; exact absurd (List.eq_nil_of_length_eq_zero he) h0
      rw [← he]
      exact equalW_some b off c b2 off2 c2 ws us w hn he hc hc2
  · exact equalW_diff a a2 c c2 ws us w hn hn2 he
theorem sameGame_any (l k : Int) (a : Option Addr) (c : Nat) (ws : List Ak) (l' k' : Int) (a2 : Option Addr) (c2 : Nat) (us : List Ak) (w : World) (hn : ws.length ≤ 1048576) (hn2 : us.length ≤ 1048576) (h : Sla w.heap.size w a ws) (h2 : Sla w.heap.size w a2 us) :
    Calls Try.prog 15 #[gamV l k a ws.length c, gamV l' k' a2 us.length c2] w fun e w' => e = .returned (.bool (sameX l k ws l' k' us)) ∧ Below w.heap.size w w' := by
  have F0 := ((FR.start w).box #[.int .i8 l, .int .i8 k, .slice a ws.length c] 30).box #[.int .i8 l', .int .i8 k', .slice a2 us.length c2] 30
  simp only [World.size_alloc] at F0
  have HE := Lib.hid (equalW_any _ _ a a2 c c2 ws us _ hn hn2 (h.below F0.below) (h2.below F0.below))
  have HB := Lib.hid F0.below
  clear h h2 F0
  by_cases hl : l = l'
  case neg =>
    have HR := Lib.hid (show sameX l k ws l' k' us = false from cb_f (fun h => hl h.1))
    have hq : (l == l') = false := by simpa using hl
    clear hl
    go_enter Try.func15, Try.ntmps15
    go_wp2
    go_ret
    exact ⟨retb HR.out.symm, HB.out⟩
  subst hl
  by_cases hk : k = k'
  case neg =>
    have HR := Lib.hid (show sameX l k ws l k' us = false from cb_f (fun h => hk h.2.1))
    have hq : (k == k') = false := by simpa using hk
    clear hk
    go_enter Try.func15, Try.ntmps15
    go_wp2
    go_ret
    exact ⟨retb HR.out.symm, HB.out⟩
  subst hk
  have HR := Lib.hid (show sameX l k ws l k us = sameW ws us from by
    unfold sameX sameW
    by_cases h : SameW ws us
    · rw [cb_t h, cb_t (p := SameX l k ws l k us) ⟨rfl, rfl, h⟩]
    · rw [cb_f h, cb_f (p := SameX l k ws l k us) (fun h' => h h'.2.2)])
  generalize sameW ws us = r at *
  go_enter Try.func15, Try.ntmps15
  go_wp2_with fail
  refine HE.out.mono ?_
  rintro e w2 ⟨rfl, hd⟩
  have HB2 := Lib.hid (HB.out.trans (hd.below.mono HB.out.size))
  clear hd HE
  go_wp2
  go_ret
  exact ⟨retb HR.out.symm, HB2.out⟩
set_option maxHeartbeats 2000000 in
theorem specSameGame_any (l k : Int) (a : Option Addr) (c : Nat) (ws : List Ak) (l' k' : Int) (a2 : Option Addr) (c2 : Nat) (us : List Ak) (w0 : World) (hn : ws.length ≤ 1048576) (hn2 : us.length ≤ 1048576) (h : Sla w0.heap.size w0 a ws) (h2 : Sla w0.heap.size w0 a2 us) :
    Calls Try.prog 14 #[gamV l k a ws.length c, gamV l' k' a2 us.length c2] w0 fun e w' => e = .returned (.bool (sameX l k ws l' k' us)) ∧ Below w0.heap.size w0 w' := by
  have F0 := ((FR.start w0).box #[.int .i8 l, .int .i8 k, .slice a ws.length c] 30).box #[.int .i8 l', .int .i8 k', .slice a2 us.length c2] 30
  simp only [World.size_alloc] at F0
  have HB := Lib.hid F0.below
  have K := F0.blk _ (List.mem_cons_of_mem _ List.mem_cons_self)
  have K2 := F0.blk _ List.mem_cons_self
  replace h := h.below F0.below
  replace h2 := h2.below F0.below
  clear F0
  obtain ⟨c0, c1, c2', -⟩ := K.three
  obtain ⟨d0, d1, d2, -⟩ := K2.three
  by_cases hl : l = l'
  case neg =>
    have HR := Lib.hid (show sameX l k ws l' k' us = false from cb_f (fun h => hl h.1))
    have hq : (l != l') = true := by simpa using hl
    clear hl h h2 K K2
    go_enter Try.func14, Try.ntmps14
    go_wp2
    go_ret
    exact ⟨retb HR.out.symm, HB.out⟩
  subst hl
  by_cases hk : k = k'
  case neg =>
    have HR := Lib.hid (show sameX l k ws l k' us = false from cb_f (fun h => hk h.2.1))
    have hq : (k != k') = true := by simpa using hk
    clear hk h h2 K K2
    go_enter Try.func14, Try.ntmps14
    go_wp2
    go_ret
    exact ⟨retb HR.out.symm, HB.out⟩
  subst hk
  by_cases he : ws.length = us.length
  case neg =>
    have HR := Lib.hid (show sameX l k ws l k us = false from cb_f (fun h => he h.2.2.1))
    have hne : ((ws.length : Int) != (us.length : Int)) = true := by simp; omega
    clear he h h2 K K2
    go_enter Try.func14, Try.ntmps14
    go_wp2
    go_ret
    exact ⟨retb HR.out.symm, HB.out⟩
  have HK := Lib.hid (And.intro K K2)
  obtain ⟨n, hn1⟩ : ∃ n, ws.length = n := ⟨_, rfl⟩
  have hu1 : us.length = n := by omega
  have HT := Lib.hid (fun (h : SameTo ws us n) => (show sameX l k ws l k us = true from cb_t ⟨rfl, rfl, he, fun j hj => h j (by omega)⟩))
  have HX := Lib.hid (fun (j : Nat) (hj : j < n) (h : ¬ akI ws j = akI us j) => (show sameX l k ws l k us = false from cb_f (fun h' => h (h'.2.2.2 j (by omega)))))
  simp only [hn1, hu1] at hn HK HB c0 c1 c2' d0 d1 d2 h h2
  rw [hn1, hu1]
  obtain ⟨w1, hw1⟩ : ∃ w1, (w0.alloc (Obj.cells #[.int .i8 l, .int .i8 k, .slice a n c] 30)).alloc (Obj.cells #[.int .i8 l, .int .i8 k, .slice a2 n c2] 30) = w1 := ⟨_, rfl⟩
  simp only [hw1] at HK HB c0 c1 c2' d0 d1 d2 h h2
  have HN1 := Lib.hid hn1
  have HU1 := Lib.hid hu1
  clear he hn1 hu1 hn2 K K2
  have HS := Lib.hid (show n = 0 ∨ ∃ b off b2 off2, a = some ⟨b, off, none⟩ ∧ a2 = some ⟨b2, off2, none⟩ ∧ AAt w1 b off ws ∧ AAt w1 b2 off2 us from by
    rcases h with h | ⟨b, off, rfl, hb, hc⟩
    · subst h; left; simpa using HN1.out.symm
    rcases h2 with h2 | ⟨b2, off2, rfl, hb2, hc2⟩
    · subst h2; left; simpa using HU1.out.symm
    exact .inr ⟨b, off, b2, off2, rfl, rfl, hc, hc2⟩)
  clear h h2
  have hnn : ((n : Int) != (n : Int)) = false := by simp
  go_enter Try.func14, Try.ntmps14
  go_wp2
  clear c0 c1 c2' d0 d1 d2 hw1
  go_loopw [5] (fun i wr => ∃ j : Nat, i = .int .i64 j ∧ j ≤ n ∧ SameTo ws us j ∧ Dr w1 wr) (fun i _ => n - (intOf i).toNat)
  case atStart => exact ⟨0, rfl, Nat.zero_le _, fun j h => absurd h (by omega), Dr.refl _⟩
  case round =>
    obtain ⟨j, rfl, hj, hs, hd⟩ := hrel
    have HD := Lib.hid hd
    obtain ⟨c0, c1, c2', -⟩ := (hd.blk HK.out.1).three
    obtain ⟨d0, d1, d2, -⟩ := (hd.blk HK.out.2).three
    by_cases hlt : j < n
    case neg =>
      have HR := Lib.hid (HT.out (fun i hi => hs i (by omega)))
      clear hs hd
      go_wp2
      go_ret
      exact ⟨retb HR.out.symm, HB.out.trans (HD.out.below.mono HB.out.size)⟩
    have hkl : (j : Int) < (n : Int) := by omega
    have HXj := Lib.hid (HX.out j hlt)
    have HNj := Lib.hid (fun h => hs.succ (k := j) h)
    rcases HS.out with h0 | ⟨b, off, b2, off2, rfl, rfl, g1, g2⟩
    · omega
    obtain ⟨p0, p1⟩ := (hd.aat g1) j (by rw [HN1.out]; exact hlt)
    obtain ⟨q0, q1⟩ := (hd.aat g2) j (by rw [HU1.out]; exact hlt)
    generalize akI ws j = x at *
    generalize akI us j = y at *
    clear hs g1 g2 HS hd
    by_cases hq : x = y
    · have HNN := Lib.hid (HNj.out hq)
      subst hq
      have hqq := fun W => eqAk_t x.1 x.2 W
      clear HXj HNj
      go_wp2_with fail
      go_quiet (fail)
      go_wp2
      go_roundw
      case rel => exact ⟨j + 1, by go_num, by omega, HNN.out, HD.out.trans (Dr.of _ _)⟩
      case measure => simp [intOf]; omega
    · have HR := Lib.hid (HXj.out hq)
      have hqq := fun W => eqAk_f hq W
      clear hq HXj HNj
      go_wp2_with fail
      go_quiet (fail)
      go_wp2
      go_ret
      exact ⟨retb HR.out.symm, HB.out.trans ((HD.out.trans (Dr.of _ _)).below.mono HB.out.size)⟩
end Go.Proofs.Ytkaneljgfioblaa
