/-
  The walks of SameFixed and its model.
-/
import Derived.Test.YtlkkjjbihgiiiaaE3
import Derived.Laws.StructEq
import Derived.Laws.Small
import Derived.Laws.Pointers
namespace Go.Proofs.Ytlkkjjbihgiiiaa
open Go.RowKit
set_option maxRecDepth 100000
set_option linter.unusedVariables false

theorem eqWd (a b c d a' b' c' d' : Int) (w : World) : (Op.equalIn 10000 47 (.agg #[.int .i8 a, .int .i8 b, .int .i8 c, .int .i8 d]) (.agg #[.int .i8 a', .int .i8 b', .int .i8 c', .int .i8 d'])).run Try.prog w = .ok (a == a' && b == b' && c == c' && d == d') w := by
  have u3 := Try.underlying22
  have a3 := Try.isAgg22
  have z3 := Try.sizeOf22
  rw [show (10000 : Nat) = 9999 + 1 from rfl, Op.equalIn]
  simp only [Sem.run_bind, run_underlying Try.underlying47, Result.andThen_ok]
  simp only [Std.Legacy.Range.forIn_eq_forIn_range', Std.Legacy.Range.size, Nat.sub_zero, Nat.add_sub_cancel, Nat.div_one, List.range'_succ, List.range'_zero, List.forIn_cons, List.forIn_nil]
  go_simp
  by_cases h1 : a = a' <;> by_cases h2 : b = b' <;> by_cases h3 : c = c' <;> by_cases h4 : d = d' <;> simp [h1, h2, h3, h4]
def Same4 (x y : Wf) : Prop := x 0 = y 0 ∧ x 1 = y 1 ∧ x 2 = y 2 ∧ x 3 = y 3
theorem eqWd_t {x y : Wf} (h : Same4 x y) (w : World) : (Op.equalIn 10000 47 (wordV x) (wordV y)).run Try.prog w = .ok true w := by
  rw [eqWd, h.1, h.2.1, h.2.2.1, h.2.2.2]; simp
theorem eqWd_f {x y : Wf} (h : ¬ Same4 x y) (w : World) : (Op.equalIn 10000 47 (wordV x) (wordV y)).run Try.prog w = .ok false w := by
  rw [eqWd]
  by_cases h1 : x 0 = y 0 <;> by_cases h2 : x 1 = y 1 <;> by_cases h3 : x 2 = y 2 <;> by_cases h4 : x 3 = y 3 <;> simp [h1, h2, h3, h4]
  exact h ⟨h1, h2, h3, h4⟩
def SameTo (ws us : List Wf) (k : Nat) : Prop := ∀ j, j < k → Same4 (wI ws j) (wI us j)
theorem SameTo.succ {ws us : List Wf} {k : Nat} (h : SameTo ws us k) (h2 : Same4 (wI ws k) (wI us k)) : SameTo ws us (k + 1) := fun j hj => by
  by_cases e : j = k
  · subst e; exact h2
  · exact h j (by omega)
def SameW (ws us : List Wf) : Prop := ws.length = us.length ∧ SameTo ws us ws.length
noncomputable def sameW (ws us : List Wf) : Bool := cb (SameW ws us)
def SameX (l k : Int) (ws : List Wf) (l' k' : Int) (us : List Wf) : Prop := l = l' ∧ k = k' ∧ SameW ws us
noncomputable def sameX (l k : Int) (ws : List Wf) (l' k' : Int) (us : List Wf) : Bool := cb (SameX l k ws l' k' us)
set_option maxHeartbeats 2000000 in
theorem equalW_some (b off c b2 off2 c2 : Nat) (ws us : List Wf) (w : World) (hn : ws.length ≤ 1048576) (he : ws.length = us.length) (hc : WAt w b off ws) (hc2 : WAt w b2 off2 us) :
    Calls Try.prog 38 #[.slice (some ⟨b, off, none⟩) ws.length c, .slice (some ⟨b2, off2, none⟩) ws.length c2] w fun e w' => e = .returned (.bool (sameW ws us)) ∧ Dr w w' := by
  go_enter Try.func38, Try.ntmps38
  go_wp2
  go_loopw [13] (fun i wr => ∃ k : Nat, i = .int .i64 k ∧ k ≤ ws.length ∧ SameTo ws us k ∧ ∃ q, wr = w.drewN q) (fun i _ => ws.length - (intOf i).toNat)
  case atStart => exact ⟨0, rfl, Nat.zero_le _, fun j h => absurd h (by omega), 0, rfl⟩
  case round =>
    obtain ⟨k, rfl, hk, hs, q, rfl⟩ := hrel
    by_cases hlt : k < ws.length
    case neg =>
      have HR := Lib.hid (show sameW ws us = true from cb_t ⟨he, fun j hj => hs j (by omega)⟩)
      clear hs
      go_wp2
      go_ret
      exact ⟨retb HR.out.symm, Dr.of _ _⟩
    obtain ⟨p0, p1, p2, p3⟩ := hc.four k hlt
    obtain ⟨q0, q1, q2, q3⟩ := hc2.four k (by omega)
    have hkl : (k : Int) < (ws.length : Int) := by omega
    have HF := Lib.hid (fun (h : ¬ Same4 (wI ws k) (wI us k)) => (show sameW ws us = false from cb_f (fun h' => h (h'.2 k hlt))))
    have HN := Lib.hid (fun h => hs.succ (k := k) h)
    clear hs hc hc2
    generalize wI ws k = x at *
    generalize wI us k = y at *
    by_cases hq : Same4 x y
    · have HNN := Lib.hid (HN.out hq)
      have hqq := fun W => eqWd_t hq W
      clear hq HF HN
      go_wp2_with fail
      go_quiet (fail)
      go_wp2
      go_roundw
      case rel => exact ⟨k + 1, by go_num, by omega, HNN.out, _, rfl⟩
      case measure => simp [intOf]; omega
    · have HR := Lib.hid (HF.out hq)
      have hqq := fun W => eqWd_f hq W
      clear hq HF HN
      go_wp2_with fail
      go_quiet (fail)
      go_wp2
      go_ret
      exact ⟨retb HR.out.symm, (Dr.of _ _).trans (Dr.of _ _)⟩
theorem equalW_diff (a a2 : Option Addr) (c c2 : Nat) (ws us : List Wf) (w : World) (hn : ws.length ≤ 1048576) (hn2 : us.length ≤ 1048576) (he : ws.length ≠ us.length) :
    Calls Try.prog 38 #[.slice a ws.length c, .slice a2 us.length c2] w fun e w' => e = .returned (.bool (sameW ws us)) ∧ Dr w w' := by
  have HR := Lib.hid (show sameW ws us = false from cb_f (fun h => he h.1))
  have hne : ((ws.length : Int) != (us.length : Int)) = true := by simp; omega
  clear he
  go_enter Try.func38, Try.ntmps38
  go_wp2
  go_ret
  exact ⟨retb HR.out.symm, Dr.refl _⟩
theorem equalW_nil (a a2 : Option Addr) (c c2 : Nat) (w : World) :
    Calls Try.prog 38 #[.slice a 0 c, .slice a2 0 c2] w fun e w' => e = .returned (.bool true) ∧ Dr w w' := by
  go_enter Try.func38, Try.ntmps38
  go_wp2
  refine wp_loop_rounds 1 ?_
  rw [rounds_succ]
  go_wp2
  go_ret
  exact ⟨rfl, Dr.refl _⟩
theorem equalW_any (B B2 : Nat) (a a2 : Option Addr) (c c2 : Nat) (ws us : List Wf) (w : World) (hn : ws.length ≤ 1048576) (hn2 : us.length ≤ 1048576) (h : Slw B w a ws) (h2 : Slw B2 w a2 us) :
    Calls Try.prog 38 #[.slice a ws.length c, .slice a2 us.length c2] w fun e w' => e = .returned (.bool (sameW ws us)) ∧ Dr w w' := by
  by_cases he : ws.length = us.length
  · by_cases h0 : ws = []
    · subst h0
      have : us = [] := List.eq_nil_of_length_eq_zero he.symm
      subst this
      rw [show sameW [] [] = true from cb_t ⟨rfl, fun j hj => absurd hj (by simp)⟩]
      exact equalW_nil a a2 c c2 w
    · rcases h with h | ⟨b, off, rfl, _, hc⟩
      · exact absurd h h0
      rcases h2 with h2 | ⟨b2, off2, rfl, _, hc2⟩
      · subst h2; exact absurd (List.eq_nil_of_length_eq_zero he) h0
      rw [← he]
      exact equalW_some b off c b2 off2 c2 ws us w hn he hc hc2
  · exact equalW_diff a a2 c c2 ws us w hn hn2 he
theorem sameFixed_any (l k : Int) (a : Option Addr) (c : Nat) (ws : List Wf) (l' k' : Int) (a2 : Option Addr) (c2 : Nat) (us : List Wf) (w : World) (hn : ws.length ≤ 1048576) (hn2 : us.length ≤ 1048576) (h : Slw w.heap.size w a ws) (h2 : Slw w.heap.size w a2 us) :
    Calls Try.prog 15 #[fixV l k a ws.length c, fixV l' k' a2 us.length c2] w fun e w' => e = .returned (.bool (sameX l k ws l' k' us)) ∧ Below w.heap.size w w' := by
  have F0 := ((FR.start w).box #[.int .i8 l, .int .i8 k, .slice a ws.length c] 30).box #[.int .i8 l', .int .i8 k', .slice a2 us.length c2] 30
  simp only [World.size_alloc] at F0
  have HE := Lib.hid (equalW_any _ _ a a2 c c2 ws us _ hn hn2 (h.below F0.below) (h2.below F0.below))
  have HB := Lib.hid F0.below
  clear h h2 F0
  by_cases hl : l = l'
  case neg =>
    have HR := Lib.hid (show sameX l k ws l' k' us = false from cb_f (fun h => hl h.1))
    have hq : (l == l') = false := by simpa using hl
    clear hl
    go_enter Try.func15, Try.ntmps15
    go_wp2
    go_ret
    exact ⟨retb HR.out.symm, HB.out⟩
  subst hl
  by_cases hk : k = k'
  case neg =>
    have HR := Lib.hid (show sameX l k ws l k' us = false from cb_f (fun h => hk h.2.1))
    have hq : (k == k') = false := by simpa using hk
    clear hk
    go_enter Try.func15, Try.ntmps15
    go_wp2
    go_ret
    exact ⟨retb HR.out.symm, HB.out⟩
  subst hk
  have HR := Lib.hid (show sameX l k ws l k us = sameW ws us from by
    unfold sameX sameW
    by_cases h : SameW ws us
    · rw [cb_t h, cb_t (p := SameX l k ws l k us) ⟨rfl, rfl, h⟩]
    · rw [cb_f h, cb_f (p := SameX l k ws l k us) (fun h' => h h'.2.2)])
  generalize sameW ws us = r at *
  go_enter Try.func15, Try.ntmps15
  go_wp2_with fail
  refine HE.out.mono ?_
  rintro e w2 ⟨rfl, hd⟩
  have HB2 := Lib.hid (HB.out.trans (hd.below.mono HB.out.size))
  clear hd HE
  go_wp2
  go_ret
  exact ⟨retb HR.out.symm, HB2.out⟩
set_option maxHeartbeats 2000000 in
theorem specSameFixed_any (l k : Int) (a : Option Addr) (c : Nat) (ws : List Wf) (l' k' : Int) (a2 : Option Addr) (c2 : Nat) (us : List Wf) (w : World) (hn : ws.length ≤ 1048576) (hn2 : us.length ≤ 1048576) (h : Slw w.heap.size w a ws) (h2 : Slw w.heap.size w a2 us) :
    Calls Try.prog 14 #[fixV l k a ws.length c, fixV l' k' a2 us.length c2] w fun e w' => e = .returned (.bool (sameX l k ws l' k' us)) ∧ Below w.heap.size w w' := by
  have F0 := ((FR.start w).box #[.int .i8 l, .int .i8 k, .slice a ws.length c] 30).box #[.int .i8 l', .int .i8 k', .slice a2 us.length c2] 30
  simp only [World.size_alloc] at F0
  have HB := Lib.hid F0.below
  by_cases hl : l = l'
  case neg =>
    have HR := Lib.hid (show sameX l k ws l' k' us = false from cb_f (fun h => hl h.1))
    have hq : (l != l') = true := by simpa using hl
    clear hl h h2 F0
    go_enter Try.func14, Try.ntmps14
    go_wp2
    go_ret
    exact ⟨retb HR.out.symm, HB.out⟩
  subst hl
  by_cases hk : k = k'
  case neg =>
    have HR := Lib.hid (show sameX l k ws l k' us = false from cb_f (fun h => hk h.2.1))
    have hq : (k != k') = true := by simpa using hk
    clear hk h h2 F0
    go_enter Try.func14, Try.ntmps14
    go_wp2
    go_ret
    exact ⟨retb HR.out.symm, HB.out⟩
  subst hk
  by_cases he : ws.length = us.length
  case neg =>
    have HR := Lib.hid (show sameX l k ws l k us = false from cb_f (fun h => he h.2.2.1))
    have hne : ((ws.length : Int) != (us.length : Int)) = true := by simp; omega
    clear he h h2 F0
    go_enter Try.func14, Try.ntmps14
    go_wp2
    go_ret
    exact ⟨retb HR.out.symm, HB.out⟩
  obtain ⟨n, hn1⟩ : ∃ n, ws.length = n := ⟨_, rfl⟩
  have hu1 : us.length = n := by omega
  have HT := Lib.hid (fun (h : SameTo ws us n) => (show sameX l k ws l k us = true from cb_t ⟨rfl, rfl, he, fun j hj => h j (by omega)⟩))
  have HX := Lib.hid (fun (j : Nat) (hj : j < n) (h : ¬ Same4 (wI ws j) (wI us j)) => (show sameX l k ws l k us = false from cb_f (fun h' => h (h'.2.2.2 j (by omega)))))
  rw [hn1] at hn F0 ⊢
  rw [hu1] at F0 ⊢
  have HN1 := Lib.hid hn1
  have HU1 := Lib.hid hu1
  have HF := Lib.hid F0
  clear he hn1 hu1 hn2
  have HS := Lib.hid (show n = 0 ∨ ∃ b off b2 off2, a = some ⟨b, off, none⟩ ∧ a2 = some ⟨b2, off2, none⟩ ∧ (∀ wr, FR w [(w.heap.size + 1, #[.int .i8 l, .int .i8 k, .slice a2 n c2], 30), (w.heap.size, #[.int .i8 l, .int .i8 k, .slice a n c], 30)] wr → WAt wr b off ws ∧ WAt wr b2 off2 us) from by
    rcases h with h | ⟨b, off, rfl, hb, hc⟩
    · subst h; left; simpa using HN1.out.symm
    rcases h2 with h2 | ⟨b2, off2, rfl, hb2, hc2⟩
    · subst h2; left; simpa using HU1.out.symm
    exact .inr ⟨b, off, b2, off2, rfl, rfl, fun wr F => ⟨hc.below F.below hb, hc2.below F.below hb2⟩⟩)
  clear h h2 F0
  go_enter Try.func14, Try.ntmps14
  go_wp2
  go_loopw [5] (fun i wr => ∃ j : Nat, i = .int .i64 j ∧ j ≤ n ∧ SameTo ws us j ∧ FR w [(w.heap.size + 1, #[.int .i8 l, .int .i8 k, .slice a2 n c2], 30), (w.heap.size, #[.int .i8 l, .int .i8 k, .slice a n c], 30)] wr) (fun i _ => n - (intOf i).toNat)
  case atStart => exact ⟨0, rfl, Nat.zero_le _, fun j h => absurd h (by omega), HF.out⟩
  case round =>
    obtain ⟨j, rfl, hj, hs, F1⟩ := hrel
    have HFF := Lib.hid F1
    obtain ⟨e0, e1, e2, -⟩ := (F1.blk _ List.mem_cons_self).three
    obtain ⟨d0, d1, d2, -⟩ := (F1.blk _ (List.mem_cons_of_mem _ List.mem_cons_self)).three
    clear F1
    by_cases hlt : j < n
    case neg =>
      have HR := Lib.hid (HT.out (fun i hi => hs i (by omega)))
      clear hs
      go_wp2
      go_ret
      exact ⟨retb HR.out.symm, HFF.out.below⟩
    have hkl : (j : Int) < (n : Int) := by omega
    have HXj := Lib.hid (HX.out j hlt)
    have HNj := Lib.hid (fun h => hs.succ (k := j) h)
    rcases HS.out with h0 | ⟨b, off, b2, off2, rfl, rfl, hww⟩
    · omega
    obtain ⟨g1, g2⟩ := hww _ HFF.out
    obtain ⟨p0, p1, p2, p3⟩ := g1.four j (by rw [HN1.out]; exact hlt)
    obtain ⟨q0, q1, q2, q3⟩ := g2.four j (by rw [HU1.out]; exact hlt)
    generalize wI ws j = x at *
    generalize wI us j = y at *
    clear hs g1 g2 hww HS
    by_cases hq : Same4 x y
    · have HNN := Lib.hid (HNj.out hq)
      have hqq := fun W => eqWd_t hq W
      clear hq HXj HNj
      go_wp2_with fail
      go_quiet (fail)
      go_wp2
      go_roundw
      case rel => exact ⟨j + 1, by go_num, by omega, HNN.out, HFF.out.drewN _⟩
      case measure => simp [intOf]; omega
    · have HR := Lib.hid (HXj.out hq)
      have hqq := fun W => eqWd_f hq W
      clear hq HXj HNj
      go_wp2_with fail
      go_quiet (fail)
      go_wp2
      go_ret
      exact ⟨retb HR.out.symm, (HFF.out.drewN _).below⟩
end Go.Proofs.Ytlkkjjbihgiiiaa
