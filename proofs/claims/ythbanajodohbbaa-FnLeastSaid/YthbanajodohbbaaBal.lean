/-
  The walks of BalancedDigits, in the program and in its model.
-/
import Derived.Test.YthbanajodohbbaaSlaw
import Derived.RangeFuncNested
import Derived.RangeFuncBound
import Derived.RangeFuncCalls
import Derived.RangeFuncLeaves
import Derived.RangeFuncBox
import Derived.Shelf.Abstract
import Derived.WalkKit
import Derived.OwnWalkIn
import Derived.TacticsInMore
import Derived.LoopNIn
import Derived.LoopIn
import Derived.Maps.AppendAt
namespace Go.Proofs.Ythbanajodohbbaa
open Go.RowKit Go.Shelf

attribute [local go_sem] Oper.semAt_some

/-- The last balanced digit of a number, and the number without it. -/
def dg (n : Int) : Int := (n + 1) % 3 - 1
def nx (n : Int) : Int := (n - dg n) / 3
theorem dg_bd (n : Int) : -1 ≤ dg n ∧ dg n ≤ 1 := by unfold dg; omega
theorem nx_eq (n : Int) : n = 3 * nx n + dg n := by unfold nx dg; omega
theorem nx_less (n : Int) (h : n ≠ 0) : (nx n).natAbs < n.natAbs := by have := nx_eq n; have := dg_bd n; omega
theorem tmod3 (n : Int) : ∃ q, n = 3 * q + n.tmod 3 ∧ -2 ≤ n.tmod 3 ∧ n.tmod 3 ≤ 2 := by
  have h1 := Int.tmod_add_mul_tdiv n 3
  have h2 := Int.tmod_lt_of_pos n (show (0 : Int) < 3 by omega)
  have h3 := Int.lt_tmod_of_pos n (show (0 : Int) < 3 by omega)
  exact ⟨n.tdiv 3, by omega, by omega, by omega⟩
theorem dg_impl (n : Int) : (n.tmod 3 + 4).tmod 3 - 1 = dg n := by
  obtain ⟨q, h1, h2, h3⟩ := tmod3 n
  rw [Int.tmod_eq_emod_of_nonneg (show 0 ≤ n.tmod 3 + 4 by omega)]
  unfold dg
  omega
theorem dg_spec (n : Int) : ((n + 1).tmod 3 + 3).tmod 3 - 1 = dg n := by
  obtain ⟨q, h1, h2, h3⟩ := tmod3 (n + 1)
  rw [Int.tmod_eq_emod_of_nonneg (show 0 ≤ (n + 1).tmod 3 + 3 by omega)]
  unfold dg
  omega
theorem nx_go (n : Int) : (n - dg n).tdiv 3 = nx n := by
  have h : n - dg n = 3 * nx n := by have := nx_eq n; omega
  rw [h]
  exact Int.mul_tdiv_cancel_left _ (by omega)
def digs (n : Int) : List Int := if _h : n = 0 then [] else dg n :: digs (nx n)
termination_by n.natAbs
decreasing_by exact nx_less n _h
theorem digs_zero : digs 0 = [] := by unfold digs; simp
theorem digs_step {n : Int} (h : n ≠ 0) : digs n = dg n :: digs (nx n) := by rw [digs]; simp [h]
theorem digs_length (k : Nat) : ∀ n : Int, n.natAbs ≤ k → (digs n).length ≤ n.natAbs := by
  induction k with
  | zero => intro n h; have : n = 0 := by omega
            subst this; rw [digs_zero]; simp
  | succ k ih =>
    intro n h
    by_cases e : n = 0
    · subst e; rw [digs_zero]; simp
    · have h1 := nx_less n e
      have h2 := ih (nx n) (by omega)
      rw [digs_step e, List.length_cons]
      omega
set_option maxRecDepth 100000 in
set_option maxHeartbeats 1000000 in
theorem bal1_in (F : Fence) (n : Nat) (h6 : F.fn 29) (hro : F.round = none) (hn : 1 ≤ n) (l Bn n₀ : Nat) (x0 : Int) (hx0 : -1000000000 ≤ x0 ∧ x0 ≤ 1000000000) (J Jx : List Int → World → Prop)
    (hY : ∀ pre x W, J pre W → pre.length < (digs x0).length → YieldAt F (n - 1) Try.prog l #[.int .i8 x] W fun e W' =>
      (e = .returned (.bool true) ∧ J (pre ++ [x]) W' ∧ Below n₀ W W') ∨ (e = .returned (.bool false) ∧ Jx (pre ++ [x]) W'))
    (W : World) (hBn : W.cell? ⟨Bn, 0, none⟩ = some (.int .i64 x0)) (h0 : J [] W) :
    CallsIn F n Try.prog 29 #[.func (.yield l) #[] #[], .pointer (some ⟨Bn, 0, none⟩)] W fun e W' => (∃ v, e = .returned v) ∧
      ((∃ ys, ys = digs x0 ∧ J ys W') ∨ (∃ pre, pre <+: digs x0 ∧ Jx pre W')) := by
  refine callsIn_of_wp Try.func29 rfl h6 ?_ hro
  simp only [Try.ntmps29, List.size_toArray, List.length_cons, List.length_nil, Nat.reduceAdd, Nat.reduceSub, Array.replicate_succ, Array.replicate_zero, List.push_toArray, List.append_toArray, List.nil_append, List.cons_append]
  gi_wp2
  gi_loopw [3] (fun p wr => ∃ (pre : List Int) (m : Int), p = .int .i64 m ∧ (-1000000000 ≤ m ∧ m ≤ 1000000000) ∧ digs x0 = pre ++ digs m ∧ J pre wr)
    (fun p _ => (intOf p).natAbs)
  case atStart =>
    exact ⟨[], x0, rfl, hx0, rfl, h0⟩
  case round =>
    obtain ⟨pre, m, rfl, hm, hx, hJs⟩ := hrel
    by_cases hz : m = 0
    · subst hz
      gi_wp2
      go_end0
      exact ⟨⟨_, rfl⟩, .inl ⟨pre, by rw [hx, digs_zero, List.append_nil], hJs⟩⟩
    · have hb : (m != 0) = true := by simpa using hz
      obtain ⟨_, -, ht1, ht2⟩ := tmod3 m
      have hd := dg_impl m
      have hg := dg_bd m
      have ht3 : (m.tmod 3 + 4).tmod 3 = dg m + 1 := by omega
      have hw : wrap64 (m.tmod 3 + 4) = m.tmod 3 + 4 := IntWalk.wrap64_in _ (by omega)
      have hnl := nx_less m hz
      have hnb : -1000000000 ≤ nx m ∧ nx m ≤ 1000000000 := by omega
      have hN := nx_go m
      have Hx := Lib.hid (show digs x0 = (pre ++ [dg m]) ++ digs (nx m) by rw [hx, digs_step hz]; simp)
      have HL := Lib.hid hnl
      obtain ⟨fn, tmps, assign, body, hy, hR⟩ := hY pre (dg m) wr hJs (by rw [hx, digs_step hz]; simp)
      clear hx hd hnl
      generalize dg m = d at *
      generalize nx m = m' at *
      gi_wp2
      refine hR.mono ?_
      rintro e W3 (⟨rfl, hJ3, hk3⟩ | ⟨rfl, hJx3⟩)
      · gi_wp2
        go_roundw
        case rel => exact ⟨pre ++ [d], m', rfl, hnb, Hx.out, hJ3⟩
        case measure => have := HL.out; simp [intOf]; exact this
      · gi_wp2
        refine bodyPost_ret (results_none rfl _ _ _) rfl ?_
        exact ⟨⟨_, rfl⟩, .inr ⟨pre ++ [d], ⟨digs m', Hx.out.symm⟩, hJx3⟩⟩

set_option maxHeartbeats 1000000 in
theorem bal_in (F : Fence) (n : Nat) (h5 : F.fn 23) (hro : F.round = none) (x0 : Int) (w : World) :
    CallsIn F n Try.prog 23 #[.int .i64 x0] w fun e w' => e = .returned (.func (.func 29) #[] #[.pointer (some ⟨w.heap.size, 0, none⟩)]) ∧ w' = w.alloc (.cells #[.int .i64 x0] 2) := by
  refine callsIn_of_wp Try.func23 rfl h5 ?_ hro
  simp only [Try.ntmps23, List.size_toArray, List.length_cons, List.length_nil, Nat.reduceAdd, Nat.reduceSub, Array.replicate_succ, Array.replicate_zero, List.push_toArray, List.append_toArray, List.nil_append, List.cons_append]
  gi_wp2
  go_ret
  exact ⟨rfl, rfl⟩
theorem bal_stops (F : Fence) (n : Nat) (h6 : F.fn 29) (hro : F.round = none) (hn : 1 ≤ n) (Bn n₀ : Nat) (x0 : Int) (hx0 : -1000000000 ≤ x0 ∧ x0 ≤ 1000000000) (w : World) (hBn : Bn < w.heap.size)
    (hc : w.cell? ⟨Bn, 0, none⟩ = some (.int .i64 x0)) :
    SeqStopsK F n Try.prog 29 #[.pointer (some ⟨Bn, 0, none⟩)] (fun x : Int => #[Value.int .i8 x]) (Below n₀) (fun ys => ys = digs x0) (fun pre => pre <+: digs x0) (digs x0).length w := fun l J Jx W hW _ _ hY h0 =>
  bal1_in F n h6 hro hn l Bn n₀ x0 hx0 J Jx hY W ((hW.cell (p := ⟨Bn, 0, none⟩) hBn).trans hc) h0

theorem Try.info_b8 : (Try.prog.info? 39).map (fun i => (i.zero, i.size, i.bytes)) = some (some (.int .i8 0), 1, 1) := by kernel_rfl

set_option maxRecDepth 100000 in
set_option maxHeartbeats 2000000 in
theorem balancedDigits_in (x0 : Int) (w : World) (hx0 : -1000000000 ≤ x0 ∧ x0 ≤ 1000000000) :
    CallsIn Fence.wide 6 Try.prog 12 #[.int .i64 x0] w fun e W' => ∃ v, e = .returned (.tuple #[v, .int .i64 0]) ∧ W'.ownsRow w.heap.size 39 1 v (digs x0).length ((digs x0).map (Value.int .i8)) ∧ Below w.heap.size w W' := by
  obtain ⟨i0, hi, hz0, hz1, hz2⟩ := info_parts Try.info_b8
  have hL : (digs x0).length ≤ 1000000000 := by have := digs_length _ x0 (Nat.le_refl _); omega
  refine callsIn_of_wp_marks Try.func12 rfl trivial ?_ rfl
  simp only [Try.ntmps12, List.size_toArray, List.length_cons, List.length_nil, Nat.reduceAdd, Nat.reduceSub, Array.replicate_succ, Array.replicate_zero, List.push_toArray, List.append_toArray, List.nil_append, List.cons_append]
  gi_wp2_with (first
    | (refine ⟨trivial, ?_⟩; gi_at_call 16; refine (callsIn_wide.2 (within_t _ _ _ _ hx0)).mono ?_; rintro e w' ⟨rfl, rfl⟩)
    | (refine ⟨trivial, ?_⟩; gi_at_call 23; refine (bal_in Fence.wide 5 trivial rfl _ _).mono ?_; rintro e w' ⟨rfl, rfl⟩))
  have bO := Boxed.new w 34 (.slice none 0 0)
  have bN := Boxed.new (w.alloc (.cells #[.slice none 0 0] 34)) 2 (.int .i64 x0)
  rw [World.size_alloc] at bN
  have hB0 : Below w.heap.size w ((w.alloc (.cells #[.slice none 0 0] 34)).alloc (.cells #[.int .i64 x0] 2)) := ((Below.refl _ w).alloc (Nat.le_refl _) _).alloc (by simp) _
  refine wpIn_rangeFunc_ownG rfl (by decide) (gf := 29) (lb := #[.pointer (some ⟨w.heap.size + 1, 0, none⟩)]) rfl trivial (enters_of Try.func29 (by kernel_rfl) rfl)
    (bal_stops Fence.wide 5 trivial rfl (by decide) (w.heap.size + 1) w.heap.size x0 hx0 _ (by simp) bN.cell) belowK_t (belowK_b (by simp; omega)) (Below.refl _ _) (fun _ => rfl)
    (fun pre W => (∃ v, Boxed W w.heap.size 34 v ∧ W.ownsRow w.heap.size 39 1 v pre.length (pre.map (Value.int .i8)) ∧ (v = .slice none 0 0 ↔ pre = [])) ∧ Below w.heap.size w W)
    (fun _ _ _ => False)
    (OwnFrom.and (Own.from (holdsRow_own w.heap.size w.heap.size 34 39 1 (fun pre => pre.length) (fun pre => pre.map (Value.int .i8)) (fun pre v => v = .slice none 0 0 ↔ pre = [])) _) (ownFrom_below (Nat.le_refl _) (by simp; omega)))
    (fun _ _ _ _ _ hs _ _ => hs)
    ⟨⟨_, bO.alloc _, World.ownsRow_nil _ _ _ _, by simp⟩, hB0⟩
    (fun x => { tmps := #[.int .i64 x0, undef, .slice none 0 0, .int .i64 0, .pointer (some ⟨w.heap.size, 0, none⟩), .int .i8 x, .int .i64 x0, .bool true, .bool false, .int .i64 x0, .func (.func 29) #[] #[.pointer (some ⟨w.heap.size + 1, 0, none⟩)], .int .i8 x, undef, undef, undef, undef, undef], defers := [] }) ?assign ?body ?done ?stop
  case assign =>
    intro l x W K hK
    gi_wp2
    exact hK
  case body =>
    rintro l pre x W ⟨⟨v, hv, hrow, hnil⟩, hB⟩ hlt
    have hc := hv.cell
    gi_wp2_with (gi_at_builtin; refine wpListIn_append_own _ rfl _ _ 34 rfl w.heap.size 39 i0 (.int .i8 0) 1 1 Try.underlying34 hi hz0 hz1 hz2 rfl (by decide) _ _ _ rfl (hrow.alloc _) ⟨W.heap.size, 0, none⟩ 1 1 [.int .i8 x] rfl rfl (cell_one_new _ _ _) (by simp [Value.oneCell']) (by unfold maxLen; omega) (by omega) (by have := hB.size; simp; omega) ?_; intro v' w1 hown' hgrow _; obtain ⟨g', cap', rfl⟩ := ownsRow_succ hown'; obtain ⟨hv1, hv2, hr2, hk2, hb2⟩ := hv.appended (by decide) hrow hB.size (Nat.le_refl _) hown' hgrow; have hc1 := hv1.cell; have hf1 := hv1.frozen)
    exact ⟨hk2.from _, hb2, ⟨_, hv2, by simpa using hr2, by simp⟩, hB.trans hb2⟩
  case done =>
    rintro D ys W hD rfl ⟨⟨v, hv, hrow, hnil⟩, hB⟩ hK
    have hc := hv.cell
    gi_wp2
    refine ⟨by simp, .inl ⟨_, _, rfl, run_takeDeferred hK, ?_⟩⟩
    exact ⟨_, results_tmp2 rfl _ _ _, v, rfl, ownsRow_putObj hrow _ hK rfl, hB.trans (belowK_b (w := w) (Nat.le_refl _) W D _ _ (by simp at hD; omega) hK rfl rfl)⟩
  case stop =>
    rintro D c pre W _ _ h _
    exact h.elim

noncomputable def bdV (n : Int) : List Int := if cb (-1000000000 ≤ n ∧ n ≤ 1000000000) = true then digs n else []
noncomputable def bdC (n : Int) : Int := if cb (-1000000000 ≤ n ∧ n ≤ 1000000000) = true then 0 else 2
theorem bd_t {n : Int} (h : -1000000000 ≤ n ∧ n ≤ 1000000000) : bdV n = digs n ∧ bdC n = 0 := by unfold bdV bdC; rw [cb_t h]; exact ⟨rfl, rfl⟩
theorem bd_f {n : Int} (h : ¬ (-1000000000 ≤ n ∧ n ≤ 1000000000)) : bdV n = [] ∧ bdC n = 2 := by unfold bdV bdC; rw [cb_f h]; exact ⟨rfl, rfl⟩
theorem balancedDigits_any (n : Int) (w : World) :
    Calls Try.prog 12 #[.int .i64 n] w fun e w' => ∃ v, e = .returned (.tuple #[v, .int .i64 (bdC n)]) ∧ OwnV .i8 w.heap.size w' v (bdV n) ∧ Below w.heap.size w w' := by
  by_cases h : -1000000000 ≤ n ∧ n ≤ 1000000000
  · rw [(bd_t h).1, (bd_t h).2]
    refine (callsIn_wide.1 (balancedDigits_in n w h)).mono ?_
    rintro e w' ⟨v, he, ho, hb⟩
    exact ⟨v, he, OwnV.ofOwns rfl ho, hb⟩
  · rw [(bd_f h).1, (bd_f h).2]
    have H := Lib.hid h
    clear h
    go_enter Try.func12, Try.ntmps12
    go_wp2_with fail
    refine (within_f _ _ _ _ H.out).mono ?_
    rintro e w' ⟨rfl, rfl⟩
    go_wp2
    go_ret2
    exact ⟨_, rfl, OwnV.nil _ _ _ _ _, Below.refl _ _⟩
end Go.Proofs.Ythbanajodohbbaa
