/-
  Waiting and turning: the program's way, its methods.
-/
import Derived.Test.YtmjkhkhjliadcaaDoorH9
import Derived.Laws.StructEq
import Derived.Laws.Small
import Derived.Laws.Pointers
namespace Go.Proofs.YtmjkhkhjliadcaaDoor
open Go.RowKit
set_option maxRecDepth 100000

theorem eqTop (a b c d a' b' c' d' : Int) (w : World) : (Op.equalIn 10000 27 (.agg #[.int .i16 a, .int .i16 b, .int .i16 c, .int .i16 d]) (.agg #[.int .i16 a', .int .i16 b', .int .i16 c', .int .i16 d'])).run Tryd.prog w = .ok (a == a' && b == b' && c == c' && d == d') w := by
  have u3 := Tryd.underlying23
  have a3 := Tryd.isAgg23
  have z3 := Tryd.sizeOf23
  rw [show (10000 : Nat) = 9999 + 1 from rfl, Op.equalIn]
  simp only [Sem.run_bind, run_underlying Tryd.underlying27, Result.andThen_ok]
  simp only [Std.Legacy.Range.forIn_eq_forIn_range', Std.Legacy.Range.size, Nat.sub_zero, Nat.add_sub_cancel, Nat.div_one, List.range'_succ, List.range'_zero, List.forIn_cons, List.forIn_nil]
  go_simp
  by_cases h1 : a = a' <;> by_cases h2 : b = b' <;> by_cases h3 : c = c' <;> by_cases h4 : d = d' <;> simp [h1, h2, h3, h4]
/-- All tops are 0. -/
def allOut (x : Nat → Int) : Bool := x 0 == 0 && x 1 == 0 && x 2 == 0 && x 3 == 0
theorem haveRunOut_any (x : Nat → Int) (w : World) :
    Calls Tryd.prog 43 #[watV x] w fun e w' => e = .returned (.bool (allOut x)) ∧ Below w.heap.size w w' := by
  have hq := fun W => eqTop (x 0) (x 1) (x 2) (x 3) 0 0 0 0 W
  go_enter Tryd.func43, Tryd.ntmps43
  go_wp2
  go_ret
  exact ⟨rfl, (Below.refl _ _).alloc (Nat.le_refl _) _⟩
theorem allOut_ls {x : Nat → Int} (h : ∀ i, i < 4 → 0 ≤ x i) : allOut x = decide (lsTo x 4 = 0) := by
  have h0 := h 0 (by omega)
  have h1 := h 1 (by omega)
  have h2 := h 2 (by omega)
  have h3 := h 3 (by omega)
  unfold allOut
  rcases lsTo_spec x 4 with ⟨e, ha⟩ | ⟨e, ⟨j, hj, e2⟩, _⟩
  · have a0 := ha 0 (by omega)
    have a1 := ha 1 (by omega)
    have a2 := ha 2 (by omega)
    have a3 := ha 3 (by omega)
    rw [show x 0 = 0 by omega, show x 1 = 0 by omega, show x 2 = 0 by omega, show x 3 = 0 by omega, e]; rfl
  · have hp : 0 < x j := by omega
    rw [show decide (lsTo x 4 = 0) = false by simp; omega]
    have : j = 0 ∨ j = 1 ∨ j = 2 ∨ j = 3 := by omega
    rcases this with rfl | rfl | rfl | rfl
    · simp; intro h; omega
    · simp; intro _ h; omega
    · simp; intro _ _ h; omega
    · simp; intro _ _ _ h; omega
theorem index_top0 (x : Nat → Int) (w : World) : (Instr.index 27 (watV x) (.int .i64 0)).run Tryd.prog w = .ok (.int .i16 (x 0)) w := by kernel_rfl
theorem index_top1 (x : Nat → Int) (w : World) : (Instr.index 27 (watV x) (.int .i64 1)).run Tryd.prog w = .ok (.int .i16 (x 1)) w := by kernel_rfl
theorem index_top2 (x : Nat → Int) (w : World) : (Instr.index 27 (watV x) (.int .i64 2)).run Tryd.prog w = .ok (.int .i16 (x 2)) w := by kernel_rfl
theorem index_top3 (x : Nat → Int) (w : World) : (Instr.index 27 (watV x) (.int .i64 3)).run Tryd.prog w = .ok (.int .i16 (x 3)) w := by kernel_rfl
theorem index_top (x : Nat → Int) {k : Nat} (hk : k < 4) (w : World) : (Instr.index 27 (watV x) (.int .i64 k)).run Tryd.prog w = .ok (.int .i16 (x k)) w := by
  have : k = 0 ∨ k = 1 ∨ k = 2 ∨ k = 3 := by omega
  rcases this with rfl | rfl | rfl | rfl
  · exact index_top0 x w
  · exact index_top1 x w
  · exact index_top2 x w
  · exact index_top3 x w
/-- The program's way to the least one: from the greatest one down. -/
def neTo (x : Nat → Int) : Nat → Int
  | 0 => mxTo (topL x) 3
  | k + 1 => if 0 < x k ∧ x k < neTo x k then x k else neTo x k
theorem neTo_ge (x : Nat → Int) (k : Nat) : (neTo x k = mxTo (topL x) 3 ∨ ∃ j, j < k ∧ 0 < x j ∧ neTo x k = x j) ∧ ∀ j, j < k → 0 < x j → neTo x k ≤ x j := by
  induction k with
  | zero => exact ⟨.inl rfl, fun j hj => absurd hj (by omega)⟩
  | succ k ih =>
    obtain ⟨h1, h2⟩ := ih
    unfold neTo
    by_cases h : 0 < x k ∧ x k < neTo x k
    · rw [if_pos h]
      refine ⟨.inr ⟨k, by omega, h.1, rfl⟩, fun j hj hp => ?_⟩
      by_cases e : j = k
      · subst e; exact Int.le_refl _
      · have := h2 j (by omega) hp; omega
    · rw [if_neg h]
      refine ⟨?_, fun j hj hp => ?_⟩
      · rcases h1 with e | ⟨j, hj, hp, e⟩
        · exact .inl e
        · exact .inr ⟨j, by omega, hp, e⟩
      · by_cases e : j = k
        · subst e; omega
        · exact h2 j (by omega) hp
theorem ne_ls {x : Nat → Int} (h : ∀ i, i < 4 → 0 ≤ x i) : neTo x 4 = lsTo x 4 := by
  obtain ⟨h1, h2⟩ := neTo_ge x 4
  obtain ⟨jm, hjm, em⟩ := mxTo_mem (topL x) 3
  rw [topL_get x (by omega)] at em
  have hm : ∀ j, j < 4 → x j ≤ mxTo (topL x) 3 := fun j hj => by have := mxTo_ge (topL x) 3 j (by omega); rwa [topL_get x hj] at this
  rcases lsTo_spec x 4 with ⟨e, ha⟩ | ⟨e, ⟨j, hj, e2⟩, h3⟩
  · rcases h1 with q | ⟨j, hj, hp, q⟩
    · have := ha jm (by omega); have := h jm (by omega); omega
    · have := ha j hj; omega
  · have a1 := h2 j hj (by omega)
    rcases h1 with q | ⟨j2, hj2, hp, q⟩
    · have b1 := hm j hj
      have b2 := h3 jm (by omega) (by omega)
      omega
    · have b2 := h3 j2 hj2 hp
      omega
theorem neTo_bd {x : Nat → Int} (hx : W16 x) (k : Nat) (hk : k ≤ 4) : -32768 ≤ neTo x k ∧ neTo x k ≤ 32767 := by
  rcases (neTo_ge x k).1 with e | ⟨j, hj, _, e⟩
  · rw [e]; exact mxTo_bd (topL_i16 hx) 3
  · rw [e]; exact hx j (by omega)
theorem nextEvent_any (x : Nat → Int) (w : World) (hx : W16 x) :
    Calls Tryd.prog 44 #[watV x] w fun e w' => e = .returned (.int .i16 (neTo x 4)) ∧ Below w.heap.size w w' := by
  have k1 := blk_new w #[.int .i16 (x 0), .int .i16 (x 1), .int .i16 (x 2), .int .i16 (x 3)] 27
  have HB := Lib.hid ((Below.refl w.heap.size w).alloc (Nat.le_refl _) (.cells #[.int .i16 (x 0), .int .i16 (x 1), .int .i16 (x 2), .int .i16 (x 3)] 27))
  have HG := Lib.hid (fun W => greatest_any x W hx)
  have HX := Lib.hid hx
  have HK := Lib.hid k1
  obtain ⟨c0, c1, c2, c3, -⟩ := k1.four
  clear hx k1
  have H0 := Lib.hid (show neTo x 0 = mxTo (topL x) 3 from rfl)
  generalize mxTo (topL x) 3 = m0 at *
  go_enter Tryd.func44, Tryd.ntmps44
  go_wp2_with fail
  refine (HG.out _).mono ?_
  rintro e w2 ⟨rfl, hb2⟩
  have HB2 := Lib.hid (HB.out.trans (hb2.mono HB.out.size))
  have HK2 := Lib.hid (HK.out.below hb2 HK.out.lt)
  clear hb2 c0 c1 c2 c3
  obtain ⟨c0, c1, c2, c3, -⟩ := HK2.out.four
  go_wp2
  clear c0 c1 c2 c3
  go_loop [3, 5, 9] (fun m _ i => ∃ k : Nat, k ≤ 4 ∧ i = .int .i64 k ∧ m = .int .i16 (neTo x k)) (fun _ _ i => 4 - (intOf i).toNat)
  case atStart => exact ⟨0, Nat.zero_le _, rfl, by rw [H0.out]⟩
  case round =>
    obtain ⟨k, hk, rfl, rfl⟩ := hrel
    by_cases hlt : k < 4
    · have hkl : (k : Int) < 4 := by omega
      have hix := fun W => index_top x hlt W
      have hbk := neTo_bd HX.out k (by omega)
      have hxk := HX.out k hlt
      by_cases hc : 0 < x k ∧ x k < neTo x k
      · have HS := Lib.hid (show neTo x (k + 1) = x k from if_pos hc)
        obtain ⟨h1, h2⟩ := hc
        generalize neTo x k = m at *
        generalize hy : x k = y at *
        have HY := Lib.hid hy
        clear hy
        have d1 : decide (0 < y) = true := by simpa using h1
        go_wp2
        go_round
        case rel => exact ⟨k + 1, by omega, by go_num, by rw [HS.out]⟩
        case measure => simp [intOf]; omega
      · have HS := Lib.hid (show neTo x (k + 1) = neTo x k from if_neg hc)
        generalize neTo x k = m at *
        generalize hy : x k = y at *
        have HY := Lib.hid hy
        clear hy
        by_cases h1 : 0 < y
        · have h3 : ¬ y < m := fun h => hc ⟨h1, h⟩
          have h4 : m ≤ y := by omega
          have d1 : decide (0 < y) = true := by simpa using h1
          clear hc h3
          go_wp2
          go_round
          case rel => exact ⟨k + 1, by omega, by go_num, by rw [HS.out]⟩
          case measure => simp [intOf]; omega
        · have d1 : decide (0 < y) = false := by simpa using h1
          clear hc
          go_wp2
          go_round
          case rel => exact ⟨k + 1, by omega, by go_num, by rw [HS.out]⟩
          case measure => simp [intOf]; omega
    · obtain rfl : k = 4 := by omega
      go_wp2
      go_ret
      exact ⟨rfl, HB2.out⟩
end Go.Proofs.YtmjkhkhjliadcaaDoor
