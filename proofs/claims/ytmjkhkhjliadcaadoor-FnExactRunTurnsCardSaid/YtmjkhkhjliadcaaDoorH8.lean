/-
  Waiting for the next event: the numbers, and the model's way.
-/
import Derived.Test.YtmjkhkhjliadcaaDoorH7
namespace Go.Proofs.YtmjkhkhjliadcaaDoor
open Go.RowKit
set_option maxRecDepth 100000

/-- The least one of the first k tops that are not 0, or 0. -/
def lsTo (x : Nat → Int) : Nat → Int
  | 0 => 0
  | k + 1 => if 0 < x k ∧ (lsTo x k = 0 ∨ x k < lsTo x k) then x k else lsTo x k
/-- Tops, of which the first k ones are later. -/
def wtTo (x : Nat → Int) (m : Int) (k i : Nat) : Int := if i < k ∧ 0 < x i then x i - m else x i
theorem lsTo_spec (x : Nat → Int) (k : Nat) : (lsTo x k = 0 ∧ ∀ j, j < k → x j ≤ 0) ∨ (0 < lsTo x k ∧ (∃ j, j < k ∧ lsTo x k = x j) ∧ ∀ j, j < k → 0 < x j → lsTo x k ≤ x j) := by
  induction k with
  | zero => exact .inl ⟨rfl, fun j hj => absurd hj (by omega)⟩
  | succ k ih =>
    unfold lsTo
    by_cases h : 0 < x k ∧ (lsTo x k = 0 ∨ x k < lsTo x k)
    · rw [if_pos h]
      refine .inr ⟨h.1, ⟨k, by omega, rfl⟩, fun j hj hp => ?_⟩
      by_cases e : j = k
      · subst e; exact Int.le_refl _
      · rcases ih with ⟨_, h2⟩ | ⟨h1, _, h3⟩
        · have := h2 j (by omega); omega
        · have := h3 j (by omega) hp; omega
    · rw [if_neg h]
      rcases ih with ⟨h1, h2⟩ | ⟨h1, ⟨j0, hj0, e0⟩, h3⟩
      · refine .inl ⟨h1, fun j hj => ?_⟩
        by_cases e : j = k
        · subst e; omega
        · exact h2 j (by omega)
      · refine .inr ⟨h1, ⟨j0, by omega, e0⟩, fun j hj hp => ?_⟩
        by_cases e : j = k
        · subst e; omega
        · exact h3 j (by omega) hp
theorem lsTo_bd {x : Nat → Int} (hx : W16 x) (k : Nat) (hk : k ≤ 4) : 0 ≤ lsTo x k ∧ lsTo x k ≤ 32767 := by
  rcases lsTo_spec x k with ⟨h, _⟩ | ⟨h, ⟨j, hj, e⟩, _⟩
  · omega
  · have := hx j (by omega); omega
theorem l07Wait_any (x : Nat → Int) (w : World) (hx : W16 x) :
    Calls Tryd.prog 30 #[watV x] w fun e w' => e = .returned (.tuple #[watV (wtTo x (lsTo x 4) 4), .int .i64 (lsTo x 4)]) ∧ Below w.heap.size w w' := by
  have k1 := (blk_new w #[.int .i16 (x 0), .int .i16 (x 1), .int .i16 (x 2), .int .i16 (x 3)] 27).alloc (.cells #[.int .i16 0, .int .i16 0, .int .i16 0, .int .i16 0] 27)
  have k2 := blk_new (w.alloc (.cells #[.int .i16 (x 0), .int .i16 (x 1), .int .i16 (x 2), .int .i16 (x 3)] 27)) #[.int .i16 0, .int .i16 0, .int .i16 0, .int .i16 0] 27
  have hB := ((Below.refl w.heap.size w).alloc (Nat.le_refl _) (.cells #[.int .i16 (x 0), .int .i16 (x 1), .int .i16 (x 2), .int .i16 (x 3)] 27)).alloc (by simp) (.cells #[.int .i16 0, .int .i16 0, .int .i16 0, .int .i16 0] 27)
  simp only [World.size_alloc] at k2
  have HX := Lib.hid hx
  clear hx
  go_enter Tryd.func30, Tryd.ntmps30
  go_wp2
  generalize hg : (w.alloc (.cells #[.int .i16 (x 0), .int .i16 (x 1), .int .i16 (x 2), .int .i16 (x 3)] 27)).alloc (.cells #[.int .i16 0, .int .i16 0, .int .i16 0, .int .i16 0] 27) = wb at *
  clear hg
  have K1 := Lib.hid k1.rows
  have K2 := Lib.hid k2
  have HB := Lib.hid hB
  clear k1 k2 hB
  go_loop [4, 5] (fun m i => ∃ k : Nat, k ≤ 4 ∧ i = .int .i64 k ∧ m = .int .i16 (lsTo x k)) (fun _ i => 4 - (intOf i).toNat)
  case atStart => exact ⟨0, Nat.zero_le _, rfl, rfl⟩
  case round =>
    obtain ⟨k, hk, rfl, rfl⟩ := hrel
    by_cases hlt : k < 4
    · have hcell := K1.out.cell (i := k) hlt
      have hkl : (k : Int) < 4 := by omega
      have hbk := lsTo_bd HX.out k (by omega)
      by_cases hc : 0 < x k ∧ (lsTo x k = 0 ∨ x k < lsTo x k)
      · have HS := Lib.hid (show lsTo x (k + 1) = x k from if_pos hc)
        obtain ⟨h1, h2⟩ := hc
        have HX2 := Lib.hid (HX.out k hlt)
        generalize lsTo x k = m at *
        generalize x k = y at *
        have d1 : decide (0 < y) = true := by simpa using h1
        by_cases h0 : m = 0
        · subst h0
          clear h2
          go_wp2
          go_round
          case rel => exact ⟨k + 1, by omega, by go_num, by rw [HS.out]⟩
          case measure => simp [intOf]; omega
        · have h3 : y < m := by omega
          have d2 : decide (y < m) = true := by simpa using h3
          have d0 : (m == 0) = false := by simpa using h0
          clear h2
          go_wp2
          go_round
          case rel => exact ⟨k + 1, by omega, by go_num, by rw [HS.out]⟩
          case measure => simp [intOf]; omega
      · have HS := Lib.hid (show lsTo x (k + 1) = lsTo x k from if_neg hc)
        have HX2 := Lib.hid (HX.out k hlt)
        generalize lsTo x k = m at *
        generalize x k = y at *
        by_cases h1 : 0 < y
        · have h0 : ¬ m = 0 := fun h => hc ⟨h1, .inl h⟩
          have h3 : ¬ y < m := fun h => hc ⟨h1, .inr h⟩
          have d1 : decide (0 < y) = true := by simpa using h1
          have d2 : decide (y < m) = false := by simpa using h3
          have d0 : (m == 0) = false := by simpa using h0
          clear hc
          go_wp2
          go_round
          case rel => exact ⟨k + 1, by omega, by go_num, by rw [HS.out]⟩
          case measure => simp [intOf]; omega
        · have d1 : decide (0 < y) = false := by simpa using h1
          clear hc
          go_wp2
          go_round
          case rel => exact ⟨k + 1, by omega, by go_num, by rw [HS.out]⟩
          case measure => simp [intOf]; omega
    · obtain rfl : k = 4 := by omega
      have hm := lsTo_bd HX.out 4 (Nat.le_refl _)
      have HSP := Lib.hid (lsTo_spec x 4)
      generalize hL : lsTo x 4 = m at *
      have HL := Lib.hid hL
      clear hL
      go_wp2
      go_loopw [6] (fun i wr => ∃ k : Nat, k ≤ 4 ∧ i = .int .i64 k ∧ wr.rowIs w.heap.size 27 4 (fun i => .int .i16 (wtTo x m k i)) ∧ Blk wr (w.heap.size + 1) #[.int .i16 0, .int .i16 0, .int .i16 0, .int .i16 0] 27 ∧ Below w.heap.size w wr) (fun i _ => 4 - (intOf i).toNat)
      case atStart => exact ⟨0, Nat.zero_le _, rfl, K1.out.congr (fun i _ => by simp [wtTo]), K2.out, HB.out⟩
      case round =>
        obtain ⟨k, hk, rfl, hr, hz, hB⟩ := hrel
        have HR := Lib.hid hr
        have HZ := Lib.hid hz
        have HB2 := Lib.hid hB
        by_cases hlt : k < 4
        · have hw := hr.cell (i := k) hlt
          have hfr := hr.frozen k
          clear hr hz hB
          have hold : wtTo x m k k = x k := by unfold wtTo; rw [if_neg (by omega)]
          rw [hold] at hw
          have hk4' : (k : Int) < 4 := by omega
          have hxk := HX.out k hlt
          by_cases hp : 0 < x k
          · have HS := Lib.hid ((HR.out.set k (.int .i16 (x k - m))).congr (g := fun i => .int .i16 (wtTo x m (k + 1) i)) (fun i _ => by
              unfold wtTo
              by_cases e : i = k
              · subst e; simp [hp]
              · simp only [e, if_false, show (i < k + 1) = (i < k) by simp; omega]))
            have HZ2 := Lib.hid (HZ.out.setOther (g := w.heap.size) (by omega) k (.int .i16 (x k - m)))
            have HB3 := Lib.hid (HB2.out.setCell (show w.heap.size ≤ (⟨w.heap.size, k, none⟩ : Addr).block from Nat.le_refl _) (.int .i16 (x k - m)))
            generalize x k = y at *
            have d1 : decide (0 < y) = true := by simpa using hp
            go_wp2
            go_roundw
            case rel => exact ⟨k + 1, by omega, by go_num, HS.out, HZ2.out, HB3.out⟩
            case measure => simp [intOf]; omega
          · have HS := Lib.hid (HR.out.congr (g := fun i => .int .i16 (wtTo x m (k + 1) i)) (fun i _ => by
              unfold wtTo
              by_cases e : i = k
              · subst e; simp [hp]
              · simp only [show (i < k + 1) = (i < k) by simp; omega]))
            generalize x k = y at *
            have d1 : decide (0 < y) = false := by simpa using hp
            go_wp2
            go_roundw
            case rel => exact ⟨k + 1, by omega, by go_num, HS.out, HZ.out, HB2.out⟩
            case measure => simp [intOf]; omega
        · obtain rfl : k = 4 := by omega
          obtain ⟨e0, e1, e2, e3⟩ := row_four hr
          obtain ⟨z0, z1, z2, z3, z4⟩ := hz.four
          clear hr hz hB
          generalize hEE : wtTo x m 4 = E at *
          have HEE := Lib.hid hEE
          clear hEE
          go_wp2
          refine bodyPost_ret (v := .tuple #[watV E, .int .i64 m]) (by simp [results, Tryd.results30, go_sem, z0, z1, z2, z3]) rfl ⟨by rw [HL.out, HEE.out], ?_⟩
          have hle : w.heap.size ≤ w.heap.size + 1 := by omega
          exact (((HB2.out.setCell hle _).setCell hle _).setCell hle _).setCell hle _
theorem l07Sets_any (a : Option Addr) (c n : Nat) (w : World) (hn : n ≤ 4) :
    Calls Tryd.prog 29 #[.slice a n c] w fun e w' => e = .returned (.int .i64 (2 ^ n)) ∧ w = w' := by
  have h : n = 0 ∨ n = 1 ∨ n = 2 ∨ n = 3 ∨ n = 4 := by omega
  rcases h with rfl | rfl | rfl | rfl | rfl
  all_goals
    go_enter Tryd.func29, Tryd.ntmps29
    go_wp2
    go_ret
    exact ⟨rfl, rfl⟩
end Go.Proofs.YtmjkhkhjliadcaaDoor
