/-
  The program's way to make a fixed plan: what begins a group.
-/
import Derived.Test.YtieghjpecoiodaaMK3
import Derived.Test.YtieghjpecoiodaaE4
import Derived.Test.YtieghjpecoiodaaB8
namespace Go.Proofs.Ytieghjpecoiodaa
open Go.RowKit
set_option maxRecDepth 100000
set_option linter.unusedVariables false

theorem soB_f {l : Nat} {x : Nat → Int} (h : ¬ x 0 = -1) : soB l x = false := by unfold soB; simp [h]
theorem soB_t {l : Nat} {x : Nat → Int} (h : x 0 = -1) (b : Bool) (hb : b = true ↔ Same4 x (dgs l 0)) : soB l x = !b := by
  unfold soB
  rw [show decide (x 0 = -1) = true by simp [h], Bool.true_and]
  congr 1
  cases b with
  | true => obtain ⟨h0, h1, h2, h3⟩ := hb.1 rfl; simp [h0, h1, h2, h3]
  | false =>
    have hn : ¬ Same4 x (dgs l 0) := fun e => by have := hb.2 e; cases this
    by_cases h0 : x 0 = dgs l 0 0 <;> by_cases h1 : x 1 = dgs l 0 1 <;> by_cases h2 : x 2 = dgs l 0 2 <;> by_cases h3 : x 3 = dgs l 0 3 <;> simp [h0, h1, h2, h3]
    exact hn ⟨h0, h1, h2, h3⟩
set_option maxHeartbeats 4000000 in
theorem startsOne_any (l : Nat) (x : Nat → Int) (w : World) (hl : 1 ≤ l ∧ l ≤ 4) (hx : S4 x) :
    Calls Try.prog 69 #[wordV x, .int .i64 (l : Int)] w fun e w' => e = .returned (.bool (soB l x)) ∧ Below w.heap.size w w' := by
  have F0 := (FR.start w).box (wordC x) 40
  have HW := Lib.hid (fun W => wordAt_any l 0 W hl (by omega))
  obtain ⟨c0, c1, c2, c3, c4⟩ := (F0.blk _ List.mem_cons_self).four
  dsimp only at c0 c1 c2 c3 c4
  by_cases h : x 0 = -1
  case neg =>
    have HR := Lib.hid (soB_f (l := l) h)
    have hq : (x 0 == -1) = false := by simpa using h
    have HB := Lib.hid F0.below
    clear F0 h
    generalize soB l x = sb at *
    go_enter Try.func69, Try.ntmps69
    go_wp2
    go_quiet (fail)
    go_wp2
    go_ret
    exact ⟨retb HR.out.symm, below_drewN HB.out _⟩
  have hq : (x 0 == -1) = true := by simpa using h
  by_cases hs : Same4 x (dgs l 0)
  · have HR := Lib.hid (soB_t (l := l) h true ⟨fun _ => hs, fun _ => rfl⟩)
    have hE := fun W => eqWd_t (x := x) (y := dgs l 0) hs W
    have hH := Lib.hid h
    have HFF := Lib.hid F0
    clear h hs
    generalize soB l x = sb at *
    generalize dgs l 0 = z at *
    have K0 := F0.drew
    have keepS : ∀ W', FR w [(w.heap.size, wordC x, 40)] W' → (W'.cell? ⟨w.heap.size, 0, none⟩ = some (.int .i8 (x 0)) ∧ W'.cell? ⟨w.heap.size, 1, none⟩ = some (.int .i8 (x 1)) ∧ W'.cell? ⟨w.heap.size, 2, none⟩ = some (.int .i8 (x 2)) ∧ W'.cell? ⟨w.heap.size, 3, none⟩ = some (.int .i8 (x 3))) := fun W' h => (h.blk _ List.mem_cons_self).fourc
    clear F0
    go_enter Try.func69, Try.ntmps69
    go_wp2_with fail
    go_region_held3 (fun W' => W'.cell? ⟨w.heap.size, 0, none⟩ = some (.int .i8 (x 0)) ∧ W'.cell? ⟨w.heap.size, 1, none⟩ = some (.int .i8 (x 1)) ∧ W'.cell? ⟨w.heap.size, 2, none⟩ = some (.int .i8 (x 2)) ∧ W'.cell? ⟨w.heap.size, 3, none⟩ = some (.int .i8 (x 3)))
      (first | with_reducible exact keepS _ K2 | with_reducible exact keepS _ K0)
      (first
        | (go_at_call 59; with_reducible refine (HW.out _).mono ?_; rintro e w2 ⟨rfl, hb⟩; have K2 := K0.next hb))
    all_goals
      have HB := Lib.hid K2.below
      clear keepS
      go_wp2
      go_ret
      exact ⟨retb HR.out.symm, HB.out⟩
  · have HR := Lib.hid (soB_t (l := l) h false ⟨fun e => (by cases e), fun e => absurd e hs⟩)
    have hE := fun W => eqWd_f (x := x) (y := dgs l 0) hs W
    have hH := Lib.hid h
    clear h hs
    generalize soB l x = sb at *
    generalize dgs l 0 = z at *
    have K0 := F0.drew
    have keepS : ∀ W', FR w [(w.heap.size, wordC x, 40)] W' → (W'.cell? ⟨w.heap.size, 0, none⟩ = some (.int .i8 (x 0)) ∧ W'.cell? ⟨w.heap.size, 1, none⟩ = some (.int .i8 (x 1)) ∧ W'.cell? ⟨w.heap.size, 2, none⟩ = some (.int .i8 (x 2)) ∧ W'.cell? ⟨w.heap.size, 3, none⟩ = some (.int .i8 (x 3))) := fun W' h => (h.blk _ List.mem_cons_self).fourc
    clear F0
    go_enter Try.func69, Try.ntmps69
    go_wp2_with fail
    go_region_held3 (fun W' => W'.cell? ⟨w.heap.size, 0, none⟩ = some (.int .i8 (x 0)) ∧ W'.cell? ⟨w.heap.size, 1, none⟩ = some (.int .i8 (x 1)) ∧ W'.cell? ⟨w.heap.size, 2, none⟩ = some (.int .i8 (x 2)) ∧ W'.cell? ⟨w.heap.size, 3, none⟩ = some (.int .i8 (x 3)))
      (first | with_reducible exact keepS _ K2 | with_reducible exact keepS _ K0)
      (first
        | (go_at_call 59; with_reducible refine (HW.out _).mono ?_; rintro e w2 ⟨rfl, hb⟩; have K2 := K0.next hb))
    all_goals
      have HB := Lib.hid K2.below
      clear keepS
      go_wp2
      go_ret
      exact ⟨retb HR.out.symm, HB.out⟩
/-- What startsTurn says behind i letters -1. -/
def stR (l : Nat) (x : Nat → Int) (i : Nat) : Bool := decide (0 < i) && decide (i < l) && decide (x i = 0)
theorem stR_stB {l : Nat} {x : Nat → Int} {i : Nat} (hl : 1 ≤ l ∧ l ≤ 4) (hi : i ≤ l) (h : ∀ j, j < i → x j = -1) (he : i = l ∨ ¬ x i = -1) : stB l x = stR l x i := by
  rcases (show i = 0 ∨ i = 1 ∨ i = 2 ∨ i = 3 ∨ i = 4 by omega) with rfl | rfl | rfl | rfl | rfl
  · have h0 : ¬ x 0 = -1 := he.resolve_left (by omega)
    unfold stB stR; rw [if_pos h0]; rfl
  · have h0 := h 0 (by omega)
    unfold stB stR
    rw [if_neg (fun e => e h0)]
    by_cases e : l < 2
    · rw [if_pos e]; simp; omega
    · have h1 : ¬ x 1 = -1 := he.resolve_left (by omega)
      rw [if_neg e, if_pos h1]; simp; omega
  · have h0 := h 0 (by omega)
    have h1 := h 1 (by omega)
    unfold stB stR
    rw [if_neg (fun e => e h0), if_neg (by omega), if_neg (fun e => e h1)]
    by_cases e : l < 3
    · rw [if_pos e]; simp; omega
    · have h2 : ¬ x 2 = -1 := he.resolve_left (by omega)
      rw [if_neg e, if_pos h2]; simp; omega
  · have h0 := h 0 (by omega)
    have h1 := h 1 (by omega)
    have h2 := h 2 (by omega)
    unfold stB stR
    rw [if_neg (fun e => e h0), if_neg (by omega), if_neg (fun e => e h1), if_neg (by omega), if_neg (fun e => e h2)]
    by_cases e : l < 4
    · rw [if_pos e]; simp; omega
    · have h3 : ¬ x 3 = -1 := he.resolve_left (by omega)
      rw [if_neg e, if_pos h3]; simp; omega
  · have h0 := h 0 (by omega)
    have h1 := h 1 (by omega)
    have h2 := h 2 (by omega)
    have h3 := h 3 (by omega)
    unfold stB stR
    rw [if_neg (fun e => e h0), if_neg (by omega), if_neg (fun e => e h1), if_neg (by omega), if_neg (fun e => e h2), if_neg (by omega), if_neg (fun e => e h3)]
    simp; omega
set_option maxHeartbeats 4000000 in
theorem startsTurn_any (l : Nat) (x : Nat → Int) (w : World) (hl : 1 ≤ l ∧ l ≤ 4) (hx : S4 x) :
    Calls Try.prog 70 #[wordV x, .int .i64 (l : Int)] w fun e w' => e = .returned (.bool (stB l x)) ∧ Below w.heap.size w w' := by
  have F0 := (FR.start w).box (wordC x) 40
  have HK := Lib.hid (F0.blk _ List.mem_cons_self)
  have HB := Lib.hid F0.below
  have lz : (l : Int) ≤ 4 := by omega
  clear F0
  go_enter Try.func70, Try.ntmps70
  go_wp2
  go_loop [5] (fun iv => ∃ i : Nat, iv = .int .i64 (i : Int) ∧ i ≤ l ∧ ∀ j, j < i → x j = -1) (fun iv => 5 - (intOf iv).toNat)
  case atStart => exact ⟨0, rfl, Nat.zero_le _, fun j h => absurd h (by omega)⟩
  case round =>
    obtain ⟨i, rfl, hi, hall⟩ := hrel
    have HA := Lib.hid hall
    clear hall
    by_cases hlt : i < l
    case neg =>
      obtain rfl : i = l := by omega
      have HR := Lib.hid ((stR_stB hl hi HA.out (.inl rfl)).trans (show stR i x i = false by unfold stR; simp))
      have hp : (0 : Int) < (i : Int) := by omega
      go_wp2
      go_ret
      exact ⟨retb HR.out.symm, HB.out⟩
    have hiz : (i : Int) < (l : Int) := by omega
    have hi4 : (i : Int) < 4 := by omega
    have ci := Blk.word (x := x) HK.out i (by omega)
    by_cases he : x i = -1
    · have hq : (x i == -1) = true := by simpa using he
      have HN := Lib.hid (show ∀ j, j < i + 1 → x j = -1 from fun j hj => by
        by_cases e : j = i
        · rw [e]; exact he
        · exact HA.out j (by omega))
      clear he
      go_wp2
      go_round
      case rel => exact ⟨i + 1, by go_num, by omega, HN.out⟩
      case measure => simp [intOf]; omega
    · have hq : (x i == -1) = false := by simpa using he
      have HR := Lib.hid (stR_stB hl hi HA.out (.inr he))
      by_cases h0 : 0 < i
      · have h0z : (0 : Int) < (i : Int) := by omega
        have HR2 := Lib.hid (HR.out.trans (show stR l x i = (x i == 0) by unfold stR; simp [h0, hlt]; rfl))
        clear he
        go_wp2
        go_ret
        exact ⟨retb HR2.out.symm, HB.out⟩
      · obtain rfl : i = 0 := by omega
        have HR2 := Lib.hid (HR.out.trans (show stR l x 0 = false by unfold stR; simp))
        clear he
        go_wp2
        go_ret
        exact ⟨retb HR2.out.symm, HB.out⟩
end Go.Proofs.Ytieghjpecoiodaa
