/-
  The helpers of the law FnLeast that compare lists.
-/
import Derived.Test.YthbanajodohbbaaLeastMath
namespace Go.Proofs.Ythbanajodohbbaa
open Go.RowKit

theorem a2SameW_same (b off c b' off' c' : Nat) (xs : List Int) (w : World) (hn : xs.length ≤ 1048576) (hc : At .i16 w b off xs) (hc' : At .i16 w b' off' xs) :
    Calls Try.prog 11 #[.slice (some ⟨b, off, none⟩) xs.length c, .slice (some ⟨b', off', none⟩) xs.length c'] w fun e w' => e = .returned (.bool true) ∧ Dr w w' := by
  go_enter Try.func11, Try.ntmps11
  go_wp2
  go_loopw [5] (fun i wr => ∃ k : Nat, k ≤ xs.length ∧ i = .int .i64 k ∧ ∃ q, wr = w.drewN q) (fun i _ => xs.length - (intOf i).toNat)
  case atStart => exact ⟨0, Nat.zero_le _, rfl, 0, rfl⟩
  case round =>
    obtain ⟨k, hk, rfl, q, rfl⟩ := hrel
    by_cases hlt : k < xs.length
    · have h1 := hc k hlt
      have h2 := hc' k hlt
      obtain ⟨x, hx⟩ : ∃ x, x = xs.getD k 0 := ⟨_, rfl⟩
      rw [← hx] at h1 h2
      clear hx
      go_wp2
      go_quiet (fail)
      go_wp2
      go_roundw
      case rel => exact ⟨k + 1, by omega, by go_num, _, rfl⟩
      case measure => simp [intOf]; omega
    · go_wp2
      go_ret
      exact ⟨rfl, Dr.of _ _⟩
theorem a2Placed_same (b off c b' off' c' : Nat) (xs : List Int) (w : World) (hn : xs.length ≤ 1048576) (hc : At .i8 w b off xs) (hc' : At .i8 w b' off' xs) :
    Calls Try.prog 15 #[.slice (some ⟨b, off, none⟩) xs.length c, .slice (some ⟨b', off', none⟩) xs.length c'] w fun e w' => e = .returned (.bool true) ∧ Dr w w' := by
  go_enter Try.func15, Try.ntmps15
  go_wp2
  go_loopw [5] (fun i wr => ∃ k : Nat, k ≤ xs.length ∧ i = .int .i64 k ∧ ∃ q, wr = w.drewN q) (fun i _ => xs.length - (intOf i).toNat)
  case atStart => exact ⟨0, Nat.zero_le _, rfl, 0, rfl⟩
  case round =>
    obtain ⟨k, hk, rfl, q, rfl⟩ := hrel
    by_cases hlt : k < xs.length
    · have h1 := hc k hlt
      have h2 := hc' k hlt
      obtain ⟨x, hx⟩ : ∃ x, x = xs.getD k 0 := ⟨_, rfl⟩
      rw [← hx] at h1 h2
      clear hx
      go_wp2
      go_quiet (fail)
      go_wp2
      go_roundw
      case rel => exact ⟨k + 1, by omega, by go_num, _, rfl⟩
      case measure => simp [intOf]; omega
    · go_wp2
      go_ret
      exact ⟨rfl, Dr.of _ _⟩
theorem OwnV.parts8 {B : Nat} {w : World} {v : Value} {xs : List Int} (h : OwnV .i8 B w v xs) (hx : 0 < xs.length) : ∃ g c, v = .slice (some ⟨g, 0, none⟩) xs.length c ∧ g < w.heap.size ∧ At .i8 w g 0 xs := by
  rcases h with ⟨rfl, _⟩ | ⟨g, c, rfl, _, hg, hA, _⟩
  · exact absurd hx (by simp)
  · exact ⟨g, c, rfl, hg, hA⟩
theorem pow7_3 : ∀ j : Nat, j < 8 → 1 ≤ (3 : Int) ^ j ∧ (3 : Int) ^ j ≤ 2187 := by decide
theorem pow7_2 : ∀ j : Nat, j < 8 → 1 ≤ (2 : Int) ^ j ∧ (2 : Int) ^ j ≤ 2187 := by decide
theorem due_pow3 {most : Int} {ws : List Int} {k : Nat} (h : DueOk most true ws k) : ∃ q : Int, (3 : Int) ^ ws.length = 3 * q ∧ q ≤ 2 * most ∧ 2 * most < 3 * q ∧ 1 ≤ q := by
  have h1 := h.hi
  have h2 := h.lo
  have h3 := (pow7_3 k (by have := h.k6; omega)).1
  simp only [bOf, bdOf, if_true] at h1 h2
  refine ⟨3 ^ k, by rw [h.len, Int.pow_succ, Int.mul_comm], h2, ?_, h3⟩
  rw [Int.pow_succ] at h1
  omega
theorem due_pow2 {most : Int} {ws : List Int} {k : Nat} (h : DueOk most false ws k) : ∃ q : Int, (2 : Int) ^ ws.length = 2 * q ∧ q ≤ most ∧ most < 2 * q ∧ 1 ≤ q := by
  have h1 := h.hi
  have h2 := h.lo
  have h3 := (pow7_2 k (by have := h.k6; omega)).1
  simp only [bOf, bdOf, Bool.false_eq_true, if_false] at h1 h2
  refine ⟨2 ^ k, by rw [h.len, Int.pow_succ, Int.mul_comm], h2, ?_, h3⟩
  rw [Int.pow_succ] at h1
  omega
theorem Dr.bel {w w' : World} (h : Dr w w') : Below w.heap.size w w' := by obtain ⟨q, rfl⟩ := h; exact ⟨rfl, rfl, rfl, Nat.le_refl _, fun _ _ => rfl⟩
theorem take_neg (l : List Int) (j : Nat) (hj : j < l.length) : (((l.take (j + 1)).map (- ·)).map (Value.int .i8)) = (((l.take j).map (- ·)).map (Value.int .i8)) ++ [Value.int .i8 (-(l.getD j 0))] := by
  have e : l.take (j + 1) = l.take j ++ [l.getD j 0] := by
    rw [List.take_add_one]
    simp [List.getD_eq_getElem?_getD, List.getElem?_eq_getElem hj]
  rw [e, List.map_append, List.map_append]
  rfl
end Go.Proofs.Ythbanajodohbbaa
