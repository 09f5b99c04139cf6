/-
  The numbers of waters.
-/
import Derived.Test.YtjmgalmndpjcoaaJugs4
namespace Go.Proofs.Ytjmgalmndpjcoaa
open Go.RowKit

/-- The number of a water, by its first k jugs. -/
def ixTo (J : List Int) (y : Nat → Int) : Nat → Int
  | 0 => 0
  | k + 1 => ixTo J y k + stTo J k * y k
/-- What Horner's way has behind the last d jugs. -/
def horD (J : List Int) (y : Nat → Int) : Nat → Int
  | 0 => 0
  | d + 1 => horD J y d * (J.getD (J.length - 1 - d) 0 + 1) + y (J.length - 1 - d)
theorem ixTo_step (J : List Int) (y : Nat → Int) (k : Nat) : ixTo J y (k + 1) = ixTo J y k + stTo J k * y k := rfl
theorem horD_step (J : List Int) (y : Nat → Int) (d : Nat) : horD J y (d + 1) = horD J y d * (J.getD (J.length - 1 - d) 0 + 1) + y (J.length - 1 - d) := rfl
theorem ix_hor (J : List Int) (y : Nat → Int) (d : Nat) (hd : d ≤ J.length) : ixTo J y J.length = ixTo J y (J.length - d) + stTo J (J.length - d) * horD J y d := by
  induction d with
  | zero => simp [horD]
  | succ d ih =>
    rw [ih (by omega), horD_step]
    have e : J.length - d = (J.length - 1 - d) + 1 := by omega
    have e2 : J.length - (d + 1) = J.length - 1 - d := by omega
    rw [e2, e, ixTo_step, stTo_step]
    generalize J.length - 1 - d = m
    generalize ixTo J y m = a
    generalize stTo J m = s
    generalize horD J y d = h
    generalize y m = q
    generalize J.getD m 0 + 1 = z
    rw [Int.mul_add, Int.mul_comm h z, ← Int.mul_assoc]
    omega
theorem ixTo_bd {J : List Int} {y : Nat → Int} {k : Nat} (hE : Each J k) (hy : UpTo J y k) : 0 ≤ ixTo J y k ∧ ixTo J y k < stTo J k := by
  induction k with
  | zero => simp [ixTo, stTo]
  | succ k ih =>
    have h1 := ih (hE.mono (Nat.le_succ k)) (fun i hi => hy i (by omega))
    have h2 := hy k (by omega)
    rw [ixTo_step, stTo_step]
    generalize ixTo J y k = a at *
    generalize stTo J k = s at *
    generalize y k = q at *
    generalize J.getD k 0 = z at *
    have h3 := Int.mul_nonneg (a := s) (b := q) (by omega) h2.1
    have h4 := Int.mul_le_mul_of_nonneg_left (a := q) (b := z) (c := s) h2.2 (by omega)
    rw [Int.mul_add, Int.mul_one]
    omega
theorem horD_nonneg {J : List Int} {y : Nat → Int} (hE : Each J J.length) (hy : UpTo J y J.length) {d : Nat} (hd : d ≤ J.length) : 0 ≤ horD J y d := by
  induction d with
  | zero => simp [horD]
  | succ d ih =>
    have h1 := ih (by omega)
    have h2 := hE (J.length - 1 - d) (by omega)
    have h3 := hy (J.length - 1 - d) (by omega)
    rw [horD_step]
    have := Int.mul_nonneg h1 (show 0 ≤ J.getD (J.length - 1 - d) 0 + 1 by omega)
    omega
theorem horD_bd {J : List Int} {y : Nat → Int} (hE : Each J J.length) (hy : UpTo J y J.length) {d : Nat} (hd : d ≤ J.length) : 0 ≤ horD J y d ∧ horD J y d ≤ stTo J J.length := by
  have h0 := horD_nonneg hE hy hd
  have h1 := ix_hor J y d hd
  have h2 := ixTo_bd hE hy
  have h3 := ixTo_bd (k := J.length - d) (hE.mono (by omega)) (fun i hi => hy i (by omega))
  have h4 := (stTo_bd (k := J.length - d) (hE.mono (by omega))).1
  refine ⟨h0, ?_⟩
  generalize horD J y d = h at *
  generalize stTo J (J.length - d) = s at *
  have h5 := Int.mul_le_mul_of_nonneg_right (a := 1) (b := s) (c := h) h4 h0
  omega
theorem hor_all (J : List Int) (y : Nat → Int) : horD J y J.length = ixTo J y J.length := by
  have := ix_hor J y J.length (Nat.le_refl _)
  simp [ixTo, stTo] at this
  exact this.symm
/-- The amount in the jug i of the water with the number n. -/
def atV (J : List Int) (n : Int) (i : Nat) : Int := (n / stTo J i) % (J.getD i 0 + 1)
theorem quo_step {J : List Int} {k : Nat} (hE : Each J k) (n : Int) : n / stTo J k / (J.getD k 0 + 1) = n / stTo J (k + 1) := by
  rw [stTo_step, Int.ediv_ediv_of_nonneg (by have := (stTo_bd hE).1; omega)]
theorem quo_bd {J : List Int} {k : Nat} (hE : Each J k) {n : Int} (hn : 0 ≤ n) : 0 ≤ n / stTo J k ∧ n / stTo J k ≤ n := by
  have h1 := (stTo_bd hE).1
  exact ⟨Int.ediv_nonneg hn (by omega), Int.ediv_le_self _ hn⟩
theorem atV_past {J : List Int} {i : Nat} (h : J.length ≤ i) (n : Int) : atV J n i = 0 := by
  unfold atV; rw [getD_ge h]; simp [Int.emod_one]
theorem atV_bd {J : List Int} {i : Nat} (hE : Each J J.length) (n : Int) : 0 ≤ atV J n i ∧ atV J n i ≤ J.getD i 0 ∧ atV J n i ≤ 60 := by
  by_cases h : i < J.length
  · have h1 := hE i h
    unfold atV
    generalize J.getD i 0 = z at *
    generalize n / stTo J i = q
    have := Int.emod_nonneg q (show z + 1 ≠ 0 by omega)
    have := Int.emod_lt_of_pos q (show 0 < z + 1 by omega)
    omega
  · rw [atV_past (by omega), getD_ge (by omega)]; omega
end Go.Proofs.Ytjmgalmndpjcoaa
