/-
  Sets as bits: how many things a set has, told by a table of bytes, and by halving.
-/
import Derived.Test.YtgadcggeoonihaaDoorC1
import Derived.Lib.BitFns
namespace Go.Proofs.YtgadcggeoonihaaDoor
open Go.RowKit

theorem pop_zero (k : Nat) : Lib.popAux k 0 = 0 := by
  induction k with
  | zero => rfl
  | succ k ih => simp [Lib.popAux, ih]
theorem pop_split (k m x : Nat) : Lib.popAux (k + m) x = Lib.popAux k (x % 2 ^ k) + Lib.popAux m (x / 2 ^ k) := by
  induction k generalizing x with
  | zero => simp [Lib.popAux]
  | succ k ih =>
    rw [show k + 1 + m = (k + m) + 1 by omega]
    simp only [Lib.popAux]
    rw [ih (x / 2)]
    have e1 : x % 2 ^ (k + 1) % 2 = x % 2 := Nat.mod_mod_of_dvd x ⟨2 ^ k, by rw [Nat.pow_succ, Nat.mul_comm]⟩
    have e2 : x % 2 ^ (k + 1) / 2 = x / 2 % 2 ^ k := by
      rw [Nat.pow_succ, Nat.mul_comm, Nat.mod_mul]
      have := Nat.mod_lt x (show 0 < 2 by decide)
      omega
    have e3 : x / 2 / 2 ^ k = x / 2 ^ (k + 1) := by rw [Nat.div_div_eq_div_mul, Nat.pow_succ, Nat.mul_comm]
    rw [e1, e2, e3]
    omega
/-- How many things a set has. -/
def sz (x : Nat) : Nat := Lib.popAux 16 x
theorem pop_le (k x : Nat) : Lib.popAux k x ≤ k := by
  induction k generalizing x with
  | zero => simp [Lib.popAux]
  | succ k ih => simp only [Lib.popAux]; have := ih (x / 2); omega
theorem sz_le (x : Nat) : sz x ≤ 16 := pop_le 16 x
theorem sz_zero : sz 0 = 0 := pop_zero 16
theorem sz_half (x : Nat) (h : x < 65536) : sz x = x % 2 + sz (x / 2) := by
  have h1 : Lib.popAux 16 (x / 2) = Lib.popAux 15 (x / 2 % 2 ^ 15) + Lib.popAux 1 (x / 2 / 2 ^ 15) := pop_split 15 1 (x / 2)
  have e1 : x / 2 % 2 ^ 15 = x / 2 := Nat.mod_eq_of_lt (by omega)
  have e2 : x / 2 / 2 ^ 15 = 0 := by omega
  rw [e1, e2, pop_zero] at h1
  unfold sz
  rw [h1]
  rfl
theorem pop_long (x : Nat) (h : x < 256) : Lib.onesCount x = Lib.popAux 8 x := by
  have h1 : Lib.popAux 64 x = Lib.popAux 8 (x % 2 ^ 8) + Lib.popAux 56 (x / 2 ^ 8) := pop_split 8 56 x
  have e1 : x % 2 ^ 8 = x := Nat.mod_eq_of_lt (by omega)
  have e2 : x / 2 ^ 8 = 0 := by omega
  rw [e1, e2, pop_zero] at h1
  exact h1
theorem sz_bytes (x : Nat) (h : x < 65536) : sz x = Lib.onesCount (x / 256) + Lib.onesCount (x % 256) := by
  have h1 : Lib.popAux 16 x = Lib.popAux 8 (x % 2 ^ 8) + Lib.popAux 8 (x / 2 ^ 8) := pop_split 8 8 x
  rw [pop_long _ (show x / 256 < 256 by omega), pop_long _ (show x % 256 < 256 by omega)]
  unfold sz
  rw [h1, show (2 : Nat) ^ 8 = 256 from rfl, Nat.add_comm]
end Go.Proofs.YtgadcggeoonihaaDoor
