/-
  The walks of the functions that reckon with a placing: sums, masses, how many weights are used, what a scale shows.
-/
import Derived.Test.YthbanajodohbbaaLaw
namespace Go.Proofs.Ythbanajodohbbaa
open Go.RowKit

noncomputable def codeW (ws : List Int) : Int := if okW ws = true then 0 else 1
noncomputable def sumV (ws : List Int) : Int := if okW ws = true then sumI ws else 0

theorem sumOfWeights_any (b off c : Nat) (xs : List Int) (w : World) (hn : xs.length ≤ 1048576) (hc : At .i16 w b off xs) (hwf : I16 xs) :
    Calls Try.prog 10 #[.slice (some ⟨b, off, none⟩) xs.length c] w fun e w' => e = .returned (.tuple #[.int .i64 (sumV xs), .int .i64 (codeW xs)]) ∧ Dr w w' := by
  have hO := validWeights_any b off c xs w hn hc hwf
  unfold sumV codeW
  cases hok : okW xs
  · rw [hok] at hO
    have H := Lib.hid hok; clear hok
    simp only [Bool.false_eq_true, if_false]
    go_enter Try.func10, Try.ntmps10
    go_wp2_with fail
    refine hO.mono ?_
    rintro e w' ⟨rfl, hdr⟩
    go_wp2
    go_ret2
    exact ⟨rfl, hdr⟩
  · rw [hok] at hO
    have H := Lib.hid hok; clear hok
    simp only [if_true]
    go_enter Try.func10, Try.ntmps10
    go_wp2_with fail
    refine hO.mono ?_
    rintro e w' ⟨rfl, hdr⟩
    go_wp2_with fail
    refine (sum_any b off c xs w' hn (hdr.at hc) hwf).mono ?_
    rintro e w2 ⟨rfl, rfl⟩
    go_wp2
    go_ret2
    exact ⟨rfl, hdr⟩

/-! ### masses -/
def massTo (ws ps : List Int) : Nat → Int
  | 0 => 0
  | k + 1 => massTo ws ps k + ws.getD k 0 * ps.getD k 0
def loadTo (q : Int) (ws ps : List Int) : Nat → Int
  | 0 => 0
  | k + 1 => loadTo q ws ps k + if ps.getD k 0 = q then ws.getD k 0 else 0
def usedTo (ps : List Int) : Nat → Int
  | 0 => 0
  | k + 1 => usedTo ps k + if ps.getD k 0 = 0 then 0 else 1
theorem usedTo_bd (ps : List Int) (k : Nat) : 0 ≤ usedTo ps k ∧ usedTo ps k ≤ k := by
  induction k with
  | zero => simp [usedTo]
  | succ k ih => unfold usedTo; split <;> omega
theorem loadTo_bd (q : Int) (ws ps : List Int) (h : I16 ws) (k : Nat) : -32768 * (k : Int) ≤ loadTo q ws ps k ∧ loadTo q ws ps k ≤ 32767 * (k : Int) := by
  induction k with
  | zero => simp [loadTo]
  | succ k ih => have := h k; unfold loadTo; split <;> omega
theorem massTo_bd (ws ps : List Int) (h : I16 ws) (h8 : I8 ps) (k : Nat) : -4194304 * (k : Int) ≤ massTo ws ps k ∧ massTo ws ps k ≤ 4194304 * (k : Int) := by
  induction k with
  | zero => simp [massTo]
  | succ k ih =>
    have h1 := h k
    have h2 := h8 k
    unfold massTo
    have : -4194304 ≤ ws.getD k 0 * ps.getD k 0 ∧ ws.getD k 0 * ps.getD k 0 ≤ 4194304 := by
      generalize ws.getD k 0 = x at *
      generalize ps.getD k 0 = y at *
      have hx : x.natAbs ≤ 32768 := by omega
      have hy : y.natAbs ≤ 128 := by omega
      have := Nat.mul_le_mul hx hy
      rw [← Int.natAbs_mul] at this
      omega
    omega
theorem massTo_load (ws ps : List Int) (h : OkP ps) (k : Nat) (hk : k ≤ ps.length) : massTo ws ps k = loadTo 1 ws ps k - loadTo (-1) ws ps k := by
  induction k with
  | zero => rfl
  | succ k ih =>
    have h1 := h k (by omega)
    have := ih (by omega)
    unfold massTo loadTo
    have h3 : ps.getD k 0 = -1 ∨ ps.getD k 0 = 0 ∨ ps.getD k 0 = 1 := by omega
    rcases h3 with e | e | e <;> rw [e] <;> simp <;> omega

end Go.Proofs.Ythbanajodohbbaa
