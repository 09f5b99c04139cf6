/-
  The walks of the functions that reckon with a placing: sums, masses, how many weights are used, what a scale shows.
-/
import Derived.Test.YtpagjegmdnanhaaLaw
namespace Go.Proofs.Ytpagjegmdnanhaa
open Go.RowKit

noncomputable def codeW (ws : List Int) : Int := if okW ws = true then 0 else 1
noncomputable def sumV (ws : List Int) : Int := if okW ws = true then sumI ws else 0

/-! ### masses -/
def massTo (ws ps : List Int) : Nat → Int
  | 0 => 0
  | k + 1 => massTo ws ps k + ws.getD k 0 * ps.getD k 0
def loadTo (q : Int) (ws ps : List Int) : Nat → Int
  | 0 => 0
  | k + 1 => loadTo q ws ps k + if ps.getD k 0 = q then ws.getD k 0 else 0
def usedTo (ps : List Int) : Nat → Int
  | 0 => 0
  | k + 1 => usedTo ps k + if ps.getD k 0 = 0 then 0 else 1
theorem usedTo_bd (ps : List Int) (k : Nat) : 0 ≤ usedTo ps k ∧ usedTo ps k ≤ k := by
  induction k with
  | zero => simp [usedTo]
  | succ k ih => unfold usedTo; split <;> omega
theorem loadTo_bd (q : Int) (ws ps : List Int) (h : I16 ws) (k : Nat) : -32768 * (k : Int) ≤ loadTo q ws ps k ∧ loadTo q ws ps k ≤ 32767 * (k : Int) := by
  induction k with
  | zero => simp [loadTo]
  | succ k ih => have := h k; unfold loadTo; split <;> omega
theorem massTo_bd (ws ps : List Int) (h : I16 ws) (h8 : I8 ps) (k : Nat) : -4194304 * (k : Int) ≤ massTo ws ps k ∧ massTo ws ps k ≤ 4194304 * (k : Int) := by
  induction k with
  | zero => simp [massTo]
  | succ k ih =>
    have h1 := h k
    have h2 := h8 k
    unfold massTo
    have : -4194304 ≤ ws.getD k 0 * ps.getD k 0 ∧ ws.getD k 0 * ps.getD k 0 ≤ 4194304 := by
      generalize ws.getD k 0 = x at *
      generalize ps.getD k 0 = y at *
      have hx : x.natAbs ≤ 32768 := by omega
      have hy : y.natAbs ≤ 128 := by omega
      have := Nat.mul_le_mul hx hy
      rw [← Int.natAbs_mul] at this
      omega
    omega
theorem massTo_load (ws ps : List Int) (h : OkP ps) (k : Nat) (hk : k ≤ ps.length) : massTo ws ps k = loadTo 1 ws ps k - loadTo (-1) ws ps k := by
  induction k with
  | zero => rfl
  | succ k ih =>
    have h1 := h k (by omega)
    have := ih (by omega)
    unfold massTo loadTo
    have h3 : ps.getD k 0 = -1 ∨ ps.getD k 0 = 0 ∨ ps.getD k 0 = 1 := by omega
    rcases h3 with e | e | e <;> rw [e] <;> simp <;> omega

theorem l01Mass_any (b off c b' off' c' : Nat) (ws ps : List Int) (w : World) (hn : ws.length ≤ 1048576) (hl : ps.length = ws.length) (hc : At .i16 w b off ws) (hc' : At .i8 w b' off' ps) (hwf : I16 ws) (hwf' : I8 ps) :
    Calls Try.prog 32 #[.slice (some ⟨b, off, none⟩) ws.length c, .slice (some ⟨b', off', none⟩) ps.length c'] w fun e w' => e = .returned (.int .i64 (massTo ws ps ws.length)) ∧ Dr w w' := by
  have HL := Lib.hid hl
  have hl' : (ws.length : Nat) ≤ ps.length := by omega
  clear hl
  go_enter Try.func32, Try.ntmps32
  go_wp2
  go_loopw [5, 6] (fun s i wr => ∃ k : Nat, k ≤ ws.length ∧ i = .int .i64 k ∧ s = .int .i64 (massTo ws ps k) ∧ Dr w wr) (fun _ i _ => ws.length - (intOf i).toNat)
  case atStart => exact ⟨0, Nat.zero_le _, rfl, rfl, Dr.refl _⟩
  case round =>
    obtain ⟨k, hk, rfl, rfl, hdr⟩ := hrel
    replace hc := hdr.at hc
    replace hc' := hdr.at hc'
    by_cases hlt : k < ws.length
    · have h1 := hc k hlt
      have h2 := hc' k (by omega)
      have hlt' : k < ps.length := by omega
      have H := Lib.hid (show massTo ws ps (k + 1) = massTo ws ps k + ws.getD k 0 * ps.getD k 0 from rfl)
      have B := massTo_bd ws ps hwf hwf' k
      have B2 := massTo_bd ws ps hwf hwf' (k + 1)
      rw [H.out] at B2
      have hx := hwf k
      have hy := hwf' k
      generalize ws.getD k 0 = x at *
      generalize ps.getD k 0 = y at *
      generalize massTo ws ps k = M at *
      have W1 : wrap64 x = x := IntWalk.wrap64_in _ (by omega)
      have W2 : wrap64 y = y := IntWalk.wrap64_in _ (by omega)
      have W3 : wrap64 (x * y) = x * y := IntWalk.wrap64_in _ (by omega)
      have W4 : wrap64 (M + x * y) = M + x * y := IntWalk.wrap64_in _ (by omega)
      have HW := Lib.hid (And.intro W1 (And.intro W2 (And.intro W3 W4)))
      clear W1 W2 W3 W4 B2
      go_wp2
      go_quiet (fail)
      go_wp2
      go_roundw
      case rel =>
        refine ⟨k + 1, by omega, by go_num, ?_, hdr.trans (Dr.of _ _)⟩
        rw [H.out]
        first
          | rfl
          | (obtain ⟨e1, e2, e3, e4⟩ := HW.out; simp only [e3, e4])
      case measure => simp [intOf]; omega
    · have hke : k = ws.length := by omega
      have HK := Lib.hid hke
      clear hke
      go_wp2
      go_ret
      exact ⟨reti (by rw [HK.out]), hdr⟩
end Go.Proofs.Ytpagjegmdnanhaa
