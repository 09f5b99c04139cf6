/-
  The walks of the functions that report validity, in the program and in its model.
-/
import Derived.Test.YtieghjpecoiodaaScale
namespace Go.Proofs.Ytieghjpecoiodaa
open Go.RowKit

def Srt (xs : List Int) : Prop := ∀ j, j < xs.length → 0 < j → xs.getD (j - 1) 0 ≤ xs.getD j 0
/-! ### validity of placings -/
def OkP (ps : List Int) : Prop := ∀ j, j < ps.length → -1 ≤ ps.getD j 0 ∧ ps.getD j 0 ≤ 1
noncomputable def okP (ps : List Int) : Bool := cb (OkP ps)
theorem signsOnly_any (b off c : Nat) (xs : List Int) (w : World) (hn : xs.length ≤ 1048576) (hc : At .i8 w b off xs) :
    Calls Try.prog 66 #[.slice (some ⟨b, off, none⟩) xs.length c] w fun e w' => e = .returned (.bool (okP xs)) ∧ w = w' := by
  go_enter Try.func66, Try.ntmps66
  go_wp2
  go_loop [7] (fun i => ∃ k : Nat, k ≤ xs.length ∧ i = .int .i64 k ∧ ∀ j, j < k → -1 ≤ xs.getD j 0 ∧ xs.getD j 0 ≤ 1) (fun i => xs.length - (intOf i).toNat)
  case atStart => exact ⟨0, Nat.zero_le _, rfl, fun j h => absurd h (by omega)⟩
  case round =>
    obtain ⟨k, hk, rfl, hg⟩ := hrel
    have Hg := Lib.hid hg
    clear hg
    by_cases hlt : k < xs.length
    · have hcell := hc k hlt
      by_cases h1 : xs.getD k 0 < -1
      · have Hr := Lib.hid (show okP xs = false from cb_f (p := OkP xs) (fun h => by have := h k hlt; omega))
        generalize xs.getD k 0 = x at *
        go_wp2
        go_ret
        exact ⟨retb Hr.out.symm, rfl⟩
      · by_cases h2 : 1 < xs.getD k 0
        · have Hr := Lib.hid (show okP xs = false from cb_f (p := OkP xs) (fun h => by have := h k hlt; omega))
          generalize xs.getD k 0 = x at *
          go_wp2
          go_ret
          exact ⟨retb Hr.out.symm, rfl⟩
        · have Hn := Lib.hid (show ∀ j, j < k + 1 → -1 ≤ xs.getD j 0 ∧ xs.getD j 0 ≤ 1 from fun j hj => by
            by_cases e : j = k
            · subst e; omega
            · exact Hg.out j (by omega))
          generalize xs.getD k 0 = x at *
          go_wp2
          go_round
          case rel => exact ⟨k + 1, by omega, by go_num, Hn.out⟩
          case measure => simp [intOf]; omega
    · have Hr := Lib.hid (show okP xs = true from cb_t (p := OkP xs) (fun j hj => Hg.out j (by omega)))
      go_wp2
      go_ret
      exact ⟨retb Hr.out.symm, rfl⟩

/-- weights and a placing that fit -/
def OkF (ws ps : List Int) : Prop := OkW ws ∧ ps.length = ws.length ∧ OkP ps
noncomputable def okF (ws ps : List Int) : Bool := cb (OkF ws ps)
theorem cb_and {p q r : Prop} (h : r ↔ p ∧ q) : cb r = (cb p && cb q) := by
  by_cases hp : p <;> by_cases hq : q
  · rw [cb_t hp, cb_t hq, cb_t (h.2 ⟨hp, hq⟩)]; rfl
  · rw [cb_t hp, cb_f hq, cb_f (fun k => hq (h.1 k).2)]; rfl
  · rw [cb_f hp, cb_f (fun k => hp (h.1 k).1)]; rfl
  · rw [cb_f hp, cb_f (fun k => hp (h.1 k).1)]; rfl
end Go.Proofs.Ytieghjpecoiodaa
