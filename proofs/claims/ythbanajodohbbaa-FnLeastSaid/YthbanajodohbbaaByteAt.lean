/-
  What the laws about bytes share.
-/
import Derived.Test.YthbanajodohbbaaOwn
namespace Go.Proofs.Ythbanajodohbbaa
open Go.RowKit

def U8 (xs : List Int) : Prop := ∀ j, j < xs.length → 0 ≤ xs.getD j 0 ∧ xs.getD j 0 ≤ 255
theorem u8_of {xs : List Int} (h : ∀ n ∈ xs, (Lit.int .u8 n).wf = true) : U8 xs := by
  intro j hj
  have := h _ (List.getElem_mem hj)
  have e : xs.getD j 0 = xs[j] := by rw [List.getD_eq_getElem?_getD, List.getElem?_eq_getElem hj]; rfl
  rw [e]
  simp only [Lit.wf, Bool.and_eq_true, decide_eq_true_eq] at this
  exact ⟨this.1, this.2⟩
theorem a2At_any (B : Nat) (a : Option Addr) (c : Nat) (xs : List Int) (i n : Int) (w : World) (hb8 : ∀ j, j < xs.length → 0 ≤ xs.getD j 0 ∧ xs.getD j 0 ≤ 255) (hn : xs.length ≤ 1048576) (hx : Sl .u8 B w a xs) (hi : 0 ≤ i ∧ i ≤ 100) (hn1 : 1 ≤ n ∧ n ≤ 1000) :
    Calls Try.prog 5 #[.slice a xs.length c, .int .i64 i, .int .i64 n] w fun e w' => ∃ r, e = .returned (.int .i64 r) ∧ (0 ≤ r ∧ r < n) ∧ w = w' := by
  obtain ⟨k, rfl⟩ : ∃ k : Nat, i = k := ⟨i.toNat, by omega⟩
  have hne : (n == 0) = false := by simp; omega
  by_cases hlt : k < xs.length
  · have h8 := hb8 k hlt
    clear hb8
    rcases hx with rfl | ⟨b, off, rfl, _, hat⟩
    · exact absurd hlt (by simp)
    have h2 := hat k hlt
    clear hat
    generalize xs.getD k 0 = x at *
    have hm : 0 ≤ x % n ∧ x % n < n := ⟨Int.emod_nonneg _ (by omega), Int.emod_lt_of_pos _ (by omega)⟩
    have hnl : ¬ xs.length ≤ k := by omega
    go_enter Try.func5, Try.ntmps5
    go_wp2
    go_ret
    exact ⟨_, rfl, hm, rfl⟩
  · have hle : xs.length ≤ k := by omega
    have hm : (0 : Int) ≤ 0 ∧ 0 < n := by omega
    clear hb8 hx hlt
    go_enter Try.func5, Try.ntmps5
    go_wp2
    go_ret
    exact ⟨_, rfl, hm, rfl⟩
theorem a2Long_any (a a' : Option Addr) (n n' c c' : Nat) (w : World) :
    Calls Try.prog 4 #[.slice a n c, .slice a' n' c'] w fun e w' => e = .returned (.bool (cb (3000 < n ∨ 3000 < n'))) ∧ w = w' := by
  by_cases h1 : 3000 < n
  · rw [cb_t (.inl h1)]
    have d : decide ((3000 : Int) < (n : Int)) = true := by simp; omega
    have d1 : (3000 : Int) < (n : Int) := by omega
    clear h1
    go_enter Try.func4, Try.ntmps4
    go_wp2
    go_ret
    exact ⟨rfl, rfl⟩
  · by_cases h2 : 3000 < n'
    · rw [cb_t (.inr h2)]
      have d0 : ¬ (3000 : Int) < (n : Int) := by omega
      have d1 : (3000 : Int) < (n' : Int) := by omega
      clear h1 h2
      go_enter Try.func4, Try.ntmps4
      go_wp2
      go_ret
      exact ⟨rfl, rfl⟩
    · rw [cb_f (by omega)]
      have d0 : ¬ (3000 : Int) < (n : Int) := by omega
      have d1 : ¬ (3000 : Int) < (n' : Int) := by omega
      clear h1 h2
      go_enter Try.func4, Try.ntmps4
      go_wp2
      go_ret
      exact ⟨rfl, rfl⟩
end Go.Proofs.Ythbanajodohbbaa
