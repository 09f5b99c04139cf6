/-
  A scope that a goto goes through again and again.
-/
import Derived.Test.YtmcbickfpccmfaaY6
import Derived.ScopeJumps
import Derived.WalkMore
namespace Go.Proofs.Ytmcbickfpccmfaa
open Go Go.RowKit
set_option maxRecDepth 100000
set_option linter.unusedVariables false
/-- As Q; a goto leads to the label l, where I holds with a lesser number. -/
def backTo (l : Nat) (J : Act → World → Prop) (Q : Exit → Act → World → Prop) : Exit → Act → World → Prop
  | .goto l', a, w => l' = l ∧ J a w
  | e, a, w => Q e a w
theorem wp_scope_again {P : Program} {c rest : Code} {Q : Exit → Act → World → Prop} {a : Act} {w : World} {l : Nat} (hf : findLabel c l = some rest) (I : Nat → Act → World → Prop)
    (hI : ∀ n a w, I n a w → rest.wp P (backTo l (fun a w => ∃ m, m < n ∧ I m a w) Q) a w)
    (h : c.wp P (backTo l (fun a w => ∃ n, I n a w) Q) a w) : (Code.scope c).wp P Q a w := by
  intro b k cs
  have key : ∀ n a w, I n a w → ∃ e a' w', Q e a' w' ∧ Arrives P (lone (b.at a (.code rest :: .inScope c :: k)) cs w) b k cs e a' w' := by
    intro n
    induction n using Nat.strongRecOn with
    | ind n ih =>
      intro a w h
      obtain ⟨e, a₁, w₁, hq, harr⟩ := hI n a w h b (.inScope c :: k) cs
      cases e with
      | normal => exact ⟨.normal, a₁, w₁, hq, Steps.trans harr (.one step_inScope)⟩
      | exit id => exact ⟨.exit id, a₁, w₁, hq, fun k' hk => harr k' (by simp [exitTo, hk])⟩
      | goto l' =>
        obtain ⟨rfl, m, hm, hi⟩ := hq
        obtain ⟨e₂, a₂, w₂, hq₂, harr₂⟩ := ih m hm a₁ w₁ hi
        exact ⟨e₂, a₂, w₂, hq₂, .of_steps (harr _ (by simp [gotoIn, hf])) harr₂⟩
      | ret => exact ⟨_, a₁, w₁, hq, harr⟩
      | panic ch => exact ⟨_, a₁, w₁, hq, harr⟩
      | outgrown => exact ⟨_, a₁, w₁, hq, harr⟩
  obtain ⟨e, a₁, w₁, hq, harr⟩ := h b (.inScope c :: k) cs
  refine (?_ : ∃ e a' w', Q e a' w' ∧ Arrives P (lone (b.at a (.code c :: .inScope c :: k)) cs w) b k cs e a' w') |> fun ⟨e, a₁, w₁, hq, harr⟩ => ⟨e, a₁, w₁, hq, .of_steps (.one step_scope) harr⟩
  cases e with
  | normal => exact ⟨.normal, a₁, w₁, hq, Steps.trans harr (.one step_inScope)⟩
  | exit id => exact ⟨.exit id, a₁, w₁, hq, fun k' hk => harr k' (by simp [exitTo, hk])⟩
  | goto l' =>
    obtain ⟨rfl, m, hi⟩ := hq
    obtain ⟨e₂, a₂, w₂, hq₂, harr₂⟩ := key m a₁ w₁ hi
    exact ⟨e₂, a₂, w₂, hq₂, .of_steps (harr _ (by simp [gotoIn, hf])) harr₂⟩
  | ret => exact ⟨_, a₁, w₁, hq, harr⟩
  | panic ch => exact ⟨_, a₁, w₁, hq, harr⟩
  | outgrown => exact ⟨_, a₁, w₁, hq, harr⟩
theorem wp_scope_round {P : Program} {c rest : Code} {Q : Exit → Act → World → Prop} {a : Act} {w : World} {l : Nat} (hf : findLabel c l = some (Code.skip.seq rest)) (I : Nat → Act → World → Prop)
    (hI : ∀ n a w, I n a w → rest.wp P (backTo l (fun a w => ∃ m, m < n ∧ I m a w) Q) a w)
    (h : (∀ n a w, I n a w → rest.wp P (backTo l (fun a w => ∃ n, I n a w) Q) a w) → c.wp P (backTo l (fun a w => ∃ n, I n a w) Q) a w) : (Code.scope c).wp P Q a w := by
  refine wp_scope_again hf I (fun n a w hi => wp_seq (wp_skip (hI n a w hi))) (h fun n a w hi => wp_mono (hI n a w hi) ?_)
  intro e a w hq
  cases e with
  | goto l' => exact ⟨hq.1, hq.2.imp fun _ h => h.2⟩
  | _ => exact hq
end Go.Proofs.Ytmcbickfpccmfaa
