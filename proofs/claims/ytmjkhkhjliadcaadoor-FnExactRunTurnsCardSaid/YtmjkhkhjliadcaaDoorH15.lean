/-
  Runs of plans as numbers.
-/
import Derived.Test.YtmjkhkhjliadcaaDoorH11
import Derived.Test.YtmjkhkhjliadcaaDoorOwn
namespace Go.Proofs.YtmjkhkhjliadcaaDoor
open Go.RowKit

/-- The tops behind the first k sets of a plan and the events behind them. -/
def rnX (J : List Int) (x : Nat → Int) (P : List Int) : Nat → Nat → Int
  | 0 => x
  | k + 1 => wtTo (trTo J (rnX J x P k) (P.getD k 0) J.length) (lsTo (trTo J (rnX J x P k) (P.getD k 0) J.length) 4) 4
def rnY (J : List Int) (x : Nat → Int) (P : List Int) (k : Nat) : Nat → Int := trTo J (rnX J x P k) (P.getD k 0) J.length
def rnM (J : List Int) (x : Nat → Int) (P : List Int) (k : Nat) : Int := lsTo (rnY J x P k) 4
def rnT (J : List Int) (x : Nat → Int) (P : List Int) : Nat → Int
  | 0 => 0
  | k + 1 => rnT J x P k + rnM J x P k
def rcTo (J : List Int) (x : Nat → Int) (P : List Int) : Nat → Int
  | 0 => 0
  | k + 1 => if rcTo J x P k = 0 then (if 2 ^ J.length ≤ P.getD k 0 then 2 else if rnM J x P k = 0 then 4 else 0) else rcTo J x P k
def rnC (J : List Int) (x : Nat → Int) (P : List Int) : Int := if 60 < P.length then 3 else rcTo J x P P.length
def rnL (J : List Int) (x : Nat → Int) (P : List Int) (k : Nat) : List Int := (List.range k).map (fun j => rnT J x P (j + 1))
/-- What a run answers. -/
def ruX (J : List Int) (x : Nat → Int) (P : List Int) : Nat → Int := if rnC J x P = 0 then rnX J x P P.length else noT
def ruL (J : List Int) (x : Nat → Int) (P : List Int) : List Int := if rnC J x P = 0 then rnL J x P P.length else []
theorem rnX_step (J : List Int) (x : Nat → Int) (P : List Int) (k : Nat) : rnX J x P (k + 1) = wtTo (rnY J x P k) (rnM J x P k) 4 := rfl
theorem rnT_step (J : List Int) (x : Nat → Int) (P : List Int) (k : Nat) : rnT J x P (k + 1) = rnT J x P k + rnM J x P k := rfl
theorem rnL_len (J : List Int) (x : Nat → Int) (P : List Int) (k : Nat) : (rnL J x P k).length = k := by unfold rnL; simp
theorem rnL_snoc (J : List Int) (x : Nat → Int) (P : List Int) (k : Nat) : rnL J x P (k + 1) = rnL J x P k ++ [rnT J x P (k + 1)] := by
  unfold rnL; rw [List.range_succ, List.map_append]; rfl
theorem trTo_ok {J : List Int} {x : Nat → Int} {s : Int} (hE : Each J J.length) (h : OkX J x) (k : Nat) (hk : k ≤ J.length) : OkX J (trTo J x s k) := fun i hi => by
  have h1 := h i hi
  unfold trTo
  by_cases hc : i < k ∧ bitT s i = true
  · rw [if_pos hc]
    have := hE i (by omega)
    omega
  · rw [if_neg hc]; exact h1
theorem wtTo_ok {J : List Int} {x : Nat → Int} (h : OkX J x) : OkX J (wtTo x (lsTo x 4) 4) := fun i hi => by
  have h1 := h i hi
  unfold wtTo
  by_cases hc : i < 4 ∧ 0 < x i
  · rw [if_pos hc]
    rcases lsTo_spec x 4 with ⟨e, ha⟩ | ⟨e, _, hm⟩
    · omega
    · have := hm i hi hc.2
      omega
  · rw [if_neg hc]; exact h1
theorem rnX_ok {J : List Int} {x : Nat → Int} (P : List Int) (hE : Each J J.length) (h : OkX J x) (k : Nat) : OkX J (rnX J x P k) := by
  induction k with
  | zero => exact h
  | succ k ih => exact wtTo_ok (trTo_ok hE ih _ (Nat.le_refl _))
theorem rnY_ok {J : List Int} {x : Nat → Int} (P : List Int) (hE : Each J J.length) (h : OkX J x) (k : Nat) : OkX J (rnY J x P k) := trTo_ok hE (rnX_ok P hE h k) _ (Nat.le_refl _)
theorem OkX.s16 {J : List Int} {x : Nat → Int} (hE : Each J J.length) (h : OkX J x) : W16 x := fun i hi => by have := h.w16 hE i hi; omega
theorem rnM_bd {J : List Int} {x : Nat → Int} (P : List Int) (hE : Each J J.length) (h : OkX J x) (k : Nat) : 0 ≤ rnM J x P k ∧ rnM J x P k ≤ 60 := by
  have hy := rnY_ok P hE h k
  unfold rnM
  rcases lsTo_spec (rnY J x P k) 4 with ⟨e, _⟩ | ⟨e, ⟨j, hj, e2⟩, _⟩
  · omega
  · have := hy.w16 hE j hj; omega
theorem rnT_bd {J : List Int} {x : Nat → Int} (P : List Int) (hE : Each J J.length) (h : OkX J x) (k : Nat) : 0 ≤ rnT J x P k ∧ rnT J x P k ≤ 60 * (k : Int) := by
  induction k with
  | zero => simp [rnT]
  | succ k ih => rw [rnT_step]; have := rnM_bd P hE h k; omega
theorem rcTo_stay {J : List Int} {x : Nat → Int} {P : List Int} {k : Nat} {c : Int} (h : rcTo J x P k = c) (hc : c ≠ 0) : ∀ m, k ≤ m → rcTo J x P m = c := by
  intro m hm
  induction m with
  | zero => obtain rfl : k = 0 := by omega
            exact h
  | succ m ih =>
    by_cases e : k = m + 1
    · subst e; exact h
    · have := ih (by omega)
      unfold rcTo
      rw [if_neg (by rw [this]; exact hc)]; exact this
theorem rcTo_far {J : List Int} {x : Nat → Int} {P : List Int} {k : Nat} (h : rcTo J x P k = 0) (hf : 2 ^ J.length ≤ P.getD k 0) (hk : k < P.length) : rcTo J x P P.length = 2 :=
  rcTo_stay (show rcTo J x P (k + 1) = 2 by unfold rcTo; rw [if_pos h, if_pos hf]) (by omega) _ hk
theorem rcTo_out {J : List Int} {x : Nat → Int} {P : List Int} {k : Nat} (h : rcTo J x P k = 0) (hf : ¬ 2 ^ J.length ≤ P.getD k 0) (hm : rnM J x P k = 0) (hk : k < P.length) : rcTo J x P P.length = 4 :=
  rcTo_stay (show rcTo J x P (k + 1) = 4 by unfold rcTo; rw [if_pos h, if_neg hf, if_pos hm]) (by omega) _ hk
theorem rcTo_go {J : List Int} {x : Nat → Int} {P : List Int} {k : Nat} (h : rcTo J x P k = 0) (hf : ¬ 2 ^ J.length ≤ P.getD k 0) (hm : ¬ rnM J x P k = 0) : rcTo J x P (k + 1) = 0 := by
  unfold rcTo; rw [if_pos h, if_neg hf, if_neg hm]
theorem ru_long {J : List Int} {x : Nat → Int} {P : List Int} (h : 60 < P.length) : ruL J x P = [] ∧ ruX J x P = noT ∧ rnC J x P = 3 := by
  have e : rnC J x P = 3 := if_pos h
  exact ⟨by unfold ruL; rw [e]; rfl, by unfold ruX; rw [e]; rfl, e⟩
theorem ru_bad {J : List Int} {x : Nat → Int} {P : List Int} {c : Int} (h : ¬ 60 < P.length) (hc : rcTo J x P P.length = c) (h0 : c ≠ 0) : ruL J x P = [] ∧ ruX J x P = noT ∧ rnC J x P = c := by
  have e : rnC J x P = c := by unfold rnC; rw [if_neg h]; exact hc
  exact ⟨by unfold ruL; rw [e, if_neg h0], by unfold ruX; rw [e, if_neg h0], e⟩
theorem ru_ok {J : List Int} {x : Nat → Int} {P : List Int} (h : ¬ 60 < P.length) (hc : rcTo J x P P.length = 0) : ruL J x P = rnL J x P P.length ∧ ruX J x P = rnX J x P P.length ∧ rnC J x P = 0 := by
  have e : rnC J x P = 0 := by unfold rnC; rw [if_neg h]; exact hc
  exact ⟨by unfold ruL; rw [if_pos e], by unfold ruX; rw [if_pos e], e⟩
end Go.Proofs.YtmjkhkhjliadcaaDoor
