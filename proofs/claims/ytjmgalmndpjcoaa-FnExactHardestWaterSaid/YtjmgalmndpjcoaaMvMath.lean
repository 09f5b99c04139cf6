/-
  Moves as numbers: which ones are moves, and the water behind them.
-/
import Derived.Test.YtjmgalmndpjcoaaJugs4
namespace Go.Proofs.Ytjmgalmndpjcoaa
open Go.RowKit

/-- There is such a move with so many jugs. -/
def OkM (n k f t : Int) : Prop := (0 ≤ f ∧ f ≤ n - 1) ∧ ((k = 0 ∧ 0 ≤ t ∧ t ≤ n - 1) ∨ (k = 1 ∧ t = 0) ∨ (k = 2 ∧ t = 0))
/-- How much is poured. -/
def amt (J : List Int) (x : Nat → Int) (f t : Nat) : Int := if J.getD t 0 - x t < x f then J.getD t 0 - x t else x f
def pourX (J : List Int) (x : Nat → Int) (f t : Nat) : Nat → Int := fun i => x i - (if i = f then amt J x f t else 0) + (if i = t then amt J x f t else 0)
def fillX (J : List Int) (x : Nat → Int) (f : Nat) : Nat → Int := fun i => if i = f then J.getD f 0 else x i
def emptyX (x : Nat → Int) (f : Nat) : Nat → Int := fun i => if i = f then 0 else x i
/-- The water behind a move that there is. -/
def nextX (J : List Int) (x : Nat → Int) (k f t : Int) : Nat → Int := if k = 0 then pourX J x f.toNat t.toNat else if k = 1 then fillX J x f.toNat else emptyX x f.toNat
def Same4 (x y : Nat → Int) : Prop := x 0 = y 0 ∧ x 1 = y 1 ∧ x 2 = y 2 ∧ x 3 = y 3
/-- The code of a move. -/
noncomputable def movC (J : List Int) (tap : Bool) (x : Nat → Int) (k f t : Int) : Int :=
  if cb (OkM J.length k f t) = true then (if cb (k ≠ 0 ∧ tap = false) = true then 4 else if cb (Same4 (nextX J x k f t) x) = true then 4 else 0) else 2
noncomputable def movX (J : List Int) (tap : Bool) (x : Nat → Int) (k f t : Int) : Nat → Int := if movC J tap x k f t = 0 then nextX J x k f t else fun _ => 0
theorem amt_bd {J : List Int} {x : Nat → Int} {f t : Nat} (hf : 0 ≤ x f ∧ x f ≤ 60) (ht : 0 ≤ x t ∧ x t ≤ J.getD t 0) : 0 ≤ amt J x f t ∧ amt J x f t ≤ x f ∧ amt J x f t ≤ J.getD t 0 - x t := by
  unfold amt; split <;> omega
theorem pour_same {J : List Int} {x : Nat → Int} {f : Nat} : pourX J x f f = x := by
  funext i; unfold pourX; split <;> omega
theorem nextX_ok {J : List Int} {x : Nat → Int} {k f t : Int} (hE : Each J J.length) (hl : J.length ≤ 4) (hx : OkX J x) (h : OkM J.length k f t) : OkX J (nextX J x k f t) := by
  intro i hi
  have h0 := hx i hi
  obtain ⟨hf, ht⟩ := h
  have hfl : f.toNat < J.length := by omega
  have hxf := hx f.toNat (by omega)
  have hjf := hE f.toNat hfl
  unfold nextX
  rcases ht with ⟨rfl, ht⟩ | ⟨rfl, rfl⟩ | ⟨rfl, rfl⟩
  · rw [if_pos rfl]
    have htl : t.toNat < J.length := by omega
    have hxt := hx t.toNat (by omega)
    have hjt := hE t.toNat htl
    have ha := amt_bd (J := J) (x := x) (f := f.toNat) (t := t.toNat) (by omega) hxt
    unfold pourX
    generalize amt J x f.toNat t.toNat = a at *
    by_cases e1 : i = f.toNat
    · rw [if_pos e1, e1]
      by_cases e2 : f.toNat = t.toNat
      · rw [if_pos e2]; omega
      · rw [if_neg e2]; omega
    · rw [if_neg e1]
      by_cases e2 : i = t.toNat
      · rw [if_pos e2, e2]; omega
      · rw [if_neg e2]; omega
  · rw [if_neg (by omega), if_pos rfl]
    unfold fillX
    by_cases e1 : i = f.toNat
    · rw [if_pos e1, e1]; omega
    · rw [if_neg e1]; exact h0
  · rw [if_neg (by omega), if_neg (by omega)]
    unfold emptyX
    by_cases e1 : i = f.toNat
    · rw [if_pos e1, e1]; omega
    · rw [if_neg e1]; exact h0
theorem movC_cases (J : List Int) (tap : Bool) (x : Nat → Int) (k f t : Int) : movC J tap x k f t = 0 ∨ movC J tap x k f t = 2 ∨ movC J tap x k f t = 4 := by
  unfold movC
  split
  · split
    · exact .inr (.inr rfl)
    · split
      · exact .inr (.inr rfl)
      · exact .inl rfl
  · exact .inr (.inl rfl)
theorem movC_bad {J : List Int} {tap : Bool} {x : Nat → Int} {k f t : Int} (h : ¬ OkM J.length k f t) : movC J tap x k f t = 2 := by
  unfold movC; rw [cb_f h]; rfl
theorem movC_tap {J : List Int} {tap : Bool} {x : Nat → Int} {k f t : Int} (h : OkM J.length k f t) (h2 : k ≠ 0 ∧ tap = false) : movC J tap x k f t = 4 := by
  unfold movC; rw [cb_t h, cb_t h2]; rfl
theorem movC_same {J : List Int} {tap : Bool} {x : Nat → Int} {k f t : Int} (h : OkM J.length k f t) (h3 : Same4 (nextX J x k f t) x) : movC J tap x k f t = 4 := by
  unfold movC; rw [cb_t h, cb_t h3]; split
  · split <;> rfl
  · rename_i h; exact absurd rfl h
theorem movC_ok {J : List Int} {tap : Bool} {x : Nat → Int} {k f t : Int} (h : OkM J.length k f t) (h2 : ¬ (k ≠ 0 ∧ tap = false)) (h3 : ¬ Same4 (nextX J x k f t) x) : movC J tap x k f t = 0 := by
  unfold movC; rw [cb_t h, cb_f h2, cb_f h3]; rfl
end Go.Proofs.Ytjmgalmndpjcoaa
